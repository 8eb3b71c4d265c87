/-
  What the walks of the program's space share.
  The program's space in memory; the library's Index and Contains over its row, and how many are free from a number on.
-/
import Derived.Test.YtlllmmceoeihkaaGreatProg
import Derived.WalkKit
import Derived.WalkLawsBesides
import Derived.WalkSpells
import Derived.Below
import Derived.Deep.MidRow
import Derived.Deep.OwnRows
import Derived.Deep.WholeRow
import Derived.Laws.AppendOwnNone
import Derived.Lib.Walk
import Derived.BigQuiet
import Derived.Test.YtlllmmceoeihkaaGreatJJmath
import Derived.Laws.OwnMore
import Derived.Deep.AppendLies
set_option maxRecDepth 20000
namespace Go.Proofs.YtlllmmceoeihkaaGreat.Q
open Go.RowKit
theorem ret_int {k:IntKind} {a b:Int} (h:a=b):Ending.returned (.int k a) = .returned (.int k b):=by rw [h]
theorem ret_bool {a b:Bool} (h:a=b):Ending.returned (.bool a) = .returned (.bool b):=by rw [h]
def I64 (x:Int):Prop := -9223372036854775808<=x∧x<=9223372036854775807
structure Only (g:Nat) (w w':World):Prop where
 os:w'.os=w.os
 tape:w'.tape=w.tape
 output:w'.output=w.output
 size:w'.heap.size=w.heap.size
 block:∀ k,k≠g->w'.heap[k]?=w.heap[k]?
theorem Only.refl (g:Nat) (w:World):Only g w w:=⟨rfl,rfl,rfl,rfl,fun _ _=>rfl⟩
theorem Only.set {g:Nat} {a w:World} (h:Only g a w) (k:Nat) (v:Value):Only g a (w.setCell ⟨g,k,none⟩ v) :=
 ⟨h.os,h.tape,h.output,by rw [<- h.size];simp [World.setCell],fun j hj=>(Below.heap_setCell w ⟨g,k,none⟩ v j hj).trans (h.block j hj)⟩
theorem Only.below {g B:Nat} {w w':World} (h:Only g w w') (hB:B<=g):Below B w w' :=
 ⟨h.os,h.tape,h.output,Nat.le_of_eq h.size.symm,fun k hk=>h.block k (by omega)⟩
structure Chg (F:Nat->Prop) (w w':World):Prop where
 os:w'.os=w.os
 tape:w'.tape=w.tape
 output:w'.output=w.output
 size:w.heap.size<=w'.heap.size
 block:∀ k,k<w.heap.size->¬ F k->w'.heap[k]?=w.heap[k]?
theorem Chg.refl (F:Nat->Prop) (w:World):Chg F w w:=⟨rfl,rfl,rfl,Nat.le_refl _,fun _ _ _=>rfl⟩
theorem Chg.trans {F G:Nat->Prop} {a b c:World} (h:Chg F a b) (k:Chg G b c) (hG:∀ j,G j->F j∨a.heap.size<=j):Chg F a c :=
 ⟨k.os.trans h.os,k.tape.trans h.tape,k.output.trans h.output,Nat.le_trans h.size k.size,fun j hj hf=>by
  rw [k.block j (Nat.lt_of_lt_of_le hj h.size) (fun hg=>(hG j hg).elim hf (fun h1=>by omega))]
  exact h.block j hj hf⟩
theorem Chg.of_below {F:Nat->Prop} {w w':World} (h:Below w.heap.size w w'):Chg F w w':=⟨h.os,h.tape,h.output,h.size,fun k hk _=>h.block k hk⟩
theorem Chg.below {F:Nat->Prop} {w w':World} {B:Nat} (h:Chg F w w') (hF:∀ k,F k->B<=k) (hB:B<=w.heap.size):Below B w w' :=
 ⟨h.os,h.tape,h.output,h.size,fun k hk=>h.block k (by omega) (fun hf=>by have:=hF k hf;omega)⟩
theorem cell_on {w w':World} {b j:Nat} {v:Value} (hb:Below w.heap.size w w') (hv:w.cell? ⟨b,j,none⟩=some v):w'.cell? ⟨b,j,none⟩=some v:=by
 rw [<- hv]
 exact World.cell?_of_block (a:=⟨b,j,none⟩) (hb.block b (World.block_lt_of_cell? w _ hv))
def mayB (h:Nat) (T:List Bool) (f m:Int) (b:Bool):Bool:=decide (1<=m∧(h:Int)<=f∧f<(T.length:Int)∧m<=(T.length:Int)-f) && allS T f.toNat m.toNat b
def bvals (T:List Bool):Array Value:=(T.map Value.bool).toArray
def doS (h:Nat) (T:List Bool) (f m:Int) (b c:Bool):List Bool:=if mayB h T f m b then setS T f.toNat m.toNat c else T
def erS (h:Nat) (T:List Bool) (f m:Int) (b:Bool):Int:=if mayB h T f m b then 0 else 1
theorem doS_len (h:Nat) (T:List Bool) (f m:Int) (b c:Bool):(doS h T f m b c).length=T.length:=by
 unfold doS
 split
 ·rename_i hx
  unfold mayB at hx
  rw [Bool.and_eq_true,decide_eq_true_iff] at hx
  exact setS_len (by omega) c
 ·rfl
def tkS (h:Nat) (T:List Bool) (n:Int):Int×Int×List Bool:=if n<1 then (0,1,T) else match takeS h T n.toNat with | some i=>((i:Int),0,setS T i n.toNat true) | none=>(0,7,T)
theorem info4:(Tryz.prog.info? 4).map (fun i=>(i.zero,i.size,i.bytes))=some (some (.bool false),1,1):=by kernel_rfl
theorem own_full {w:World} {base g N:Nat} {e:TypeId} {xs:List Value} (h:w.ownsRow base e 1 (.slice (some ⟨g,0,none⟩) N N) N xs):w.heap[g]?=some (.cells xs.toArray e (0,0)):=by
 rcases h.2 with ⟨h',_⟩|⟨g',cap,cur,hv,_,hh,_,_,hs,ht⟩
 ·simp at h'
 ·simp only [Value.slice.injEq,Option.some.injEq,Addr.mk.injEq,and_true,true_and] at hv
  obtain ⟨rfl,rfl⟩:=hv
  rw [hh]
  have e1:cur.toList=xs:=by
   rw [List.take_of_length_le (by simp;omega)] at ht
   exact ht
  rw [<- e1]
def spc (x:Sp):List Value:=[.int .i64 (x.1:Int),.int .i64 (x.2:Int)]
def spCells (l:List Sp):List Value:=l.flatMap spc
theorem spCells_snoc (l:List Sp) (x:Sp):spCells (l++[x])=spCells l++spc x:=by
 unfold spCells
 rw [List.flatMap_append]
 simp
theorem spCells_len (l:List Sp):(spCells l).length=l.length*2:=by
 induction l with
 | nil=>rfl
 | cons x r ih =>
   show (spc x++spCells r).length=_
   rw [List.length_append,ih,List.length_cons]
   simp only [spc,List.length_cons,List.length_nil]
   omega
theorem spCells_at:∀ (l:List Sp) (k:Nat) (h:k<l.length),(spCells l)[k*2]?=some (.int .i64 (l[k].1:Int))∧(spCells l)[k*2+1]?=some (.int .i64 (l[k].2:Int))
 | [],k,h=>absurd h (Nat.not_lt_zero _)
 | x::r,0,_=>⟨rfl,rfl⟩
 | x::r,k+1,h=>by
   have ih:=spCells_at r k (by simpa using h)
   have e:spCells (x::r)=spc x++spCells r:=rfl
   rw [e,List.getElem?_append_right (by simp [spc];omega),List.getElem?_append_right (by simp [spc];omega),show (k+1)*2-(spc x).length=k*2 by simp [spc];omega,show (k+1)*2+1-(spc x).length=k*2+1 by simp [spc];omega]
   simpa using ih
def OwnSp (w:World) (lo:Nat) (a:Option Addr) (c:Nat) (l:List Sp):Prop:=w.ownsRow lo 97 2 (.slice a l.length c) l.length (spCells l)
theorem info97:(Tryz.prog.info? 97).map (fun i=>(i.zero,i.size,i.bytes))=some (some (.agg #[.int .i64 0,.int .i64 0]),2,16):=by kernel_rfl
theorem OwnSp.at {w:World} {lo:Nat} {a:Option Addr} {c:Nat} {l:List Sp} (h:OwnSp w lo a c l) {k:Nat} (hk:k<l.length):∃ gb,a=some ⟨gb,0,none⟩∧lo<=gb∧gb<w.heap.size∧w.cell? ⟨gb,k*2,none⟩=some (.int .i64 (l[k].1:Int))∧w.cell? ⟨gb,k*2+1,none⟩=some (.int .i64 (l[k].2:Int)):=by
 unfold OwnSp at h
 obtain ⟨gb,rfl⟩:∃ gb,a=some ⟨gb,0,none⟩:=by
  rcases h.2 with ⟨_,h0⟩|⟨gb,_,_,hv,_⟩
  ·omega
  ·simp only [Value.slice.injEq] at hv
   exact ⟨gb,hv.1⟩
 have hcl:=spCells_at l k hk
 have hlt:=h.lt gb rfl
 exact ⟨gb,rfl,hlt.1,hlt.2,by rw [h.cellAt (k*2) (by omega)];exact hcl.1,by rw [h.cellAt (k*2+1) (by omega)];exact hcl.2⟩
theorem ownsRow_same {w w':World} {B:Nat} {e:TypeId} {sz n c:Nat} {a:Option Addr} {xs:List Value} (h:w.ownsRow B e sz (.slice a n c) n xs) (he:∀ b,a=some ⟨b,0,none⟩->w'.heap[b]?=w.heap[b]?):w'.ownsRow B e sz (.slice a n c) n xs:=by
 refine ⟨h.1,?_⟩
 rcases h.2 with h2 | ⟨b,cap,cur,hv,hb,hh,r⟩
 ·exact Or.inl h2
 ·have ea:a=some ⟨b,0,none⟩:=by simp only [Value.slice.injEq] at hv;exact hv.1
  exact Or.inr ⟨b,cap,cur,hv,hb,(he b ea).trans hh,r⟩
def Gr (F:Nat->Prop) (w w':World):Nat->Prop:=fun k=>F k∨(w.heap.size<=k∧k<w'.heap.size)
theorem Gr.lt {F:Nat->Prop} {a b:World} (hF:∀ k,F k->k<a.heap.size) (hs:a.heap.size<=b.heap.size):∀ k,Gr F a b k->k<b.heap.size:=fun k hk=>by
 rcases hk with h | h
 ·have:=hF k h;omega
 ·exact h.2
def badNew (n h:Int):Prop:=h<0∨n<h∨4096<n
end Go.Proofs.YtlllmmceoeihkaaGreat.Q
set_option maxRecDepth 20000
namespace Go.Proofs.YtlllmmceoeihkaaGreat.Q
open Go.RowKit
structure PS (w:World) (g tb h:Nat) (T:List Bool):Prop where
 head:w.heap[g]?=some (.cells #[.slice (some ⟨tb,0,none⟩) T.length T.length,.int .i64 (h:Int)] 205 (0,0))
 row:w.heap[tb]?=some (.cells (bvals T) 4 (0,0))
 ne:tb≠g
 le:h<=T.length
 few:T.length<=4096
theorem PS.cells {w:World} {g tb h:Nat} {T:List Bool} (H:PS w g tb h T):w.cell? ⟨g,0,none⟩=some (.slice (some ⟨tb,0,none⟩) T.length T.length)∧w.cell? ⟨g,1,none⟩=some (.int .i64 (h:Int)):=by
 refine ⟨?_,?_⟩
 ·rw [cell_of_row w g 0 _ 205 (0,0) H.head];rfl
 ·rw [cell_of_row w g 1 _ 205 (0,0) H.head];rfl
theorem row_at {w:World} {tb:Nat} {T:List Bool} (H:w.heap[tb]?=some (.cells (bvals T) 4 (0,0))) {i:Nat} (hi:i<T.length):w.cell? ⟨tb,i,none⟩=some (.bool (T.getD i false)):=by
 rw [cell_of_row w tb i _ 4 (0,0) H,List.getD_eq_getElem?_getD,List.getElem?_eq_getElem hi]
 simp [bvals,hi]
theorem PS.keep {w w':World} {g tb h:Nat} {T:List Bool} (H:PS w g tb h T) (hg:w'.heap[g]?=w.heap[g]?) (ht:w'.heap[tb]?=w.heap[tb]?):PS w' g tb h T :=
 ⟨hg.trans H.head,ht.trans H.row,H.ne,H.le,H.few⟩
theorem PS.on {w w':World} {g tb h:Nat} {T:List Bool} (H:PS w g tb h T) (hb:Below w.heap.size w w'):PS w' g tb h T :=
 H.keep (hb.block g (Array.getElem?_eq_some_iff.1 H.head).1) (hb.block tb (Array.getElem?_eq_some_iff.1 H.row).1)
theorem PS.set {w:World} {g tb h:Nat} {T:List Bool} (H:PS w g tb h T) (i:Nat) (b:Bool):PS (w.setCell ⟨tb,i,none⟩ (.bool b)) g tb h (T.set i b):=by
 refine ⟨?_,?_,H.ne,by rw [List.length_set];exact H.le,by rw [List.length_set];exact H.few⟩
 ·rw [List.length_set]
  exact (Below.heap_setCell w ⟨tb,i,none⟩ _ g (Ne.symm H.ne)).trans H.head
 ·rw [heap_setCell_same w tb i _ 4 _ H.row]
  simp [bvals]
set_option maxHeartbeats 1000000 in
theorem index_c (tb o n c:Nat) (T:List Bool) (v:Bool) (w:World) (hrow:w.heap[tb]?=some (.cells (bvals T) 4 (0,0))) (hle:o+n<=T.length) (hfew:T.length<=4096) :
  Calls Tryz.prog 141 #[.slice (some ⟨tb,o,none⟩) n c,.bool v] w fun e w'=>w'=w∧∃ j,j<=n∧(∀ i,i<j->T.getD (o+i) false≠v)∧((j=n∧e = .returned (.int .i64 (-1)))∨(j<n∧T.getD (o+j) false=v∧e = .returned (.int .i64 (j:Int)))):=by
 obtain ⟨Post,hPost⟩:∃ Post:Ending->World->Prop,Post=fun e w'=>w'=w∧∃ j,j<=n∧(∀ i,i<j->T.getD (o+i) false≠v)∧((j=n∧e = .returned (.int .i64 (-1)))∨(j<n∧T.getD (o+j) false=v∧e = .returned (.int .i64 (j:Int)))):=⟨_,rfl⟩
 rw [<- hPost]
 have HN:Hid ((∀ i,i<n->T.getD (o+i) false≠v)->Post (.returned (.int .i64 (-1))) w):=fun h=>by rw [hPost];exact ⟨rfl,n,Nat.le_refl _,h,.inl ⟨rfl,rfl⟩⟩
 have HY:Hid (∀ j,j<n->(∀ i,i<j->T.getD (o+i) false≠v)->T.getD (o+j) false=v->Post (.returned (.int .i64 (j:Int))) w):=fun j hj h1 h2=>by rw [hPost];exact ⟨rfl,j,by omega,h1,.inr ⟨hj,h2,rfl⟩⟩
 clear hPost
 have HR:Hid (w.heap[tb]?=some (.cells (bvals T) 4 (0,0))):=hrow
 have HL:Hid (o+n<=T.length):=hle
 have hn:n<=4096:=by omega
 clear hrow hle hfew
 go_enter Tryz.func141,Tryz.ntmps141
 go_wp2
 go_loopw [8] (fun x wr=>∃ (j:Nat),j<=n∧x = .int .i64 (j:Int)∧wr=w∧Hid (∀ i,i<j->T.getD (o+i) false≠v)) (fun x _=>n-(intOf x).toNat)
 case atStart=>exact ⟨0,Nat.zero_le _,by go_num,rfl,fun i hi=>by omega⟩
 case round =>
  obtain ⟨j,hj,rfl,rfl,HA⟩:=hrel
  by_cases hlt:j<n
  ·have hlt':(j:Int)<(n:Int):=by omega
   have hat:=row_at HR.out (i:=o+j) (by have:=HL.out;omega)
   have Hyes:Hid (T.getD (o+j) false=v->Post (.returned (.int .i64 (j:Int))) wr):=fun h=>HY.out j hlt HA.out h
   have Hmore:Hid (T.getD (o+j) false≠v->∀ i,i<j+1->T.getD (o+i) false≠v):=fun h i hi=>by
    by_cases hij:i=j
    ·rw [hij];exact h
    ·exact HA.out i (by omega)
   generalize T.getD (o+j) false=t at hat Hyes Hmore
   by_cases ht:t=v
   ·have R:=Hyes.out ht
    have ebb:(v == t)=true:=by simpa using ht.symm
    clear HN HY Hyes Hmore HA
    go_wp2
    exact R
   ·have HA2:Hid (∀ i,i<j+1->T.getD (o+i) false≠v):=Hmore.out ht
    have ebb:(v == t)=false:=by simpa using fun h=>ht h.symm
    clear HN HY Hyes Hmore HA
    go_wp2
    go_roundw
    case rel=>exact ⟨j+1,by omega,by go_num,trivial,HA2⟩
    case measure=>simp [intOf];omega
  ·obtain rfl:j=n:=by omega
   have hge:¬ (j:Int)<(j:Int):=by omega
   have R:=HN.out HA.out
   clear HN HY HA
   go_wp2
   exact R
end Go.Proofs.YtlllmmceoeihkaaGreat.Q
