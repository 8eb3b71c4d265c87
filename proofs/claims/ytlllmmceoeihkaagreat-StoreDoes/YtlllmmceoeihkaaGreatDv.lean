/-
  Bytes in a block: what is read there, what a store makes of them, what is kept; and the zero of a great array, never written out.
  New, Set, Fill and Get, of the program and of the document: what they make of the cells, and what they answer.
  Top and Get, of the program and of the document.
  Counts, of the document: how many cells there are of each kind.
  What is plain about tops and numbers of kinds.
  The cells as a slice, whether there is such a place, Get and Set of the program.
  Fill and Top of the program.
  What Div and Mod answer, of the program and of the document.
-/
import Derived.Test.YtlllmmceoeihkaaGreatProg
import Derived.WalkKit
import Derived.WalkLawsBesides
import Derived.WalkSpells
import Derived.Below
import Derived.Deep.MidRow
import Derived.Deep.OwnRows
namespace Go.Proofs.YtlllmmceoeihkaaGreat.K
open Go.RowKit
theorem ret_int {k:IntKind} {a b:Int} (h:a=b):Ending.returned (.int k a) = .returned (.int k b):=by rw [h]
theorem ret_bool {a b:Bool} (h:a=b):Ending.returned (.bool a) = .returned (.bool b):=by rw [h]
def dbl (l:List Value):Nat->List Value
 | 0=>l
 | n+1=>(dbl l n).append (dbl l n)
theorem dbl_replicate (v:Value) (m:Nat):∀ n,dbl (List.replicate m v) n=List.replicate (2 ^ n*m) v
 | 0=>by simp [dbl]
 | n+1=>by
   show dbl _ n++dbl _ n=_
   rw [dbl_replicate v m n,List.replicate_append_replicate,Nat.pow_succ,Nat.mul_assoc,Nat.mul_comm 2 m,<- Nat.mul_assoc,Nat.mul_two]
def vals (cs:List Int):Array Value:=(cs.map (Value.int .u8)).toArray
def Blk (w:World) (b:Nat) (t:TypeId) (cs:List Int):Prop:=w.heap[b]?=some (.cells (vals cs) t (0,0))
theorem vals_size (cs:List Int):(vals cs).size=cs.length:=by simp [vals]
theorem Blk.lt {w:World} {b:Nat} {t:TypeId} {cs:List Int} (h:Blk w b t cs):b<w.heap.size:=(Array.getElem?_eq_some_iff.1 h).1
theorem Blk.cell {w:World} {b:Nat} {t:TypeId} {cs:List Int} (h:Blk w b t cs) {k:Nat} (hk:k<cs.length):w.cell? ⟨b,k,none⟩=some (.int .u8 (cs.getD k 0)):=by
 rw [cell_of_row w b k _ t (0,0) h]
 simp [vals,hk]
theorem Blk.free {w:World} {b:Nat} {t:TypeId} {cs:List Int} (h:Blk w b t cs) (k:Nat):w.frozen? ⟨b,k,none⟩=false:=frozen_of_row w b k _ t h
theorem Blk.set {w:World} {b:Nat} {t:TypeId} {cs:List Int} (h:Blk w b t cs) (k:Nat) (x:Int):Blk (w.setCell ⟨b,k,none⟩ (.int .u8 x)) b t (cs.set k x):=by
 unfold Blk
 rw [heap_setCell_same w b k _ t _ h]
 simp [vals]
theorem Blk.other {w:World} {b b' k:Nat} {t:TypeId} {cs:List Int} {v:Value} (h:Blk w b t cs) (hb:b≠b'):Blk (w.setCell ⟨b',k,none⟩ v) b t cs:=(Below.heap_setCell w ⟨b',k,none⟩ v b hb).trans h
theorem Blk.below {w w':World} {b n:Nat} {t:TypeId} {cs:List Int} (h:Blk w b t cs) (hb:Below n w w') (hn:b<n):Blk w' b t cs:=(hb.block b hn).trans h
theorem Blk.new (w:World) (t:TypeId) (cs:List Int):Blk (w.alloc (.cells (vals cs) t)) w.heap.size t cs:=heap_alloc_new w _
structure Only (g:Nat) (w w':World):Prop where
 os:w'.os=w.os
 tape:w'.tape=w.tape
 output:w'.output=w.output
 size:w'.heap.size=w.heap.size
 block:∀ k,k≠g->w'.heap[k]?=w.heap[k]?
theorem Only.refl (g:Nat) (w:World):Only g w w:=⟨rfl,rfl,rfl,rfl,fun _ _=>rfl⟩
theorem Only.set {g:Nat} {a w:World} (h:Only g a w) (k:Nat) (v:Value):Only g a (w.setCell ⟨g,k,none⟩ v) :=
 ⟨h.os,h.tape,h.output,by rw [<- h.size];simp [World.setCell],fun j hj=>(Below.heap_setCell w ⟨g,k,none⟩ v j hj).trans (h.block j hj)⟩
theorem Only.below {g B:Nat} {w w':World} (h:Only g w w') (hB:B<=g):Below B w w' :=
 ⟨h.os,h.tape,h.output,Nat.le_of_eq h.size.symm,fun k hk=>h.block k (by omega)⟩
theorem Blk.only {w w':World} {b g:Nat} {t:TypeId} {cs:List Int} (h:Blk w b t cs) (o:Only g w w') (hb:b≠g):Blk w' b t cs:=(o.block b hb).trans h
theorem made_vals (n:Nat):madeCells #[.int .u8 0] n=vals (List.replicate n 0):=by
 apply Array.ext
 ·simp [madeCells,vals]
 ·intro i h1 h2
  simp [madeCells,vals]
  rw [Nat.mod_one]
  rfl
theorem info5:(Tryz.prog.info? 5).map (fun i=>(i.zero,i.size,i.bytes))=some (some (.int .u8 0),1,1):=by kernel_rfl
theorem info3:(Tryz.prog.info? 3).map (fun i=>(i.zero,i.size,i.bytes))=some (some (.int .i64 0),1,8):=by kernel_rfl
theorem make_bytes (w:World):(Instr.makeSlice 61 (.int .i64 32768) (.int .i64 32768)).run Tryz.prog w = .ok (.slice (some ⟨w.heap.size,0,none⟩) 32768 32768) (w.alloc (.cells (vals (List.replicate 32768 0)) 5)):=by
 have:=run_make_row' (P:=Tryz.prog) 61 5 (.int .u8 0) 1 Tryz.underlying61 info5 rfl .i64 .i64 32768 (by omega) (by omega) w
 rw [made_vals] at this
 exact this
theorem z122:Tryz.t122.zero=some (.agg (dbl (List.replicate 64 (.int .u8 0)) 9).toArray):=by kernel_rfl
theorem zero122 (w:World):(zeroValue 122).run Tryz.prog w = .ok (.agg (vals (List.replicate 32768 0))) w:=by
 have e:(dbl (List.replicate 64 (.int .u8 0)) 9).toArray=vals (List.replicate 32768 0):=by
  rw [dbl_replicate,vals,List.map_replicate]
 unfold zeroValue
 rw [Sem.run_bind,Tryz.typeInfo122,Result.andThen_ok,z122,e]
 rfl
end Go.Proofs.YtlllmmceoeihkaaGreat.K
namespace Go.Proofs.YtlllmmceoeihkaaGreat.K
open Go.RowKit
theorem new_c (w:World):Calls Tryz.prog 56 #[] w fun e w'=>e = .returned (.pointer (some ⟨w.heap.size,0,none⟩))∧w'=w.alloc (.cells (vals (List.replicate 32768 0)) 122):=by
 have hz:=zero122
 generalize hv:vals (List.replicate 32768 0)=V at hz ⊢
 have hs:V.size=32768:=by rw [<- hv,vals_size,List.length_replicate]
 clear hv
 go_enter Tryz.func56,Tryz.ntmps56
 go_wp2
 go_ret
 exact ⟨rfl,rfl⟩
def filTo (z:List Int) (a:Nat) (k:Int):Nat->List Int
 | 0=>z
 | n+1=>(filTo z a k n).set (a+n) k
theorem filTo_length (z:List Int) (a:Nat) (k:Int):∀ n,(filTo z a k n).length=z.length
 | 0=>rfl
 | n+1=>by unfold filTo;rw [List.length_set,filTo_length z a k n]
theorem filTo_getD (z:List Int) (a:Nat) (k:Int) (n j:Nat) (hj:j<z.length):(filTo z a k n).getD j 0=if a<=j∧j<a+n then k else z.getD j 0:=by
 induction n with
 | zero=>rw [if_neg (by omega)];rfl
 | succ n ih =>
   unfold filTo
   rw [List.getD_eq_getElem?_getD]
   by_cases e:a+n=j
   ·subst e
    rw [List.getElem?_set_self (by rw [filTo_length];exact hj),if_pos (by omega)]
    rfl
   ·rw [List.getElem?_set_ne e,<- List.getD_eq_getElem?_getD,ih]
    by_cases h:a<=j∧j<a+n
    ·rw [if_pos h,if_pos (by omega)]
    ·rw [if_neg h,if_neg (by omega)]
theorem getD_ext {l m:List Int} (hl:l.length=m.length) (h:∀ j,j<l.length->l.getD j 0=m.getD j 0):l=m:=by
 apply List.ext_getElem hl
 intro i h1 h2
 have:=h i h1
 rwa [List.getD_eq_getElem?_getD,List.getD_eq_getElem?_getD,List.getElem?_eq_getElem h1,List.getElem?_eq_getElem h2] at this
theorem filTo_full (z:List Int) (k:Int) (n:Nat) (hn:z.length=n):filTo z 0 k n=List.replicate n k:=by
 refine getD_ext (by rw [filTo_length,List.length_replicate,hn]) fun j hj=>?_
 rw [filTo_length] at hj
 rw [filTo_getD z 0 k n j hj,if_pos (by omega),List.getD_eq_getElem?_getD,List.getElem?_replicate_of_lt (by omega)]
 rfl
set_option maxRecDepth 100000 in
theorem rnew_c (k:Int) (h0:0<=k) (h1:k<=255) (w:World):Calls Tryz.prog 51 #[.int .i64 k] w fun e w'=>e = .returned (.slice (some ⟨w.heap.size,0,none⟩) 32768 32768)∧Blk w' w.heap.size 5 (List.replicate 32768 k)∧Below w.heap.size w w':=by
 have hmk:=make_bytes
 have hb:=Blk.new w 5 (List.replicate 32768 0)
 obtain ⟨Z,hZe⟩:∃ Z,Z=List.replicate 32768 (0:Int):=⟨_,rfl⟩
 have hZ:Z.length=32768:=by rw [hZe,List.length_replicate]
 rw [<- hZe] at hmk hb
 clear hZe
 go_enter Tryz.func51,Tryz.ntmps51
 go_wp2
 go_loopw [4] (fun i wr=>∃ n:Nat,n<=32768∧i = .int .i64 n∧Blk wr w.heap.size 5 (filTo Z 0 k n)∧Below w.heap.size w wr) (fun i _=>32768-(intOf i).toNat)
 case atStart=>exact ⟨0,Nat.zero_le _,rfl,hb,(Below.refl _ _).alloc (Nat.le_refl _) _⟩
 case round =>
  obtain ⟨n,hn,rfl,hB,hb1⟩:=hrel
  by_cases hlt:n<32768
  ·have hc:=hB.cell (k:=n) (by rw [filTo_length,hZ];exact hlt)
   have hf:=hB.free n
   have hlt':(n:Int)<32768:=by omega
   generalize (filTo Z 0 k n).getD n 0=x at hc
   have R1:Blk (wr.setCell ⟨w.heap.size,n,none⟩ (.int .u8 k)) w.heap.size 5 (filTo Z 0 k (n+1)):=by show Blk _ _ _ ((filTo Z 0 k n).set (0+n) k);rw [Nat.zero_add];exact hB.set n k
   have R2:Below w.heap.size w (wr.setCell ⟨w.heap.size,n,none⟩ (.int .u8 k)):=hb1.setCell (p:=⟨w.heap.size,n,none⟩) (Nat.le_refl _) _
   clear hB hb1
   go_wp2
   go_roundw
   case rel=>exact ⟨n+1,by omega,by go_num,R1,R2⟩
   case measure=>simp [intOf];omega
  ·obtain rfl:n=32768:=by omega
   rw [filTo_full Z k 32768 hZ] at hB
   go_wp2
   go_ret
   exact ⟨rfl,hB,hb1⟩
def okSet (i k:Int):Bool:=decide (0<=i∧i<32768∧0<=k∧k<=16)
def setC (cs:List Int) (i k:Int):List Int:=if okSet i k then cs.set i.toNat k else cs
theorem okSet_no {i k:Int} (h:¬ (0<=i∧i<32768∧0<=k∧k<=16)) (cs:List Int):okSet i k=false∧setC cs i k=cs:=by
 have e:okSet i k=false:=decide_eq_false h
 exact ⟨e,by unfold setC;rw [e];rfl⟩
theorem okSet_yes {i k:Int} (h:0<=i∧i<32768∧0<=k∧k<=16) (cs:List Int):okSet i k=true∧setC cs i k=cs.set i.toNat k:=by
 have e:okSet i k=true:=decide_eq_true h
 exact ⟨e,by unfold setC;rw [e];rfl⟩
theorem isKind_c (k:Int) (w:World):Calls Tryz.prog 55 #[.int .i64 k] w fun e w'=>e = .returned (.bool (decide (0<=k∧k<=16)))∧w'=w:=by
 by_cases h0:0<=k
 ·by_cases h1:k<=16
  ·go_enter Tryz.func55,Tryz.ntmps55
   go_wp2
   go_ret
   exact ⟨ret_bool (by simp;omega),rfl⟩
  ·go_enter Tryz.func55,Tryz.ntmps55
   go_wp2
   go_ret
   exact ⟨ret_bool (by simp;omega),rfl⟩
 ·go_enter Tryz.func55,Tryz.ntmps55
  go_wp2
  go_ret
  exact ⟨ret_bool (by simp;omega),rfl⟩
end Go.Proofs.YtlllmmceoeihkaaGreat.K
namespace Go.Proofs.YtlllmmceoeihkaaGreat.K
open Go.RowKit
def Kinds (cs:List Int):Prop:=∀ x∈cs,0<=x∧x<=16
theorem Kinds.at {cs:List Int} (h:Kinds cs) (j:Nat):0<=cs.getD j 0∧cs.getD j 0<=16:=by
 rw [List.getD_eq_getElem?_getD]
 rcases e:cs[j]? with _ | x
 ·simp
 ·exact h x (List.mem_of_getElem? e)
def topTo (cs:List Int) (p:Nat):Nat->Int
 | 0 => -1
 | n+1=>if cs.getD (n*256+p) 0=0∨cs.getD (n*256+p) 0=16 then topTo cs p n else n
end Go.Proofs.YtlllmmceoeihkaaGreat.K
namespace Go.Proofs.YtlllmmceoeihkaaGreat.K
open Go.RowKit
def vals64 (l:List Int):Array Value:=(l.map (Value.int .i64)).toArray
def B64k (w:World) (b:Nat) (t:TypeId) (l:List Int):Prop:=w.heap[b]?=some (.cells (vals64 l) t (0,0))
theorem B64k.cell {w:World} {b:Nat} {t:TypeId} {l:List Int} (h:B64k w b t l) {k:Nat} (hk:k<l.length):w.cell? ⟨b,k,none⟩=some (.int .i64 (l.getD k 0)):=by
 rw [cell_of_row w b k _ t (0,0) h]
 simp [vals64,hk]
theorem B64k.free {w:World} {b:Nat} {t:TypeId} {l:List Int} (h:B64k w b t l) (k:Nat):w.frozen? ⟨b,k,none⟩=false:=frozen_of_row w b k _ t h
theorem B64k.set {w:World} {b:Nat} {t:TypeId} {l:List Int} (h:B64k w b t l) (k:Nat) (x:Int):B64k (w.setCell ⟨b,k,none⟩ (.int .i64 x)) b t (l.set k x):=by
 unfold B64k
 rw [heap_setCell_same w b k _ t _ h]
 simp [vals64]
theorem B64k.new (w:World) (t:TypeId) (l:List Int):B64k (w.alloc (.cells (vals64 l) t)) w.heap.size t l:=heap_alloc_new w _
theorem made_vals64 (n:Nat):madeCells #[.int .i64 0] n=vals64 (List.replicate n 0):=by
 apply Array.ext
 ·simp [madeCells,vals64]
 ·intro i h1 h2
  simp [madeCells,vals64]
  rw [Nat.mod_one]
  rfl
theorem make17 (w:World):(Instr.makeSlice 47 (.int .i64 17) (.int .i64 17)).run Tryz.prog w = .ok (.slice (some ⟨w.heap.size,0,none⟩) 17 17) (w.alloc (.cells (vals64 (List.replicate 17 0)) 3)):=by
 have:=run_make_row' (P:=Tryz.prog) 47 3 (.int .i64 0) 8 Tryz.underlying47 info3 rfl .i64 .i64 17 (by omega) (by omega) w
 rw [made_vals64] at this
 exact this
def cntTo (cs:List Int):Nat->List Int
 | 0=>List.replicate 17 0
 | n+1=>(cntTo cs n).set (cs.getD n 0).toNat ((cntTo cs n).getD (cs.getD n 0).toNat 0+1)
theorem cntTo_length (cs:List Int):∀ n,(cntTo cs n).length=17
 | 0=>rfl
 | n+1=>by unfold cntTo;rw [List.length_set,cntTo_length cs n]
theorem cntTo_at (cs:List Int) (n j:Nat) (hj:j<17):0<=(cntTo cs n).getD j 0∧(cntTo cs n).getD j 0<=n:=by
 induction n with
 | zero =>
   have:(cntTo cs 0).getD j 0=0:=by
    unfold cntTo
    rw [List.getD_eq_getElem?_getD,List.getElem?_replicate_of_lt hj]
    rfl
   rw [this]
   omega
 | succ n ih =>
   unfold cntTo
   rw [List.getD_eq_getElem?_getD]
   by_cases e:(cs.getD n 0).toNat=j
   ·rw [e,List.getElem?_set_self (by rw [cntTo_length];exact hj)]
    simp only [Option.getD_some]
    omega
   ·rw [List.getElem?_set_ne e,<- List.getD_eq_getElem?_getD]
    omega
def badTo (bs:List Int):Nat->Bool
 | 0=>false
 | n+1=>badTo bs n || decide (16<bs.getD n 0)
theorem badTo_mono (bs:List Int) {n m:Nat} (h:n<=m) (hb:badTo bs n=true):badTo bs m=true:=by
 induction m with
 | zero => obtain rfl:n=0:=by omega
           exact hb
 | succ m ih =>
   by_cases e:n=m+1
   ·subst e;exact hb
   ·unfold badTo;rw [ih (by omega)];rfl
def mayC (bs:List Int):Int:=if bs.length<32768 then 3 else if 32768<bs.length then 2 else if badTo bs 32768 then 10 else 0
end Go.Proofs.YtlllmmceoeihkaaGreat.K
namespace Go.Proofs.YtlllmmceoeihkaaGreat.K
open Go.RowKit
theorem topTo_lo (cs:List Int) (p:Nat):∀ n,-1<=topTo cs p n∧topTo cs p n<n
 | 0=>by simp [topTo]
 | n+1=>by
   have:=topTo_lo cs p n
   unfold topTo
   split <;> omega
def cnt (cs:List Int) (j:Int):Nat->Int
 | 0=>0
 | n+1=>cnt cs j n+if cs.getD n 0=j then 1 else 0
theorem cntTo_cnt (cs:List Int) (hk:Kinds cs) (j:Nat) (hj:j<17):∀ n,(cntTo cs n).getD j 0=cnt cs j n
 | 0=>by
   unfold cntTo cnt
   rw [List.getD_eq_getElem?_getD,List.getElem?_replicate_of_lt hj]
   rfl
 | n+1=>by
   have ih:=cntTo_cnt cs hk j hj n
   have hv:=hk.at n
   unfold cntTo cnt
   generalize cs.getD n 0=v at *
   rw [List.getD_eq_getElem?_getD]
   by_cases e:v.toNat=j
   ·rw [e,List.getElem?_set_self (by rw [cntTo_length];exact hj),if_pos (by omega),<- ih]
    rfl
   ·rw [List.getElem?_set_ne e,<- List.getD_eq_getElem?_getD,if_neg (by omega),ih,Int.add_zero]
theorem getD_set_ne (cs:List Int) {i j:Nat} (k:Int) (h:i≠j):(cs.set i k).getD j 0=cs.getD j 0:=by
 rw [List.getD_eq_getElem?_getD,List.getElem?_set_ne h,<- List.getD_eq_getElem?_getD]
end Go.Proofs.YtlllmmceoeihkaaGreat.K
namespace Go.Proofs.YtlllmmceoeihkaaGreat.K
open Go.RowKit
theorem all_c (g:Nat) (w:World) :
  Calls Tryz.prog 54 #[.pointer (some ⟨g,0,none⟩)] w fun e w'=>e = .returned (.slice (some ⟨g,0,none⟩) 32768 32768)∧w'=w:=by
 go_enter Tryz.func54,Tryz.ntmps54
 go_wp2
 go_ret
 exact ⟨rfl,rfl⟩
theorem has_c (g:Nat) (i:Int) (w:World) :
  Calls Tryz.prog 147 #[.pointer (some ⟨g,0,none⟩),.int .i64 i] w fun e w'=>e = .returned (.bool (decide (0<=i∧i<32768)))∧w'=w:=by
 by_cases h0:0<=i
 ·by_cases h1:i<32768
  ·go_enter Tryz.func147,Tryz.ntmps147
   go_wp2_with fail
   refine (all_c g _).mono ?_
   rintro _ _ ⟨rfl,rfl⟩
   go_wp2
   go_ret
   exact ⟨ret_bool (by simp;omega),rfl⟩
  ·go_enter Tryz.func147,Tryz.ntmps147
   go_wp2_with fail
   refine (all_c g _).mono ?_
   rintro _ _ ⟨rfl,rfl⟩
   go_wp2
   go_ret
   exact ⟨ret_bool (by simp;omega),rfl⟩
 ·go_enter Tryz.func147,Tryz.ntmps147
  go_wp2
  go_ret
  exact ⟨ret_bool (by simp;omega),rfl⟩
theorem set_c (g:Nat) (cs:List Int) (i k:Int) (w:World) (hB:Blk w g 122 cs) (hl:cs.length=32768) :
  Calls Tryz.prog 136 #[.pointer (some ⟨g,0,none⟩),.int .i64 i,.int .i64 k] w fun e w'=>e = .returned (.bool (okSet i k))∧Blk w' g 122 (setC cs i k)∧Only g w w':=by
 have hh:=has_c g i w
 have hq:=isKind_c k w
 by_cases hok:0<=i∧i<32768∧0<=k∧k<=16
 ·obtain ⟨e1,e2⟩:=okSet_yes hok cs
  rw [e1,e2]
  obtain ⟨i0,i1,k0,k1⟩:=hok
  rw [decide_eq_true ⟨i0,i1⟩] at hh
  rw [decide_eq_true ⟨k0,k1⟩] at hq
  obtain ⟨I,rfl⟩:=Int.eq_ofNat_of_zero_le i0
  have hI:I<32768:=by omega
  have hc:=hB.cell (k:=I) (by omega)
  have hf:=hB.free I
  generalize cs.getD I 0=x at hc
  have R1:Blk (w.setCell ⟨g,I,none⟩ (.int .u8 k)) g 122 (cs.set I k):=hB.set I k
  have R2:Only g w (w.setCell ⟨g,I,none⟩ (.int .u8 k)):=(Only.refl g w).set I _
  clear hB e1 e2
  simp only [Int.toNat_natCast]
  go_enter Tryz.func136,Tryz.ntmps136
  go_wp2_with fail
  refine hh.mono ?_
  clear hh
  rintro _ _ ⟨rfl,rfl⟩
  go_wp2_with fail
  refine hq.mono ?_
  clear hq
  rintro _ _ ⟨rfl,rfl⟩
  go_wp2
  go_ret
  exact ⟨rfl,R1,R2⟩
 ·obtain ⟨e1,e2⟩:=okSet_no hok cs
  rw [e1,e2]
  clear e1 e2
  by_cases hi:0<=i∧i<32768
  ·rw [decide_eq_true hi] at hh
   rw [decide_eq_false (by omega)] at hq
   go_enter Tryz.func136,Tryz.ntmps136
   go_wp2_with fail
   refine hh.mono ?_
   clear hh
   rintro _ _ ⟨rfl,rfl⟩
   go_wp2_with fail
   refine hq.mono ?_
   clear hq
   rintro _ _ ⟨rfl,rfl⟩
   go_wp2
   go_ret
   exact ⟨rfl,hB,Only.refl _ _⟩
  ·rw [decide_eq_false hi] at hh
   go_enter Tryz.func136,Tryz.ntmps136
   go_wp2_with fail
   refine hh.mono ?_
   clear hh
   rintro _ _ ⟨rfl,rfl⟩
   go_wp2
   go_ret
   exact ⟨rfl,hB,Only.refl _ _⟩
end Go.Proofs.YtlllmmceoeihkaaGreat.K
namespace Go.Proofs.YtlllmmceoeihkaaGreat.K
open Go.RowKit
theorem sizeOf5 (w:World):(sizeOf 5).run Tryz.prog w = .ok 1 w:=by kernel_rfl
end Go.Proofs.YtlllmmceoeihkaaGreat.K
set_option maxRecDepth 20000
namespace Go.Proofs.YtlllmmceoeihkaaGreat.D
open Go.RowKit
theorem ret_int {a b:Int} (h:a=b):Ending.returned (.int .i64 a) = .returned (.int .i64 b):=by rw [h]
theorem tdiv_floor (a b:Int) (hb:1<=b):(a.tmod b<0->a.tdiv b-1=a/b∧a.tmod b+b=a%b)∧(0<=a.tmod b->a.tdiv b=a/b∧a.tmod b=a%b):=by
 have e1:=Int.mul_tdiv_add_tmod a b
 have e2:=Int.mul_ediv_add_emod a b
 have m0:=Int.emod_nonneg a (show b≠0 by omega)
 have m1:=Int.emod_lt_of_pos a (show 0<b by omega)
 have t1:a.tmod b<b:=Int.tmod_lt_of_pos a (by omega)
 have t2 : -b<a.tmod b:=by
  have:=Int.tmod_lt_of_pos (-a) (show 0<b by omega)
  rw [Int.neg_tmod] at this
  omega
 constructor
 ·intro h
  have hm:a.tmod b+b=a%b:=by
   have:(a.tmod b+b)%b=a%b:=by
    rw [Int.add_emod_right]
    conv=>rhs;rw [<- e1]
    rw [Int.mul_add_emod_self_left]
   rw [Int.emod_eq_of_lt (by omega) (by omega)] at this
   exact this
  refine ⟨?_,hm⟩
  have h3:b*(a.tdiv b-1)=b*(a/b):=by rw [Int.mul_sub,Int.mul_one];omega
  exact Int.eq_of_mul_eq_mul_left (by omega) h3
 ·intro h
  have hm:a.tmod b=a%b:=by
   have:(a.tmod b)%b=a%b:=by
    conv=>rhs;rw [<- e1]
    rw [Int.mul_add_emod_self_left]
   rw [Int.emod_eq_of_lt h (by omega)] at this
   exact this
  refine ⟨?_,hm⟩
  have h3:b*(a.tdiv b)=b*(a/b):=by omega
  exact Int.eq_of_mul_eq_mul_left (by omega) h3
theorem div_bd (a b:Int) (hb:1<=b):(0<=a->0<=a/b∧a/b<=a)∧(a<0->a<=a/b∧a/b<0):=by
 have e2:=Int.mul_ediv_add_emod a b
 have m0:=Int.emod_nonneg a (show b≠0 by omega)
 have m1:=Int.emod_lt_of_pos a (show 0<b by omega)
 constructor
 ·intro h
  exact ⟨Int.ediv_nonneg h (by omega),Int.ediv_le_self _ h⟩
 ·intro h
  refine ⟨?_,Int.ediv_neg_of_neg_of_pos h (by omega)⟩
  exact (Int.le_ediv_iff_mul_le (by omega)).2 (by
   have:a*b<=a*1:=Int.mul_le_mul_of_nonpos_left (by omega) hb
   omega)
theorem tdiv_bd (a b:Int) (hb:1<=b) (h0 : -9223372036854775808<=a) (h1:a<=9223372036854775807) : -9223372036854775808<=a.tdiv b∧a.tdiv b<=9223372036854775807∧(a.tmod b<0 -> -9223372036854775808<a.tdiv b):=by
 have f:=tdiv_floor a b hb
 have d:=div_bd a b hb
 rcases Int.lt_or_le (a.tmod b) 0 with h | h
 ·have g:=f.1 h
  rcases Int.lt_or_le a 0 with k | k
  ·have:=d.2 k;omega
  ·have:=Int.tmod_nonneg b k;omega
 ·have g:=f.2 h
  rcases Int.lt_or_le a 0 with k | k
  ·have:=d.2 k;omega
  ·have:=d.1 k;omega
theorem tmod_bd (a b:Int) (hb:1<=b) : -b<a.tmod b∧a.tmod b<b:=by
 refine ⟨?_,Int.tmod_lt_of_pos a (by omega)⟩
 have:=Int.tmod_lt_of_pos (-a) (show 0<b by omega)
 rw [Int.neg_tmod] at this
 omega
set_option maxHeartbeats 400000 in
theorem div_hi (a b:Int) (w:World) (hb:1<=b) (hb1:b<=9223372036854775807) (h0 : -9223372036854775808<=a) (h1:a<=9223372036854775807):Calls Tryz.prog 81 #[.int .i64 a,.int .i64 b] w fun e w'=>e = .returned (.int .i64 (a/b))∧w'=w:=by
 have HF:Hid _:=tdiv_floor a b hb
 have hd:=tdiv_bd a b hb h0 h1
 have ht:=tmod_bd a b hb
 by_cases hm:a.tmod b<0
 ·go_enter Tryz.func81,Tryz.ntmps81
  go_wp2
  go_ret
  exact ⟨ret_int (HF.out.1 hm).1,rfl⟩
 ·go_enter Tryz.func81,Tryz.ntmps81
  go_wp2
  go_ret
  exact ⟨ret_int (HF.out.2 (by omega)).1,rfl⟩
set_option maxHeartbeats 400000 in
theorem mod_hi (a b:Int) (w:World) (hb:1<=b) (hb1:b<=9223372036854775807) (h0 : -9223372036854775808<=a) (h1:a<=9223372036854775807):Calls Tryz.prog 82 #[.int .i64 a,.int .i64 b] w fun e w'=>e = .returned (.int .i64 (a%b))∧w'=w:=by
 have HF:Hid _:=tdiv_floor a b hb
 have hd:=tdiv_bd a b hb h0 h1
 have ht:=tmod_bd a b hb
 by_cases hm:a.tmod b<0
 ·go_enter Tryz.func82,Tryz.ntmps82
  go_wp2
  go_ret
  exact ⟨ret_int (HF.out.1 hm).2,rfl⟩
 ·go_enter Tryz.func82,Tryz.ntmps82
  go_wp2
  go_ret
  exact ⟨ret_int (HF.out.2 (by omega)).2,rfl⟩
set_option maxHeartbeats 400000 in
theorem rdiv_hi (a b:Int) (w:World) (hb:1<=b) (hb1:b<=9223372036854775807) (h0 : -9223372036854775808<=a) (h1:a<=9223372036854775807):Calls Tryz.prog 60 #[.int .i64 a,.int .i64 b] w fun e w'=>e = .returned (.int .i64 (a/b))∧w'=w:=by
 have HF:Hid _:=tdiv_floor a b hb
 have hd:=tdiv_bd a b hb h0 h1
 have ht:=tmod_bd a b hb
 by_cases hm:a.tmod b<0
 ·go_enter Tryz.func60,Tryz.ntmps60
  go_wp2
  go_ret
  exact ⟨ret_int (HF.out.1 hm).1,rfl⟩
 ·go_enter Tryz.func60,Tryz.ntmps60
  go_wp2
  go_ret
  exact ⟨ret_int (HF.out.2 (by omega)).1,rfl⟩
end Go.Proofs.YtlllmmceoeihkaaGreat.D
