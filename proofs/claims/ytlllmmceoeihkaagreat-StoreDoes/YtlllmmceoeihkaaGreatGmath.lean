/-
  Memory: bytes, rows, what a call has gathered.
  Plain mathematics for the layer region: slots, their sectors, the header; no program is named here.
-/
import Derived.Test.YtlllmmceoeihkaaGreatProg
import Derived.WalkKit
import Derived.WalkLawsBesides
import Derived.WalkSpells
import Derived.Below
import Derived.Deep.MidRow
import Derived.Deep.OwnRows
import Derived.Deep.WholeRow
import Derived.Laws.CopyOwn
import Derived.Laws.BytesArg
import Derived.Laws.AppendOwnNone
import Derived.Lib.Walk
import Derived.Test.YtlllmmceoeihkaaGreatJJmath
namespace Go.Proofs.YtlllmmceoeihkaaGreat
open Go.RowKit
theorem ret_int {k:IntKind} {a b:Int} (h:a=b):Ending.returned (.int k a) = .returned (.int k b):=by rw [h]
theorem ret_bool {a b:Bool} (h:a=b):Ending.returned (.bool a) = .returned (.bool b):=by rw [h]
def vals (cs:List Int):Array Value:=(cs.map (Value.int .u8)).toArray
def Blk (w:World) (b:Nat) (t:TypeId) (cs:List Int):Prop:=w.heap[b]?=some (.cells (vals cs) t (0,0))
theorem vals_size (cs:List Int):(vals cs).size=cs.length:=by simp [vals]
theorem Blk.lt {w:World} {b:Nat} {t:TypeId} {cs:List Int} (h:Blk w b t cs):b<w.heap.size:=(Array.getElem?_eq_some_iff.1 h).1
theorem Blk.cell {w:World} {b:Nat} {t:TypeId} {cs:List Int} (h:Blk w b t cs) {k:Nat} (hk:k<cs.length):w.cell? ⟨b,k,none⟩=some (.int .u8 (cs.getD k 0)):=by
 rw [cell_of_row w b k _ t (0,0) h]
 simp [vals,hk]
theorem Blk.free {w:World} {b:Nat} {t:TypeId} {cs:List Int} (h:Blk w b t cs) (k:Nat):w.frozen? ⟨b,k,none⟩=false:=frozen_of_row w b k _ t h
theorem Blk.set {w:World} {b:Nat} {t:TypeId} {cs:List Int} (h:Blk w b t cs) (k:Nat) (x:Int):Blk (w.setCell ⟨b,k,none⟩ (.int .u8 x)) b t (cs.set k x):=by
 unfold Blk
 rw [heap_setCell_same w b k _ t _ h]
 simp [vals]
theorem Blk.other {w:World} {b b' k:Nat} {t:TypeId} {cs:List Int} {v:Value} (h:Blk w b t cs) (hb:b≠b'):Blk (w.setCell ⟨b',k,none⟩ v) b t cs:=(Below.heap_setCell w ⟨b',k,none⟩ v b hb).trans h
theorem Blk.below {w w':World} {b n:Nat} {t:TypeId} {cs:List Int} (h:Blk w b t cs) (hb:Below n w w') (hn:b<n):Blk w' b t cs:=(hb.block b hn).trans h
theorem Blk.new (w:World) (t:TypeId) (cs:List Int):Blk (w.alloc (.cells (vals cs) t)) w.heap.size t cs:=heap_alloc_new w _
structure Only (g:Nat) (w w':World):Prop where
 os:w'.os=w.os
 tape:w'.tape=w.tape
 output:w'.output=w.output
 size:w'.heap.size=w.heap.size
 block:∀ k,k≠g->w'.heap[k]?=w.heap[k]?
theorem Only.refl (g:Nat) (w:World):Only g w w:=⟨rfl,rfl,rfl,rfl,fun _ _=>rfl⟩
theorem Only.set {g:Nat} {a w:World} (h:Only g a w) (k:Nat) (v:Value):Only g a (w.setCell ⟨g,k,none⟩ v) :=
 ⟨h.os,h.tape,h.output,by rw [<- h.size];simp [World.setCell],fun j hj=>(Below.heap_setCell w ⟨g,k,none⟩ v j hj).trans (h.block j hj)⟩
theorem Only.below {g B:Nat} {w w':World} (h:Only g w w') (hB:B<=g):Below B w w' :=
 ⟨h.os,h.tape,h.output,Nat.le_of_eq h.size.symm,fun k hk=>h.block k (by omega)⟩
theorem Blk.only {w w':World} {b g:Nat} {t:TypeId} {cs:List Int} (h:Blk w b t cs) (o:Only g w w') (hb:b≠g):Blk w' b t cs:=(o.block b hb).trans h
theorem made_vals (n:Nat):madeCells #[.int .u8 0] n=vals (List.replicate n 0):=by
 apply Array.ext
 ·simp [madeCells,vals]
 ·intro i h1 h2
  simp [madeCells,vals]
  rw [Nat.mod_one]
  rfl
theorem info5:(Tryz.prog.info? 5).map (fun i=>(i.zero,i.size,i.bytes))=some (some (.int .u8 0),1,1):=by kernel_rfl
structure Bytes (w:World) (a:Option Addr) (len:Nat) (xs:List Int):Prop where
 n:xs.length=len
 cells:xs=[]∨∃ b off,a=some ⟨b,off,none⟩∧∀ k (h:k<xs.length),w.cell? ⟨b,off+k,none⟩=some (.int .u8 xs[k])
 fit:∀ z∈xs,0<=z∧z<=255
theorem Bytes.get {w:World} {a:Option Addr} {len:Nat} {xs:List Int} (h:Bytes w a len xs) (k:Nat) (hk:k<len) :
  ∃ b off z,a=some ⟨b,off,none⟩∧w.cell? ⟨b,off+k,none⟩=some (.int .u8 z)∧0<=z∧z<=255∧∃ h:k<xs.length,z=xs[k]:=by
 have hn:=h.n
 rcases h.cells with e | ⟨b,off,ha,hc⟩
 ·subst e;simp at hn;omega
 ·exact ⟨b,off,xs[k],ha,hc k (by omega),(h.fit _ (List.getElem_mem _)).1,(h.fit _ (List.getElem_mem _)).2,by omega,rfl⟩
theorem Tryz.info5:(Tryz.prog.info? 5).map (fun i=>(i.zero,i.size,i.bytes))=some (some (.int .u8 0),1,1):=by kernel_rfl
def Row (w:World) (g:Nat) (zs:List Int):Prop:=w.heap[g]?=some (.cells (zs.map (Value.int .u8)).toArray 5 (0,0))
theorem Row.cell {w:World} {g:Nat} {zs:List Int} (h:Row w g zs) (k:Nat) (hk:k<zs.length):w.cell? ⟨g,k,none⟩=some (.int .u8 zs[k]):=by
 rw [cell_of_row w g k _ 5 (0,0) h]
 simp [hk]
theorem Row.free {w:World} {g:Nat} {zs:List Int} (h:Row w g zs) (k:Nat):w.frozen? ⟨g,k,none⟩=false:=frozen_of_row w g k _ 5 h
theorem Row.set {w:World} {g:Nat} {zs:List Int} (h:Row w g zs) (k:Nat) (z:Int):Row (w.setCell ⟨g,k,none⟩ (.int .u8 z)) g (zs.set k z):=by
 unfold Row
 rw [heap_setCell_same w g k _ 5 _ h,List.setIfInBounds_toArray,List.map_set]
theorem Row.bytes {w:World} {g:Nat} {zs:List Int} (h:Row w g zs) (hf:∀ z∈zs,0<=z∧z<=255) (len:Nat) (hl:zs.length=len):Bytes w (some ⟨g,0,none⟩) len zs :=
 ⟨hl,.inr ⟨g,0,rfl,fun k hk=>by rw [Nat.zero_add];exact h.cell k hk⟩,hf⟩
theorem Row.below {B:Nat} {w w':World} {g:Nat} {zs:List Int} (h:Row w g zs) (hb:Below B w w') (hg:g<B):Row w' g zs:=by
 unfold Row;rw [hb.block g hg];exact h
theorem Row.lt {w:World} {g:Nat} {zs:List Int} (h:Row w g zs):g<w.heap.size:=(Array.getElem?_eq_some_iff.1 h).1
theorem Bytes.later {w w':World} {a:Option Addr} {len:Nat} {xs:List Int} (h:Bytes w a len xs) (hb:Below w.heap.size w w'):Bytes w' a len xs:=by
 refine ⟨h.n,?_,h.fit⟩
 rcases h.cells with e | ⟨b,off,e,hc⟩
 ·exact .inl e
 ·refine .inr ⟨b,off,e,fun k hk=>?_⟩
  have hlt:=World.block_lt_of_cell? w _ (hc k hk)
  exact (hb.cell (p:=⟨b,off+k,none⟩) hlt).trans (hc k hk)
theorem wpList_make_bytes (w:World) {ops:Array Oper} {rest:List Oper} {o:Oper} {a:Act} {Q:Exit->Act->World->Prop}
  (hg:o.guard=none) (l c:Operand) (hop:o.op=Op.makeSlice 61 l c) (L:Int) (n:Nat) (hl:a.eval l = .int .i64 L) (hc:a.eval c = .int .i64 L) (hL:L=(n:Int)) (hn:n<=281474976710656)
  (hK:∀ w',Hid (Row w' w.heap.size (List.replicate n 0))->Below w.heap.size w w'->wpList Tryz.prog ops Q rest (a.put o.dst (.slice (some ⟨w.heap.size,0,none⟩) n n)) w') :
  wpList Tryz.prog ops Q (o::rest) a w:=by
 obtain ⟨i,hi,hz0,hz1,hz2⟩:=info_parts Tryz.info5
 refine wpList_make_full w hg l c 61 hop w.heap.size 5 i (.int .u8 0) 1 Tryz.underlying61 hi hz0 hz1 .i64 .i64 L L n hl hc hL hL (by rw [hz2];omega) (by unfold maxLen;omega) (Nat.le_refl _) ?_
 intro w' hown hgrow
 refine hK w' ?_ ((Below.refl _ _).grown hgrow (Nat.le_refl _) (by simp))
 rcases hown.2 with ⟨h,_⟩|⟨g,cap,cur,hv,_,hh,_,_,hs,ht⟩
 ·simp at h
 ·simp only [Value.slice.injEq,Option.some.injEq,Addr.mk.injEq] at hv
  obtain ⟨⟨rfl,_⟩,_,rfl⟩:=hv
  show Row _ _ _
  unfold Row
  rw [hh]
  have e:cur.toList=List.replicate n (Value.int .u8 0):=by
   rw [List.take_of_length_le (by simp;omega)] at ht
   rw [ht]
   simp [Value.cells,toList_madeCells_one]
  rw [List.map_replicate,<- e]
theorem wpList_copy_bytes {w:World} {ops:Array Oper} {rest:List Oper} {o:Oper} {a:Act} {Q:Exit->Act->World->Prop} (hgd:o.guard=none) (d s:Operand)
  (ho:o.op = .call { callee:=.builtin .copy,args := #[d,s],argTypes := #[61,61] }) (g dLen dCap:Nat) (sp:Option Addr) (sLen sCap:Nat) (hd:a.eval d = .slice (some ⟨g,0,none⟩) dLen dCap) (hs:a.eval s = .slice sp sLen sCap)
  (zs xs:List Int) (hR:Row w g zs) (hz:zs.length=dLen) (hX:Bytes w sp sLen xs) (hle:sLen<=dLen) (B:Nat) (w0:World) (hb:Below B w0 w) (hBg:B<=g)
  (h:∀ w',Hid (Row w' g (xs++zs.drop sLen))->Below B w0 w'->wpList Tryz.prog ops Q rest (a.put o.dst (goInt sLen)) w'):wpList Tryz.prog ops Q (o::rest) a w:=by
 have hn:=hX.n
 obtain ⟨i,hi,hz0,hz1,hz2⟩:=info_parts Tryz.info5
 refine wpList_copy_splice hgd d s 61 61 ho 5 Tryz.underlying61 (by rw [hi];simp [hz1]) _ sp dLen dCap sLen sCap hd hs g 0 (zs.map (Value.int .u8)) 5 hR (xs.map (Value.int .u8)) (by rw [List.length_map,hn];exact (Nat.min_eq_left hle).symm) ?_ (by simp;omega) (ints_oneCell _ _) B w0 hb hBg ?_
 ·intro hp
  rcases hX.cells with e | ⟨b,off,e,hc⟩
  ·simp [e] at hp
  ·refine ⟨rfl,_,e,fun j v hj=>?_⟩
   obtain ⟨hj',hv⟩:=List.getElem?_eq_some_iff.1 hj
   rw [List.length_map] at hj'
   rw [Addr.add_lit,hc j hj',<- hv]
   simp
 ·intro w' hw hbel
  rw [List.length_map,hn]
  refine h w' ?_ hbel
  have hw:=hw.out
  show Row _ _ _
  unfold Row
  rw [hw]
  simp [splice,hn]
def Own (w:World) (B:Nat) (a:Option Addr) (c:Nat) (ys:List Int):Prop:=w.ownsRow B 5 1 (.slice a ys.length c) ys.length (ys.map (Value.int .u8))
theorem Own.nil (w:World) (B:Nat):Own w B none 0 []:=World.ownsRow_nil w B 5 1
theorem Own.parts {w:World} {B:Nat} {a:Option Addr} {c:Nat} {ys:List Int} (h:Own w B a c ys) :
  (a=none∧c=0∧ys=[])∨∃ g,a=some ⟨g,0,none⟩∧B<=g∧g<w.heap.size∧(∀ k (hk:k<ys.length),w.cell? ⟨g,k,none⟩=some (.int .u8 ys[k]))∧(∀ k,w.frozen? ⟨g,k,none⟩=false)∧ys.length<=c:=by
 rcases h.2 with ⟨hv,hn⟩|⟨g,cap,cur,hv,hg,hh,hc,_,hs,ht⟩
 ·simp only [Value.slice.injEq] at hv
  exact .inl ⟨hv.1,hv.2.2,List.eq_nil_of_length_eq_zero hn⟩
 ·simp only [Value.slice.injEq] at hv
  obtain ⟨rfl,_,rfl⟩:=hv
  refine .inr ⟨g,rfl,hg,(Array.getElem?_eq_some_iff.1 hh).1,fun k hk=>?_,fun k=>frozen_of_row w g k _ 5 hh,hc⟩
  have:=World.ownsRow.cellAt h k (by simpa using hk)
  rw [this]
  simp [hk]
theorem Own.bytes {w:World} {B:Nat} {a:Option Addr} {c:Nat} {ys:List Int} (h:Own w B a c ys) (hf:∀ z∈ys,0<=z∧z<=255) (len:Nat) (hl:ys.length=len):Bytes w a len ys:=by
 refine ⟨hl,?_,hf⟩
 rcases h.parts with ⟨_,_,e⟩|⟨g,e,_,_,hc,_⟩
 ·exact .inl e
 ·exact .inr ⟨g,0,e,fun k hk=>by rw [Nat.zero_add];exact hc k hk⟩
theorem Own.later {w w':World} {B:Nat} {a:Option Addr} {c:Nat} {ys:List Int} (h:Own w B a c ys) (hb:Below w.heap.size w w'):Own w' B a c ys:=by
 refine ⟨h.1,?_⟩
 rcases h.2 with h2 | ⟨g,cap,cur,hv,hg,hh,r⟩
 ·exact .inl h2
 ·exact .inr ⟨g,cap,cur,hv,hg,by rw [hb.block g (Array.getElem?_eq_some_iff.1 hh).1];exact hh,r⟩
theorem Own.set {w:World} {B:Nat} {g c:Nat} {ys:List Int} (h:Own w B (some ⟨g,0,none⟩) c ys) (k:Nat) (z:Int):Own (w.setCell ⟨g,k,none⟩ (.int .u8 z)) B (some ⟨g,0,none⟩) c (ys.set k z):=by
 unfold Own
 rw [List.length_set,List.map_set]
 exact (World.ownsRow.stored h k _).1
theorem Own.base {w:World} {B B':Nat} {a:Option Addr} {c:Nat} {ys:List Int} (h:Own w B a c ys) (hB:B'<=B):Own w B' a c ys:=by
 refine ⟨h.1,?_⟩
 rcases h.2 with h2 | ⟨g,cap,cur,hv,hg,r⟩
 ·exact .inl h2
 ·exact .inr ⟨g,cap,cur,hv,by omega,r⟩
theorem Own.some {w:World} {B:Nat} {a:Option Addr} {c:Nat} {ys:List Int} (h:Own w B a c ys) (hp:0<ys.length) :
  ∃ g,a = .some ⟨g,0,none⟩∧B<=g∧(∀ k (hk:k<ys.length),w.cell? ⟨g,k,none⟩ = .some (.int .u8 ys[k]))∧(∀ k,w.frozen? ⟨g,k,none⟩=false):=by
 rcases h.parts with ⟨_,_,e⟩|⟨g,e,hg,_,hc,hf,_⟩
 ·subst e;simp at hp
 ·exact ⟨g,e,hg,hc,hf⟩
theorem wpList_append_bytes {w:World} {ops:Array Oper} {rest:List Oper} {o:Oper} {a:Act} {Q:Exit->Act->World->Prop} (hgd:o.guard=none) (s x:Operand)
  (ho:o.op = .call { callee:=.builtin .append,args := #[s,x],argTypes := #[61,61] }) (B:Nat) (av:Option Addr) (n cv:Nat) (ys:List Int) (hn:ys.length=n) (hs:a.eval s = .slice av n cv) (hown:Own w B av cv ys)
  (sp:Option Addr) (m sc:Nat) (xs:List Int) (hx:a.eval x = .slice sp m sc) (hX:Bytes w sp m xs) (hnil:sp=none->sc=0) (hle:n+m<=140737488355328) (w0:World) (hb:Below B w0 w) (hB:B<=w.heap.size)
  (h:∀ a' c' w',Hid (Own w' B a' c' (ys++xs))->Below B w0 w'->B<=w'.heap.size->wpList Tryz.prog ops Q rest (a.put o.dst (.slice a' (n+m) c')) w'):wpList Tryz.prog ops Q (o::rest) a w:=by
 have hm:=hX.n
 obtain ⟨i,hi,hz0,hz1,hz2⟩:=info_parts Tryz.info5
 subst hn
 cases sp with
 | none =>
   obtain rfl:=hnil rfl
   have hxs:xs=[]:=by
    rcases hX.cells with e | ⟨b,off,e,_⟩
    ·exact e
    ·cases e
   subst hxs
   simp at hm
   subst hm
   refine wpList_append_own_none hgd s x 61 ho B 5 i 1 Tryz.underlying61 hi _ _ _ hs hown hx ?_
   have:=h av cv w (show Own _ _ _ _ _ by simpa using hown) hb hB
   simpa using this
 | some ad =>
   refine wpList_append_own w hgd s x 61 ho B 5 i (.int .u8 0) 1 1 Tryz.underlying61 hi hz0 hz1 hz2 rfl (by decide) _ _ _ hs hown ad m sc (xs.map (Value.int .u8)) hx (by simpa using hm) ?_ (ints_oneCell _ _) (by unfold maxLen;omega) (by omega) hB ?_
   ·intro j u hj
    obtain ⟨hj',hv⟩:=List.getElem?_eq_some_iff.1 hj
    rw [List.length_map] at hj'
    rcases hX.cells with e | ⟨b,off,e,hc⟩
    ·subst e;simp at hj'
    ·obtain rfl:=Option.some.inj e
     rw [Addr.add_lit,hc j hj',<- hv]
     simp
   ·intro v' w' h1 h2 _
    have hb':Below B w0 w':=hb.grown h2 hB (fun k hk=>(hown.lt k hk).1)
    have hB':B<=w'.heap.size:=Nat.le_trans hB h2.size
    have e:∃ a' c',v' = .slice a' (ys.length+m) c':=by
     rcases h1.2 with ⟨hv,hn⟩|⟨g,cap,_,hv,_⟩
     ·exact ⟨none,0,by rw [hv,hn]⟩
     ·exact ⟨_,_,hv⟩
    obtain ⟨a',c',rfl⟩:=e
    refine h a' c' w' ?_ hb' hB'
    show Own _ _ _ _ _
    unfold Own
    rw [List.length_append,hm,List.map_append]
    exact h1
theorem oneByte (w:World) (z:Int) (h:0<=z∧z<=255):Bytes (w.alloc (.cells #[.int .u8 z] 5)) (some ⟨w.heap.size,0,none⟩) 1 [z]:=by
 have hr:Row (w.alloc (.cells #[.int .u8 z] 5)) w.heap.size [z]:=heap_alloc_new w _
 exact hr.bytes (by simpa using h) 1 rfl
theorem belowAlloc {B:Nat} {w0 w:World} (h:Below B w0 w) (hB:B<=w.heap.size) (o:Obj):Below B w0 (w.alloc o)∧B<=(w.alloc o).heap.size:=by
 refine ⟨h.alloc hB o,?_⟩
 simp
 omega
structure Src (w:World) (a:Option Addr) (n:Nat) (bs:List Int):Prop where
 len:bs.length=n
 cells:∀ k,k<n->∃ b o,a=some ⟨b,o,none⟩∧b<w.heap.size∧w.cell? ⟨b,o+k,none⟩=some (.int .u8 (bs.getD k 0))
 byte:∀ k,0<=bs.getD k 0∧bs.getD k 0<=255
theorem conv_c {w:World} {a:Option Addr} {n cap:Nat} {bs:List Int} (h:Src w a n bs):(convert 61 9 (.slice a n cap)).run Tryz.prog w = .ok (.string (strOfNums bs)) w:=by
 have hn:=h.len
 rcases n with _ | n
 ·obtain rfl:=List.eq_nil_of_length_eq_zero hn
  cases a with
  | none=>exact run_convert_bytes_nil w 61 5 Tryz.underlying61 Tryz.underlying5 0 cap 9 Tryz.underlying9
  | some x =>
    rw [run_convert_bytes_string w 61 9 5 _ 0 cap Tryz.underlying61 Tryz.underlying5 Tryz.underlying9,run_bytesToString w x 0 cap [] (by simpa using run_loadCells_list (P:=Tryz.prog) w x [] (by simp))]
    rfl
 ·obtain ⟨b,o,rfl,_,_⟩:=h.cells 0 (by omega)
  exact run_convert_bytes_arg w 61 5 Tryz.underlying61 Tryz.underlying5 b o (n+1) cap bs hn (fun i hi=>by
   obtain ⟨b',o',e,_,hc⟩:=h.cells i hi
   cases e
   exact hc) 9 Tryz.underlying9
end Go.Proofs.YtlllmmceoeihkaaGreat
set_option maxRecDepth 20000
namespace Go.Proofs.YtlllmmceoeihkaaGreat
def needS (n:Nat):Nat:=(n+31)/32
def needI (n:Int):Int:=if n<1 then 0 else (n-1)/32+1
theorem needI_nat (n:Nat):needI (n:Int)=(needS n:Int):=by
 unfold needI needS
 split <;> omega
structure Rho where
 x:Int
 z:Int
 sp:List Sp
 dat:List (List Int)
def Rho.file (ρ:Rho):Fl:=(2,ρ.x,ρ.z)
def covers (s:Sp) (i:Nat):Bool:=decide (s.1<=i∧i<s.1+s.2)
def cnt (l:List Sp) (i:Nat):Nat:=l.countP (fun s=>covers s i)
def tkR (l:List Sp):List Bool:=(List.range 40).map fun i=>decide (0<cnt l i)
theorem tkR_len (l:List Sp):(tkR l).length=40:=by simp [tkR]
theorem tkR_at (l:List Sp) {i:Nat} (hi:i<40):(tkR l).getD i false=decide (0<cnt l i):=by
 simp [tkR,List.getD_eq_getElem?_getD,hi]
def slotOk (s:Sp) (b:List Int):Prop:=(b=[]∧s=(0,0))∨(1<=b.length∧s.2=needS b.length∧2<=s.1∧s.1+s.2<=40)
structure GoodR (sp:List Sp) (dat:List (List Int)):Prop where
 n:sp.length=16
 m:dat.length=16
 ok:∀ k (h:k<sp.length) (h':k<dat.length),slotOk sp[k] dat[k]
 once:∀ i,cnt sp i<=1
 fit:∀ b∈dat,∀ z∈b,0<=z∧z<=255
theorem cnt_append (l m:List Sp) (i:Nat):cnt (l++m) i=cnt l i+cnt m i:=by simp [cnt,List.countP_append]
theorem cnt_pos {l:List Sp} {i:Nat}:0<cnt l i↔∃ s∈l,s.1<=i∧i<s.1+s.2:=by
 simp [cnt,List.countP_pos_iff,covers]
theorem cnt_zero {l:List Sp} {i:Nat} (h:∀ s∈l,¬ (s.1<=i∧i<s.1+s.2)):cnt l i=0:=by
 rcases Nat.eq_zero_or_pos (cnt l i) with e | e
 ·exact e
 ·obtain ⟨s,hs,h1⟩:=cnt_pos.1 e
  exact absurd h1 (h s hs)
theorem cnt_free {h e:Nat} {T:List Bool} {l:List Sp} (H:IsSp h e T l) (i:Nat):cnt l i=if h<=i∧i<e∧T.getD i false=false then 1 else 0:=by
 have hle:cnt l i<=1:=by
  refine Nat.le_of_not_lt (fun h2=>?_)
  have hp:=H.gap
  clear H
  induction l with
  | nil=>simp [cnt] at h2
  | cons a r ih =>
    rw [List.pairwise_cons] at hp
    have e1:cnt (a::r) i=cnt r i+(if covers a i then 1 else 0):=by simp [cnt,List.countP_cons]
    by_cases hc:covers a i=true
    ·have hr:0<cnt r i:=by rw [e1,if_pos hc] at h2;omega
     obtain ⟨s,hs,h3⟩:=cnt_pos.1 hr
     have:=hp.1 s hs
     unfold covers at hc
     have:=of_decide_eq_true hc
     omega
    ·rw [e1,if_neg hc] at h2
     exact ih (by omega) hp.2
 split
 ·rename_i h1
  obtain ⟨s,hs,h2⟩:=H.all i h1.1 h1.2.1 h1.2.2
  have:=cnt_pos.2 ⟨s,hs,h2⟩
  omega
 ·rename_i h1
  refine cnt_zero (fun s hs h2=>h1 ?_)
  have:=H.ins s hs
  exact ⟨by omega,by omega,this.2.2.2 i h2.1 h2.2⟩
def freeR (sp:List Sp):List Sp:=spansS 2 (tkR sp)
theorem freeR_is (sp:List Sp):IsSp 2 40 (tkR sp) (freeR sp):=by
 have:=spans_is (h:=2) (T:=tkR sp) (by rw [tkR_len];omega)
 rwa [tkR_len] at this
theorem sp_in {sp:List Sp} {dat:List (List Int)} (H:GoodR sp dat) {s:Sp} (hs:s∈sp):s=(0,0)∨(2<=s.1∧s.1+s.2<=40):=by
 obtain ⟨k,hk,rfl⟩:=List.mem_iff_getElem.1 hs
 rcases H.ok k hk (by rw [H.m,<- H.n];exact hk) with h | h
 ·exact .inl h.2
 ·exact .inr ⟨h.2.2.1,h.2.2.2⟩
theorem sp_low {sp:List Sp} {dat:List (List Int)} (H:GoodR sp dat) {i:Nat} (hi:i<2):cnt sp i=0:=cnt_zero (fun s hs h2=>by
 rcases sp_in H hs with rfl | h
 ·simp only at h2;omega
 ·omega)
theorem all_once {sp:List Sp} {dat:List (List Int)} (H:GoodR sp dat) {i:Nat} (hi:i<40):(if i<2 then 1 else 0)+cnt sp i+cnt (freeR sp) i=1:=by
 rw [cnt_free (freeR_is sp) i,tkR_at sp hi]
 have h1:=H.once i
 by_cases h2:i<2
 ·rw [if_pos h2,sp_low H h2,if_neg (by omega)]
 ·rw [if_neg h2]
  by_cases h3:0<cnt sp i
  ·rw [if_neg (by rw [decide_eq_true h3];simp)]
   omega
  ·rw [if_pos ⟨by omega,hi,by rw [decide_eq_false h3]⟩]
   omega
structure Cs where
 s:Int
 b:List Int
def chgAll:List (List Int)->List Nat->List Cs->Option (List (List Int))
 | d,_,[]=>some d
 | d,had,c::r=>if 0<=c.s∧c.s<16∧c.s.toNat∉had then chgAll (d.set c.s.toNat c.b) (c.s.toNat::had) r else none
def needAll (d:List (List Int)):Nat:=(d.map fun b=>needS b.length).sum
def planS (d:List (List Int)) (l:List Cs):Int×List (List Int) :=
 match chgAll d [] l with
 | none=>(1,[])
 | some d'=>if 2+needAll d'<=40 then (0,d') else (11,[])
def hdr1 (s:Sp) (b:List Int):List Int:=[(s.1:Int),(s.2:Int),(b.length%256:Nat),(b.length/256:Nat)]
def hdrR (sp:List Sp) (dat:List (List Int)):List Int:=((sp.zip dat).map fun p=>hdr1 p.1 p.2).flatten
def blk (l:List Bk) (f:Fl) (i:Nat):List Int:=(has l f (i:Int)).getD (List.replicate 32 0)
def blks (l:List Bk) (f:Fl) (i n:Nat):List Int:=((List.range' i n).map (blk l f)).flatten
structure OnD (l:List Bk) (ρ:Rho):Prop where
 head:blks l ρ.file 0 2=hdrR ρ.sp ρ.dat
 dat:∀ k (h:k<ρ.sp.length) (h':k<ρ.dat.length),(blks l ρ.file ρ.sp[k].1 ρ.sp[k].2).take ρ.dat[k].length=ρ.dat[k]
structure Pb where
 i:Nat
 b:List Int
 a:Option Addr
 c:Nat
def putAll (f:Fl):List Bk->List Pb->List Bk
 | l,[]=>l
 | l,p::r=>putAll f (put l f (p.i:Int) p.b) r
end Go.Proofs.YtlllmmceoeihkaaGreat
