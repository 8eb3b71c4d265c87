/-
  The disk's plain calls, and changes of memory within a footprint.
-/
import Derived.Test.YtlllmmceoeihkaaGreatHeld
import Derived.Test.YtlllmmceoeihkaaGreatJJmath
import Derived.BigQuiet
import Derived.OwnWalk
import Derived.Deep.Cut
import Derived.Deep.AppendLies
set_option maxRecDepth 20000
namespace Go.Proofs.YtlllmmceoeihkaaGreat
open Go.RowKit
structure Chg (F:Nat->Prop) (w w':World):Prop where
 os:w'.os=w.os
 tape:w'.tape=w.tape
 output:w'.output=w.output
 size:w.heap.size<=w'.heap.size
 block:∀ k,k<w.heap.size->¬ F k->w'.heap[k]?=w.heap[k]?
theorem Chg.refl (F:Nat->Prop) (w:World):Chg F w w:=⟨rfl,rfl,rfl,Nat.le_refl _,fun _ _ _=>rfl⟩
theorem Chg.trans {F G:Nat->Prop} {a b c:World} (h:Chg F a b) (k:Chg G b c) (hG:∀ j,G j->F j∨a.heap.size<=j):Chg F a c :=
 ⟨k.os.trans h.os,k.tape.trans h.tape,k.output.trans h.output,Nat.le_trans h.size k.size,fun j hj hf=>by
  rw [k.block j (Nat.lt_of_lt_of_le hj h.size) (fun hg=>(hG j hg).elim hf (fun h1=>by omega))]
  exact h.block j hj hf⟩
theorem Chg.of_below {F:Nat->Prop} {w w':World} (h:Below w.heap.size w w'):Chg F w w':=⟨h.os,h.tape,h.output,h.size,fun k hk _=>h.block k hk⟩
theorem Chg.below {F:Nat->Prop} {w w':World} {B:Nat} (h:Chg F w w') (hF:∀ k,F k->B<=k) (hB:B<=w.heap.size):Below B w w' :=
 ⟨h.os,h.tape,h.output,h.size,fun k hk=>h.block k (by omega) (fun hf=>by have:=hF k hf;omega)⟩
theorem Bytes.same {w w':World} {b off n:Nat} {xs:List Int} (h:Bytes w (some ⟨b,off,none⟩) n xs) (e:w'.heap[b]?=w.heap[b]?):Bytes w' (some ⟨b,off,none⟩) n xs:=by
 refine ⟨h.n,?_,h.fit⟩
 rcases h.cells with e0 | ⟨b',o',e1,hc⟩
 ·exact Or.inl e0
 ·cases e1
  refine Or.inr ⟨_,_,rfl,fun k hk=>?_⟩
  have:=hc k hk
  unfold World.cell? at this ⊢
  rw [e]
  exact this
theorem ownsRow_same {w w':World} {B:Nat} {e:TypeId} {sz n c:Nat} {a:Option Addr} {xs:List Value} (h:w.ownsRow B e sz (.slice a n c) n xs) (he:∀ b,a=some ⟨b,0,none⟩->w'.heap[b]?=w.heap[b]?):w'.ownsRow B e sz (.slice a n c) n xs:=by
 refine ⟨h.1,?_⟩
 rcases h.2 with h2 | ⟨b,cap,cur,hv,hb,hh,r⟩
 ·exact Or.inl h2
 ·have ea:a=some ⟨b,0,none⟩:=by simp only [Value.slice.injEq] at hv;exact hv.1
  exact Or.inr ⟨b,cap,cur,hv,hb,(he b ea).trans hh,r⟩
theorem box_new (w:World) (f1 f2 f3:Int):Below w.heap.size w (w.alloc (.cells #[.int .i64 f1,.int .i64 f2,.int .i64 f3] 179))∧(w.alloc (.cells #[.int .i64 f1,.int .i64 f2,.int .i64 f3] 179)).cell? ⟨w.heap.size,0,none⟩=some (.int .i64 f1)∧(w.alloc (.cells #[.int .i64 f1,.int .i64 f2,.int .i64 f3] 179)).cell? ⟨w.heap.size,1,none⟩=some (.int .i64 f2)∧(w.alloc (.cells #[.int .i64 f1,.int .i64 f2,.int .i64 f3] 179)).cell? ⟨w.heap.size,2,none⟩=some (.int .i64 f3):=by
 have h:=heap_alloc_new w (.cells #[.int .i64 f1,.int .i64 f2,.int .i64 f3] 179)
 refine ⟨(Below.refl _ _).alloc (Nat.le_refl _) _,?_,?_,?_⟩
 ·rw [cell_of_row _ _ 0 _ 179 (0,0) h];rfl
 ·rw [cell_of_row _ _ 1 _ 179 (0,0) h];rfl
 ·rw [cell_of_row _ _ 2 _ 179 (0,0) h];rfl
theorem read_arg (S:St) (f:Fl) (i:Int) (h:¬ (0<=i∧i<4096)):S.read f i=(1,[]):=by rw [St.read,if_neg h]
theorem read_down (S:St) (f:Fl) (i:Int) (h:0<=i∧i<4096) (ho:S.out=true):S.read f i=(8,[]):=by rw [St.read,if_pos h,if_pos ho]
theorem read_ok (S:St) (f:Fl) (i:Int) (h:0<=i∧i<4096) (ho:S.out=false):S.read f i=(0,(has S.l f i).getD (List.replicate 32 0)):=by rw [St.read,if_pos h,ho];rfl
theorem heap_alloc_old (w:World) (o:Obj) {k:Nat} (hk:k<w.heap.size):(w.alloc o).heap[k]?=w.heap[k]?:=((Below.refl w.heap.size w).alloc (Nat.le_refl _) o).block k hk
theorem write_arg (S:St) (f:Fl) (i:Int) (bs:List Int) (h:¬ argOk i bs.length):S.write f i bs=(1,S):=by rw [St.write,if_neg h]
theorem write_down (S:St) (f:Fl) (i:Int) (bs:List Int) (h:argOk i bs.length) (ho:S.out=true):S.write f i bs=(8,S):=by rw [St.write,if_pos h,if_pos ho]
theorem write_ok (S:St) (f:Fl) (i:Int) (bs:List Int) (h:argOk i bs.length) (ho:S.out=false):S.write f i bs=(0,S.wrote f i bs):=by rw [St.write,if_pos h,ho];rfl
end Go.Proofs.YtlllmmceoeihkaaGreat
