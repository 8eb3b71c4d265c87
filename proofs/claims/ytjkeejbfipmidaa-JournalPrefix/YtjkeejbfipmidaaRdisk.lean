/-
  The document's disk: what its memory holds.
-/
import Derived.Test.YtjkeejbfipmidaaMem
import Derived.Test.YtjkeejbfipmidaaDisk
import Derived.BigQuiet
namespace Go.Proofs.Ytjkeejbfipmidaa
open Go.RowKit

/-- Just blocks of F, and new ones, are others. -/
structure Chg (F : Nat → Prop) (w w' : World) : Prop where
  os : w'.os = w.os
  tape : w'.tape = w.tape
  output : w'.output = w.output
  size : w.heap.size ≤ w'.heap.size
  block : ∀ k, k < w.heap.size → ¬ F k → w'.heap[k]? = w.heap[k]?
theorem Chg.refl (F : Nat → Prop) (w : World) : Chg F w w := ⟨rfl, rfl, rfl, Nat.le_refl _, fun _ _ _ => rfl⟩
theorem Chg.trans {F G : Nat → Prop} {a b c : World} (h : Chg F a b) (k : Chg G b c) (hG : ∀ j, G j → F j ∨ a.heap.size ≤ j) : Chg F a c :=
  ⟨k.os.trans h.os, k.tape.trans h.tape, k.output.trans h.output, Nat.le_trans h.size k.size, fun j hj hf => by
    rw [k.block j (Nat.lt_of_lt_of_le hj h.size) (fun hg => (hG j hg).elim hf (fun h1 => by omega))]
    exact h.block j hj hf⟩
theorem Chg.of_below {F : Nat → Prop} {w w' : World} (h : Below w.heap.size w w') : Chg F w w' := ⟨h.os, h.tape, h.output, h.size, fun k hk _ => h.block k hk⟩
theorem Chg.below {F : Nat → Prop} {w w' : World} {B : Nat} (h : Chg F w w') (hF : ∀ k, F k → B ≤ k) (hB : B ≤ w.heap.size) : Below B w w' :=
  ⟨h.os, h.tape, h.output, h.size, fun k hk => h.block k (by omega) (fun hf => by have := hF k hf; omega)⟩

/-- The cells of blocks: where their bytes lie. -/
def rowOf : List Bk → List (Nat × Nat) → List Value
  | b :: r, q :: s => [.int .i64 b.f.1, .int .i64 b.f.2.1, .int .i64 b.f.2.2, .int .i64 b.i, .slice (some ⟨q.1, 0, none⟩) 32 q.2] ++ rowOf r s
  | _, _ => []
theorem rowOf_len : ∀ (l : List Bk) (q : List (Nat × Nat)), l.length = q.length → (rowOf l q).length = l.length * 5
  | [], [], _ => rfl
  | b :: r, p :: s, h => by
    rw [rowOf, List.length_append, rowOf_len r s (by simpa using h), List.length_cons]
    simp only [List.length_cons, List.length_nil]
    omega
theorem rowOf_at : ∀ (l : List Bk) (q : List (Nat × Nat)) (j : Nat) (hj : j < l.length) (hq : j < q.length), l.length = q.length →
    (rowOf l q)[j * 5]? = some (.int .i64 l[j].f.1) ∧ (rowOf l q)[j * 5 + 1]? = some (.int .i64 l[j].f.2.1) ∧ (rowOf l q)[j * 5 + 2]? = some (.int .i64 l[j].f.2.2) ∧ (rowOf l q)[j * 5 + 3]? = some (.int .i64 l[j].i) ∧
    (rowOf l q)[j * 5 + 4]? = some (.slice (some ⟨q[j].1, 0, none⟩) 32 q[j].2)
  | b :: r, p :: s, 0, _, _, _ => by simp [rowOf]
  | b :: r, p :: s, j + 1, hj, hq, h => by
    have ih := rowOf_at r s j (by simpa using hj) (by simpa using hq) (by simpa using h)
    rw [rowOf, show (j + 1) * 5 = 5 + j * 5 by omega]
    simp only [List.getElem_cons_succ]
    refine ⟨?_, ?_, ?_, ?_, ?_⟩
    · rw [List.getElem?_append_right (by simp)]; simpa using ih.1
    · rw [List.getElem?_append_right (by simp; omega), show 5 + j * 5 + 1 - [Value.int .i64 b.f.1, Value.int .i64 b.f.2.1, Value.int .i64 b.f.2.2, Value.int .i64 b.i, Value.slice (some ⟨p.1, 0, none⟩) 32 p.2].length = j * 5 + 1 by simp; omega]; exact ih.2.1
    · rw [List.getElem?_append_right (by simp; omega), show 5 + j * 5 + 2 - [Value.int .i64 b.f.1, Value.int .i64 b.f.2.1, Value.int .i64 b.f.2.2, Value.int .i64 b.i, Value.slice (some ⟨p.1, 0, none⟩) 32 p.2].length = j * 5 + 2 by simp; omega]; exact ih.2.2.1
    · rw [List.getElem?_append_right (by simp; omega), show 5 + j * 5 + 3 - [Value.int .i64 b.f.1, Value.int .i64 b.f.2.1, Value.int .i64 b.f.2.2, Value.int .i64 b.i, Value.slice (some ⟨p.1, 0, none⟩) 32 p.2].length = j * 5 + 3 by simp; omega]; exact ih.2.2.2.1
    · rw [List.getElem?_append_right (by simp; omega), show 5 + j * 5 + 4 - [Value.int .i64 b.f.1, Value.int .i64 b.f.2.1, Value.int .i64 b.f.2.2, Value.int .i64 b.i, Value.slice (some ⟨p.1, 0, none⟩) 32 p.2].length = j * 5 + 4 by simp; omega]; exact ih.2.2.2.2

/-- The document's disk in memory: the head, the blocks' row, each block's bytes; all of it within F. -/
structure RD (F : Nat → Prop) (w : World) (g : Nat) (S : St) (a : Option Addr) (c : Nat) (q : List (Nat × Nat)) : Prop where
  head : w.heap[g]? = some (.cells #[.slice a S.l.length c, .bool S.out, .bool S.armed, .int .i64 S.left, .int .i64 S.writes] 62 (0, 0))
  len : S.l.length = q.length
  row : w.ownsRow 0 72 5 (.slice a S.l.length c) S.l.length (rowOf S.l q)
  bytes : ∀ j (hj : j < S.l.length) (hq : j < q.length), Bytes w (some ⟨q[j].1, 0, none⟩) 32 S.l[j].b
  inF : F g ∧ (∀ h, a = some ⟨h, 0, none⟩ → F h ∧ h ≠ g) ∧ ∀ p ∈ q, F p.1 ∧ p.1 ≠ g ∧ a ≠ some ⟨p.1, 0, none⟩
  ok : Good S.l
  arm : S.armed = true → S.out = false → 1 ≤ S.left
  bds : -9223372036854775808 ≤ S.left ∧ S.left ≤ 9223372036854775807 ∧ 0 ≤ S.writes ∧ S.writes ≤ 1000000 ∧ S.l.length ≤ 1000000
/-- A disk. -/
def RDisk (F : Nat → Prop) (w : World) (g : Nat) (S : St) : Prop := ∃ a c q, RD F w g S a c q
end Go.Proofs.Ytjkeejbfipmidaa
