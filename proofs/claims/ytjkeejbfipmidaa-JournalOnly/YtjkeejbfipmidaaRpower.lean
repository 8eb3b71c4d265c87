/-
  The document's disk: New, Cut, Up.
-/
import Derived.Test.YtjkeejbfipmidaaRplace
namespace Go.Proofs.Ytjkeejbfipmidaa
open Go.RowKit

theorem Bytes.same {w w' : World} {b off n : Nat} {xs : List Int} (h : Bytes w (some ⟨b, off, none⟩) n xs) (e : w'.heap[b]? = w.heap[b]?) : Bytes w' (some ⟨b, off, none⟩) n xs := by
  refine ⟨h.n, ?_, h.fit⟩
  rcases h.cells with e0 | ⟨b', o', e1, hc⟩
  · exact Or.inl e0
  · cases e1
    refine Or.inr ⟨_, _, rfl, fun k hk => ?_⟩
    have := hc k hk
    unfold World.cell? at this ⊢
    rw [e]
    exact this
theorem ownsRow_same {w w' : World} {B : Nat} {e : TypeId} {sz n c : Nat} {a : Option Addr} {xs : List Value} (h : w.ownsRow B e sz (.slice a n c) n xs) (he : ∀ b, a = some ⟨b, 0, none⟩ → w'.heap[b]? = w.heap[b]?) : w'.ownsRow B e sz (.slice a n c) n xs := by
  refine ⟨h.1, ?_⟩
  rcases h.2 with h2 | ⟨b, cap, cur, hv, hb, hh, r⟩
  · exact Or.inl h2
  · have ea : a = some ⟨b, 0, none⟩ := by simp only [Value.slice.injEq] at hv; exact hv.1
    exact Or.inr ⟨b, cap, cur, hv, hb, (he b ea).trans hh, r⟩
/-- Nothing of the disk is another one. -/
theorem RD.keep {F : Nat → Prop} {w w' : World} {g : Nat} {S : St} {a : Option Addr} {c : Nat} {q : List (Nat × Nat)} (h : RD F w g S a c q) (he : ∀ k, F k → w'.heap[k]? = w.heap[k]?) : RD F w' g S a c q :=
  ⟨(he g h.inF.1).trans h.head, h.len, ownsRow_same h.row (fun b hb => he b (h.inF.2.1 b hb).1), fun j hj hq => (h.bytes j hj hq).same (he _ (h.inF.2.2 _ (List.getElem_mem hq)).1), h.inF, h.ok, h.arm, h.bds⟩
theorem RDisk.keep {F : Nat → Prop} {w w' : World} {g : Nat} {S : St} (h : RDisk F w g S) (he : ∀ k, F k → w'.heap[k]? = w.heap[k]?) : RDisk F w' g S := by
  obtain ⟨a, c, q, h⟩ := h
  exact ⟨a, c, q, h.keep he⟩
/-- Just the head is another one. -/
theorem RD.reset {F : Nat → Prop} {w w' : World} {g : Nat} {S : St} {a : Option Addr} {c : Nat} {q : List (Nat × Nat)} (h : RD F w g S a c q) (hO : Only g w w') {o m : Bool} {l n : Int}
    (hh : w'.heap[g]? = some (.cells #[.slice a S.l.length c, .bool o, .bool m, .int .i64 l, .int .i64 n] 62 (0, 0))) (harm : m = true → o = false → 1 ≤ l) (hb : -9223372036854775808 ≤ l ∧ l ≤ 9223372036854775807 ∧ 0 ≤ n ∧ n ≤ 1000000) : RD F w' g ⟨S.l, o, m, l, n⟩ a c q :=
  ⟨hh, h.len, ownsRow_same h.row (fun b hb => hO.block b (h.inF.2.1 b hb).2), fun j hj hq => (h.bytes j hj hq).same (hO.block _ (h.inF.2.2 _ (List.getElem_mem hq)).2.1), h.inF, h.ok, harm, ⟨hb.1, hb.2.1, hb.2.2.1, hb.2.2.2, h.bds.2.2.2.2⟩⟩
theorem Only.chg {F : Nat → Prop} {g : Nat} {w w' : World} (h : Only g w w') (hg : F g) : Chg F w w' := ⟨h.os, h.tape, h.output, Nat.le_of_eq h.size.symm, fun k _ hf => h.block k (fun e => hf (e ▸ hg))⟩
theorem RD.cell1 {F : Nat → Prop} {w : World} {g : Nat} {S : St} {a : Option Addr} {c : Nat} {q : List (Nat × Nat)} (h : RD F w g S a c q) : w.cell? ⟨g, 1, none⟩ = some (.bool S.out) ∧ w.cell? ⟨g, 2, none⟩ = some (.bool S.armed) ∧ w.cell? ⟨g, 3, none⟩ = some (.int .i64 S.left) ∧ w.cell? ⟨g, 4, none⟩ = some (.int .i64 S.writes) := by
  refine ⟨?_, ?_, ?_, ?_⟩
  · rw [cell_of_row w g 1 _ 62 (0, 0) h.head]; rfl
  · rw [cell_of_row w g 2 _ 62 (0, 0) h.head]; rfl
  · rw [cell_of_row w g 3 _ 62 (0, 0) h.head]; rfl
  · rw [cell_of_row w g 4 _ 62 (0, 0) h.head]; rfl

theorem rnew_c (w : World) : Calls Try.prog 11 #[] w fun e w' => (∃ g F, e = .returned (.pointer (some ⟨g, 0, none⟩)) ∧ RDisk F w' g St.new ∧ (∀ k, F k → w.heap.size ≤ k) ∧ ∀ k, F k → k < w'.heap.size) ∧ Below w.heap.size w w' := by
  go_enter Try.func11, Try.ntmps11
  go_wp2
  go_ret
  refine ⟨⟨w.heap.size, fun k => k = w.heap.size, rfl, ⟨none, 0, [], heap_alloc_new w _, rfl, World.ownsRow_nil _ _ _ _, fun j hj => absurd hj (Nat.not_lt_zero _), ⟨rfl, fun h e => (by cases e), fun p hp => absurd hp (by simp)⟩, fun b hb => absurd hb (by simp [St.new]), fun h => (by cases h), by decide⟩, fun k hk => Nat.le_of_eq hk.symm, fun k hk => by rw [World.size_alloc]; omega⟩, (Below.refl _ _).alloc (Nat.le_refl _) _⟩
end Go.Proofs.Ytjkeejbfipmidaa
