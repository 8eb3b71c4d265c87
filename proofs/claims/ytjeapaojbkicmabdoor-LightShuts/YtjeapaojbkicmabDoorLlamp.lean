/-
  Bytes at the beginning of a block; rows of bytes that are made; the document's Lamps.
-/
import Derived.Test.YtjeapaojbkicmabDoorLbase
set_option maxRecDepth 20000
namespace Go.Proofs.YtjeapaojbkicmabDoor
open C Go.RowKit L

def Pre (w : World) (b : Nat) (t : TypeId) (cs : List Int) : Prop := ∃ cur, w.heap[b]? = some (.cells cur t (0, 0)) ∧ cs.length ≤ cur.size ∧ ∀ k, k < cs.length → cur[k]? = some (.int .u8 (cs.getD k 0))
theorem Pre.lt {w : World} {b : Nat} {t : TypeId} {cs : List Int} (h : Pre w b t cs) : b < w.heap.size := by
  obtain ⟨cur, hc, _⟩ := h
  exact (Array.getElem?_eq_some_iff.1 hc).1
theorem Pre.cell {w : World} {b : Nat} {t : TypeId} {cs : List Int} (h : Pre w b t cs) {k : Nat} (hk : k < cs.length) : w.cell? ⟨b, k, none⟩ = some (.int .u8 (cs.getD k 0)) := by
  obtain ⟨cur, hc, _, he⟩ := h
  rw [cell_of_row w b k cur t (0, 0) hc]
  exact he k hk
theorem Pre.free {w : World} {b : Nat} {t : TypeId} {cs : List Int} (h : Pre w b t cs) (k : Nat) : w.frozen? ⟨b, k, none⟩ = false := by
  obtain ⟨cur, hc, _⟩ := h
  exact frozen_of_row w b k cur t hc
theorem Pre.set {w : World} {b : Nat} {t : TypeId} {cs : List Int} (h : Pre w b t cs) (k : Nat) (x : Int) : Pre (w.setCell ⟨b, k, none⟩ (.int .u8 x)) b t (cs.set k x) := by
  obtain ⟨cur, hc, hl, he⟩ := h
  refine ⟨_, heap_setCell_same w b k _ t _ hc, by rw [List.length_set, Array.size_setIfInBounds]; exact hl, fun j hj => ?_⟩
  rw [List.length_set] at hj
  by_cases e : k = j
  · subst e
    rw [Array.getElem?_setIfInBounds_self_of_lt (by omega), C.getD_set_self cs k x hj]
  · rw [Array.getElem?_setIfInBounds_ne e, C.getD_set_ne cs x e]
    exact he j hj
theorem Pre.below {w w' : World} {b n : Nat} {t : TypeId} {cs : List Int} (h : Pre w b t cs) (hb : Below n w w') (hn : b < n) : Pre w' b t cs := by
  obtain ⟨cur, hc, hr⟩ := h
  exact ⟨cur, (hb.block b hn).trans hc, hr⟩
theorem Pre.other {w : World} {b b' k : Nat} {t : TypeId} {cs : List Int} {v : Value} (h : Pre w b t cs) (hb : b ≠ b') : Pre (w.setCell ⟨b', k, none⟩ v) b t cs := by
  obtain ⟨cur, hc, hr⟩ := h
  exact ⟨cur, (Below.heap_setCell w ⟨b', k, none⟩ v b hb).trans hc, hr⟩
theorem make_n (n : Nat) (hn : n ≤ 1000000) (w : World) : (Instr.makeSlice 28 (.int .i64 (n : Int)) (.int .i64 (n : Int))).run Tryd.prog w = .ok (.slice (some ⟨w.heap.size, 0, none⟩) n n) (w.alloc (.cells (vals (List.replicate n 0)) 5)) := by
  have := run_make_row' (P := Tryd.prog) 28 5 (.int .u8 0) 1 Tryd.underlying28 info5 rfl .i64 .i64 n (by omega) (by omega) w
  rw [made_vals] at this
  exact this
/-- What is known of the first i of n cells. -/
structure Upto (f : Nat → Int) (n i : Nat) (ls : List Int) : Prop where
  len : ls.length = n
  told : ∀ j, j < i → ls.getD j 0 = f j
  rest : ∀ j, i ≤ j → ls.getD j 0 = 0
theorem Upto.start (f : Nat → Int) (n : Nat) : Upto f n 0 (List.replicate n 0) :=
  ⟨List.length_replicate, fun j h => by omega, fun j _ => by
    rcases Nat.lt_or_ge j n with h | h
    · exact getD_replicate n j 0 h
    · rw [List.getD_eq_getElem?_getD, List.getElem?_eq_none (by simpa using h)]; rfl⟩
theorem Upto.next {f : Nat → Int} {n i : Nat} {ls : List Int} (h : Upto f n i ls) (hi : i < n) : Upto f n (i + 1) (ls.set i (f i)) := by
  refine ⟨by rw [List.length_set, h.len], fun j hj => ?_, fun j hj => ?_⟩
  · by_cases e : i = j
    · subst e; exact C.getD_set_self ls i (f i) (by rw [h.len]; exact hi)
    · rw [C.getD_set_ne ls (f i) e]; exact h.told j (by omega)
  · rw [C.getD_set_ne ls (f i) (by omega)]; exact h.rest j (by omega)
end Go.Proofs.YtjeapaojbkicmabDoor
