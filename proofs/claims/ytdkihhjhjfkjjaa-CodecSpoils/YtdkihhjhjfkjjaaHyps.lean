/-
  What the statements want of the program's Encode and Decode, and of the examples: under one name each, to be filled in.
-/
import Derived.Test.YtdkihhjhjfkjjaaRdec
import Derived.Test.YtdkihhjhjfkjjaaGiven
namespace Go.Proofs.Ytdkihhjhjfkjjaa
open Go.RowKit

def EncSays : Prop := ∀ (g : Nat) (cs : List Int) (w : World), Blk w g 61 cs → cs.length = 32768 → Kinds cs →
  Calls Try.prog 12 #[.pointer (some ⟨g, 0, none⟩)] w fun e w' => ∃ a c, e = .returned (.slice a (encL cs).length c) ∧ Bytes w' a (encL cs).length (encL cs) ∧ (encL cs).length ≤ c ∧ Below w.heap.size w w'
def EncNil : Prop := ∀ w : World, Calls Try.prog 12 #[.pointer none] w fun e w' => (∃ a c, e = .returned (.slice a 0 c)) ∧ Below w.heap.size w w'
def DecSays : Prop := ∀ (a : Option Addr) (n c : Nat) (bs : List Int) (w : World), Bytes w a n bs → n ≤ c → n ≤ 1000000 →
  Calls Try.prog 15 #[.slice a n c] w fun e w' => Below w.heap.size w w' ∧ (((decL bs).1 = 0 ∧ ∃ g, w.heap.size ≤ g ∧ e = .returned (.tuple #[.pointer (some ⟨g, 0, none⟩), .int .i64 0]) ∧ Blk w' g 61 (decL bs).2) ∨
    ((decL bs).1 ≠ 0 ∧ e = .returned (.tuple #[.pointer none, .int .i64 (decL bs).1])))
def AwakeSays : Prop := ∀ w : World, Calls Try.prog 9 #[] w fun e w' => e = .returned (.bool true) ∧ Below w.heap.size w w'
theorem Bytes.src {w : World} {a : Option Addr} {n : Nat} {xs : List Int} (h : Bytes w a n xs) : Src w a n xs := by
  refine ⟨h.n, fun k hk => ?_, fun k => ?_⟩
  · have hk' : k < xs.length := by rw [h.n]; exact hk
    rcases h.cells with e | ⟨b, o, e, hc⟩
    · subst e; simp at hk'
    · refine ⟨b, o, e, World.block_lt_of_cell? w _ (hc k hk'), ?_⟩
      rw [hc k hk', List.getD_eq_getElem?_getD, List.getElem?_eq_getElem hk']
      rfl
  · by_cases hk : k < xs.length
    · rw [List.getD_eq_getElem?_getD, List.getElem?_eq_getElem hk]
      exact h.fit _ (List.getElem_mem hk)
    · rw [List.getD_eq_getElem?_getD, List.getElem?_eq_none (by omega)]
      simp
theorem Src.bytes {w : World} {a : Option Addr} {n : Nat} {xs : List Int} (h : Src w a n xs) : Bytes w a n xs := by
  refine ⟨h.len, ?_, fun z hz => ?_⟩
  · rcases xs with _ | ⟨x, r⟩
    · exact .inl rfl
    · have hn : 0 < n := by rw [← h.len]; simp
      obtain ⟨b, o, e, _, _⟩ := h.cells 0 hn
      refine .inr ⟨b, o, e, fun k hk => ?_⟩
      obtain ⟨b', o', e', _, hc⟩ := h.cells k (by rw [← h.len]; exact hk)
      rw [e] at e'
      cases e'
      rw [hc, List.getD_eq_getElem?_getD, List.getElem?_eq_getElem hk]
      rfl
  · obtain ⟨k, hk, rfl⟩ := List.mem_iff_getElem.1 hz
    have := h.byte k
    rwa [List.getD_eq_getElem?_getD, List.getElem?_eq_getElem hk] at this
end Go.Proofs.Ytdkihhjhjfkjjaa
