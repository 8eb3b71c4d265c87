/-
  Bytes that came in, and what a text of bytes is.
-/
import Derived.Test.YtmfjmcaaoljjlaaDoorLlamp
import Derived.Lib.Walk
import Derived.Laws.AppendOwnNone
set_option maxRecDepth 20000
namespace Go.Proofs.YtmfjmcaaoljjlaaDoor
open C Go.RowKit L

/-- Bytes in a slice, wherever it lies. -/
structure Src (w : World) (a : Option Addr) (n : Nat) (bs : List Int) : Prop where
  len : bs.length = n
  cells : ∀ k, k < n → ∃ b o, a = some ⟨b, o, none⟩ ∧ b < w.heap.size ∧ w.cell? ⟨b, o + k, none⟩ = some (.int .u8 (bs.getD k 0))
  byte : ∀ k, 0 ≤ bs.getD k 0 ∧ bs.getD k 0 ≤ 255
theorem Src.on {w w' : World} {a : Option Addr} {n B : Nat} {bs : List Int} (h : Src w a n bs) (hb : Below B w w') (hB : w.heap.size ≤ B) : Src w' a n bs :=
  ⟨h.len, fun k hk => by
    obtain ⟨b, o, e, hlt, hc⟩ := h.cells k hk
    exact ⟨b, o, e, Nat.lt_of_lt_of_le hlt hb.size, (hb.cell (p := ⟨b, o + k, none⟩) (Nat.lt_of_lt_of_le hlt hB)).trans hc⟩, h.byte⟩
theorem Kinds.bytes {cs : List Int} (h : Kinds cs) (k : Nat) : 0 ≤ cs.getD k 0 ∧ cs.getD k 0 ≤ 255 := by
  have := h.at k
  omega
theorem conv_c {w : World} {a : Option Addr} {n cap : Nat} {bs : List Int} (h : Src w a n bs) : (convert 22 9 (.slice a n cap)).run Tryd.prog w = .ok (.string (strOfNums bs)) w := by
  have hn := h.len
  rcases n with _ | n
  · obtain rfl := List.eq_nil_of_length_eq_zero hn
    cases a with
    | none => exact run_convert_bytes_nil w 22 5 Tryd.underlying22 Tryd.underlying5 0 cap 9 Tryd.underlying9
    | some x =>
      rw [run_convert_bytes_string w 22 9 5 _ 0 cap Tryd.underlying22 Tryd.underlying5 Tryd.underlying9, run_bytesToString w x 0 cap [] (by simpa using run_loadCells_list (P := Tryd.prog) w x [] (by simp))]
      rfl
  · obtain ⟨b, o, rfl, _, _⟩ := h.cells 0 (by omega)
    exact run_convert_bytes_arg w 22 5 Tryd.underlying22 Tryd.underlying5 b o (n + 1) cap bs hn (fun i hi => by
      obtain ⟨b', o', e, _, hc⟩ := h.cells i hi
      cases e
      exact hc) 9 Tryd.underlying9
theorem Pre.src {w : World} {g : Nat} {t : TypeId} {cs : List Int} (h : Pre w g t cs) (hk : Kinds cs) : Src w (some ⟨g, 0, none⟩) cs.length cs :=
  ⟨rfl, fun k hk' => ⟨g, 0, rfl, h.lt, by rw [Nat.zero_add]; exact h.cell hk'⟩, Kinds.bytes hk⟩
end Go.Proofs.YtmfjmcaaoljjlaaDoor
