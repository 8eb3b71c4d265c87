/-
  From of the program, and what the statements make of it.
-/
import Derived.Test.YtjlefocdkbjgaaaDoorCMades
namespace Go.Proofs.YtjlefocdkbjgaaaDoor.C
open Go.RowKit

/-- Bytes in a slice, wherever it lies. -/
structure Src (w : World) (a : Option Addr) (n : Nat) (bs : List Int) : Prop where
  len : bs.length = n
  cells : ∀ k, k < n → ∃ b o, a = some ⟨b, o, none⟩ ∧ b < w.heap.size ∧ w.cell? ⟨b, o + k, none⟩ = some (.int .u8 (bs.getD k 0))
  byte : ∀ k, 0 ≤ bs.getD k 0 ∧ bs.getD k 0 ≤ 255
theorem Src.on {w w' : World} {a : Option Addr} {n B : Nat} {bs : List Int} (h : Src w a n bs) (hb : Below B w w') (hB : w.heap.size ≤ B) : Src w' a n bs :=
  ⟨h.len, fun k hk => by
    obtain ⟨b, o, e, hlt, hc⟩ := h.cells k hk
    exact ⟨b, o, e, Nat.lt_of_lt_of_le hlt hb.size, (hb.cell (p := ⟨b, o + k, none⟩) (Nat.lt_of_lt_of_le hlt hB)).trans hc⟩, h.byte⟩
theorem Kinds.bytes {cs : List Int} (h : Kinds cs) (k : Nat) : 0 ≤ cs.getD k 0 ∧ cs.getD k 0 ≤ 255 := by
  have := h.at k
  omega
theorem Blk.src {w : World} {g : Nat} {t : TypeId} {cs : List Int} (h : Blk w g t cs) (hk : Kinds cs) : Src w (some ⟨g, 0, none⟩) cs.length cs :=
  ⟨rfl, fun k hk' => ⟨g, 0, rfl, h.lt, by rw [Nat.zero_add]; exact h.cell hk'⟩, hk.bytes⟩
theorem copy_src {w : World} {h b o cap : Nat} {t' : TypeId} {bs zs : List Int} (hS : ∀ k, k < 32768 → w.cell? ⟨b, o + k, none⟩ = some (.int .u8 (bs.getD k 0))) (hD : Blk w h t' zs) (lc : bs.length = 32768) (lz : zs.length = 32768) :
    (Builtin.copy_ #[31, 31] 3 #[.slice (some ⟨h, 0, none⟩) 32768 32768, .slice (some ⟨b, o, none⟩) 32768 cap]).run Tryd.prog w = .ok (.int .i64 32768) (w.setRow h (vals bs)) := by
  have := run_copy_row (P := Tryd.prog) w 31 31 3 5 h 0 32768 32768 ⟨b, o, none⟩ 32768 cap (vals zs) t' (bs.map (Value.int .u8)) Tryd.underlying31 size5 hD (by rw [List.length_map, lc]; rfl)
    (fun j v hv => by
      have hj : j < 32768 := by rw [← lc]; simpa using (List.getElem?_eq_some_iff.1 hv).1
      rw [Addr.add_mid, hS j hj]
      rw [← hv, List.getElem?_map, List.getElem?_eq_getElem (by omega), List.getD_eq_getElem?_getD, List.getElem?_eq_getElem (by omega)]
      rfl) (by rw [List.length_map, vals_size]; omega) (by intro v hv; obtain ⟨x, _, rfl⟩ := List.mem_map.1 hv; rfl)
  rw [this, List.length_map, lc]
  have e : ((vals zs).toList.take 0 ++ bs.map (Value.int .u8) ++ (vals zs).toList.drop (0 + 32768)).toArray = vals bs := by
    rw [List.drop_eq_nil_of_le (by rw [Array.length_toList, vals_size]; omega), List.take_zero, List.nil_append, List.append_nil]
    rfl
  rw [e]
  rfl

end Go.Proofs.YtjlefocdkbjgaaaDoor.C