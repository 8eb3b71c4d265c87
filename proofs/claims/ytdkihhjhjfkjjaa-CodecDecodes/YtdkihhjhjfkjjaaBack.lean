/-
  '[]byte(s)' of a text that was made of bytes.
-/
import Derived.Test.YtdkihhjhjfkjjaaHyps
import Derived.Lib.ConvBytes
import Derived.Lib.Bytes
namespace Go.Proofs.Ytdkihhjhjfkjjaa
open Go.RowKit

theorem str_data (xs : List Int) : (strOfNums xs).data.toList = xs.map fun n => UInt8.ofNat n.toNat := rfl
theorem str_size (xs : List Int) : (strOfNums xs).size = xs.length := by
  show (strOfNums xs).data.size = _
  rw [← Array.length_toList, str_data, List.length_map]
theorem back_bytes (w : World) (xs : List Int) (hf : ∀ z ∈ xs, 0 ≤ z ∧ z ≤ 255) (n : Nat) (hn : xs.length = n) : ∃ c w', (convert 9 25 (.string (strOfNums xs))).run Try.prog w = .ok (.slice (some ⟨w.heap.size, 0, none⟩) n c) w' ∧ Bytes w' (some ⟨w.heap.size, 0, none⟩) n xs ∧ n ≤ c ∧ Below w.heap.size w w' := by
  have h := Go.Lib.run_convert_string_bytes (P := Try.prog) w 9 25 5 (strOfNums xs) Try.underlying9 Try.underlying25 Try.underlying5
  rw [str_size, hn] at h
  refine ⟨_, _, h, ⟨hn, ?_, hf⟩, grownCap_ge _ _ _ _, ⟨rfl, rfl, rfl, ?_, fun k hk => Go.Lib.bytesWorld_at_old w 5 _ k hk⟩⟩
  · refine .inr ⟨w.heap.size, 0, rfl, fun k hk => ?_⟩
    rw [Nat.zero_add, Go.Lib.bytesWorld_cell w 5 _ k (by rw [str_size]; exact hk), str_data]
    have hz := hf _ (List.getElem_mem hk)
    rw [List.getD_eq_getElem?_getD, List.getElem?_map, List.getElem?_eq_getElem hk]
    show some (Value.int .u8 ((UInt8.ofNat xs[k].toNat).toNat : Int)) = _
    rw [UInt8.toNat_ofNat']
    congr 2
    omega
  · rw [Go.Lib.bytesWorld_size]; omega
end Go.Proofs.Ytdkihhjhjfkjjaa
