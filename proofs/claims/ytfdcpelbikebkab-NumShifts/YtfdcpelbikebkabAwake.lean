/-
  The chapter examples, as the statements ask them ahead of everything: awake answers true in every world, and turns nothing that was there.
-/
import Derived.Test.YtfdcpelbikebkabPut
import Derived.Lib.SlBytesConst
namespace Go.Proofs.Ytfdcpelbikebkab
open Go.RowKit
/-- string(b) is the text of the bytes. -/
theorem convert_bytes {w : World} {a : Option Addr} {len : Nat} {xs : List Int} (h : Bytes w a len xs) (cap : Nat) : (convert 26 9 (.slice a len cap)).run Try.prog w = .ok (.string (strOfNums xs)) w := by
  have hn := h.n
  rcases h.cells with rfl | ⟨b, off, rfl, hc⟩
  · simp at hn
    subst hn
    cases a with
    | none => exact run_convert_bytes_nil w 26 5 Try.underlying26 Try.underlying5 0 cap 9 Try.underlying9
    | some x =>
      rw [run_convert_bytes_string w 26 9 5 _ 0 cap Try.underlying26 Try.underlying5 Try.underlying9, run_bytesToString w x 0 cap [] (by simpa using run_loadCells_list (P := Try.prog) w x [] (by simp))]
      rfl
  · exact run_convert_bytes_arg w 26 5 Try.underlying26 Try.underlying5 b off len cap xs hn (fun i hi => by rw [hc i (by omega)]; simp [List.getD, hn, hi]) 9 Try.underlying9

theorem put300 (w : World) : Calls Try.prog 8 #[.slice none 0 0, .int .i64 300] w fun e w' => e = .returned (.slice (some ⟨w.heap.size, 0, none⟩) 2 2) ∧ Row w' w.heap.size [172, 2] ∧ Below w.heap.size w w' := by
  have e : putL 300 = [172, 2] := by decide +kernel
  have := put_any none 0 0 [] 300 w (by omega) (by omega) (by omega) ⟨rfl, .inl rfl, by simp⟩
  rw [e] at this
  exact this
set_option maxHeartbeats 1000000 in
theorem awake_any (w : World) : Calls Try.prog 5 #[] w fun e w' => e = .returned (.bool true) ∧ Below w.heap.size w w' := by
  have g1 : getL [172, 2] = (300, 2) := by decide +kernel
  have g2 : getL [128] = (0, 0) := by decide +kernel
  have s1 : sumL [] = 2166136261 := by decide +kernel
  have s2 : sumL [97] = 3826002220 := by decide +kernel
  go_enter Try.func5, Try.ntmps5
  go_wp2_with fail
  refine (put300 _).mono ?_
  rintro e w1 ⟨rfl, hR, hb⟩
  have HR : Hid (Row w1 w.heap.size [172, 2]) := hR
  clear hR
  go_wp2_with fail
  refine (get_any _ 2 2 [172, 2] w1 (by omega) (HR.out.bytes (by simp) 2 rfl)).mono ?_
  rw [g1]
  rintro e w' ⟨rfl, hw⟩
  subst w'
  go_wp2_with fail
  have HB2 : Hid (Bytes (w1.alloc (.cells #[.int .u8 128] 5)) (some ⟨w1.heap.size, 0, none⟩) 1 [128]) := by
    have h : Row (w1.alloc (.cells #[.int .u8 128] 5)) w1.heap.size [128] := heap_alloc_new w1 _
    exact h.bytes (by simp) 1 rfl
  have HR2 : Hid (Row (w1.alloc (.cells #[.int .u8 128] 5)) w.heap.size [172, 2]) :=
    HR.out.below (B := w1.heap.size) ((Below.refl _ _).alloc (Nat.le_refl _) _) HR.out.lt
  have HW2 : Hid (Below w.heap.size w (w1.alloc (.cells #[.int .u8 128] 5))) := hb.alloc hb.size _
  clear hb HR
  generalize (w1.alloc (.cells #[.int .u8 128] 5)) = W at *
  refine (get_any _ 1 1 [128] W (by omega) HB2.out).mono ?_
  rw [g2]
  rintro e w' ⟨rfl, hw⟩
  subst w'
  have hcv := convert_bytes (HR2.out.bytes (by simp) 2 rfl) 2
  rw [show strOfNums [172, 2] = ⟨#[172, 2]⟩ from rfl] at hcv
  clear g1 g2
  go_wp2_with (first | (go_at_call 6; go_in) | (go_at_call 7; go_in))
  refine (sum_any none 0 0 [] W (by omega) ⟨rfl, .inl rfl, by simp⟩).mono ?_
  rw [s1]
  rintro e w' ⟨rfl, hw⟩
  subst w'
  clear s1
  have hcs := Lib.run_convert_bytes_const (P := Try.prog) W 26 5 #[.int .u8 97] 1 1 Try.underlying26 Try.underlying5
  rw [show (#[Value.int .u8 97]).size = 1 from rfl, show 1 + 1 = 2 from rfl] at hcs
  go_wp2_with fail
  have HB3 : Hid (Bytes (W.alloc (.cells #[.int .u8 97] 5 (1, 2))) (some ⟨W.heap.size, 0, none⟩) 1 [97]) := by
    refine ⟨rfl, .inr ⟨W.heap.size, 0, rfl, fun k hk => ?_⟩, by simp⟩
    obtain rfl : k = 0 := by simp at hk; omega
    rw [cell_of_row _ _ _ _ _ _ (heap_alloc_new W _)]
    rfl
  refine (sum_any _ 1 1 [97] _ (by omega) HB3.out).mono ?_
  rw [s2]
  rintro e w' ⟨rfl, hw⟩
  subst w'
  clear s2
  go_wp2_with fail
  go_ret
  exact ⟨rfl, HW2.out.alloc HW2.out.size _⟩
end Go.Proofs.Ytfdcpelbikebkab
