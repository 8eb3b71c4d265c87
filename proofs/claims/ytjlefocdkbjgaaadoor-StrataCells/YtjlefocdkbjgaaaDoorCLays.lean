/-
  Fill and Top of the program.
-/
import Derived.Test.YtjlefocdkbjgaaaDoorCCells
namespace Go.Proofs.YtjlefocdkbjgaaaDoor.C
open Go.RowKit

theorem len54 : Tryd.prog.arrayLen 54 = 32768 := by kernel_rfl
theorem under54 : Tryd.prog.underlying 54 = some (.array (Tryd.prog.arrayLen 54) (Tryd.prog.elem 54)) := by kernel_rfl
theorem elem54 : Tryd.prog.elem 54 = 5 := by kernel_rfl
theorem sizeOf5 (w : World) : (sizeOf 5).run Tryd.prog w = .ok 1 w := by kernel_rfl
theorem slice_part (g S N : Nat) (h0 : 0 < N) (h1 : S + N ≤ 32768) (w : World) :
    (Instr.sliceAt 54 (.pointer (some ⟨g, 0, none⟩)) (some (.int .i64 (S : Int))) (some (.int .i64 ((S : Int) + (N : Int)))) none).run Tryd.prog w = .ok (.slice (some ⟨g, S, none⟩) N (32768 - S)) w := by
  rw [run_sliceAt_array_lh w 54 ⟨g, 0, none⟩ under54 .i64 .i64 S (S + N) (by omega) (by omega) (by rw [len54]; omega), elem54, sizeOf5, Result.andThen_ok, len54]
  unfold slicedAt
  rw [if_neg (by omega), Int.toNat_natCast, show ((S : Int) + (N : Int)).toNat = S + N by omega, Nat.add_sub_cancel_left, Addr.add_mid, Nat.zero_add, Nat.mul_one]

set_option maxRecDepth 100000 in
theorem top_c (g : Nat) (cs : List Int) (x z : Int) (w : World) (hB : Blk w g 56 cs) (hl : cs.length = 32768) :
    Calls Tryd.prog 15 #[.pointer (some ⟨g, 0, none⟩), .int .i64 x, .int .i64 z] w fun e w' => e = .returned (.int .i64 (topC cs x z)) ∧ w' = w := by
  have hx := within_c x w
  have hz := within_c z w
  by_cases hok : 0 ≤ x ∧ x ≤ 15 ∧ 0 ≤ z ∧ z ≤ 15
  · obtain ⟨i0, i1, i2, i3⟩ := hok
    rw [decide_eq_true ⟨i0, i1⟩] at hx
    rw [decide_eq_true ⟨i2, i3⟩] at hz
    obtain ⟨X, rfl⟩ := Int.eq_ofNat_of_zero_le i0
    obtain ⟨Z, rfl⟩ := Int.eq_ofNat_of_zero_le i2
    rw [topC_yes (by omega) cs]
    obtain ⟨R, hR⟩ : ∃ R, R = topTo cs (Z * 16 + X) 128 := ⟨_, rfl⟩
    rw [← hR]
    have HR : Hid (topTo cs (Z * 16 + X) 128 = R) := hR.symm
    clear hR
    go_enter Tryd.func15, Tryd.ntmps15
    go_wp2_with fail
    refine hx.mono ?_
    clear hx
    rintro _ w1 ⟨rfl, hw⟩
    rw [hw]
    clear hw w1
    go_wp2_with fail
    refine hz.mono ?_
    clear hz
    rintro _ w1 ⟨rfl, hw⟩
    rw [hw]
    clear hw w1
    go_wp2
    go_loop [7] (fun y => ∃ n : Nat, n ≤ 128 ∧ y = .int .i64 ((n : Int) - 1) ∧ Hid (topTo cs (Z * 16 + X) n = R)) (fun y => (intOf y + 1).toNat)
    case atStart => exact ⟨128, Nat.le_refl _, rfl, HR⟩
    case round =>
      obtain ⟨n, hn, rfl, HR⟩ := hrel
      rcases n with _ | n
      · have e : R = -1 := HR.out.symm
        subst e
        rw [show ((0 : Nat) : Int) - 1 = -1 from rfl]
        go_wp2
        go_ret
        exact ⟨rfl, rfl⟩
      · have hy : ((n + 1 : Nat) : Int) - 1 = n := by omega
        rw [hy]
        obtain ⟨J, hJ⟩ : ∃ J : Nat, J = n * 256 + (Z * 16 + X) := ⟨_, rfl⟩
        have hJ' : (n : Int) * 256 + (Z : Int) * 16 + X = J := by omega
        have hlt : J < 32768 := by omega
        have hc := hB.cell (k := J) (by omega)
        have hD := HR.out
        unfold topTo at hD
        rw [← hJ] at hD
        generalize cs.getD J 0 = v at hc hD
        have HD : Hid ((if v = 0 ∨ v = 16 then topTo cs (Z * 16 + X) n else (n : Int)) = R) := hD
        have hv := occ_c v w
        clear hD HR hJ hy
        have hn0 : (0 : Int) ≤ n := by omega
        by_cases v0 : v = 0 ∨ v = 16
        · rw [decide_eq_true v0, Bool.not_true] at hv
          have HR' : Hid (topTo cs (Z * 16 + X) n = R) := by have := HD.out; rwa [if_pos v0] at this
          clear HD v0
          go_wp2_with fail
          refine hv.mono ?_
          clear hv
          rintro _ w1 ⟨rfl, hw⟩
          rw [hw]
          clear hw w1
          go_wp2
          go_round
          case rel => exact ⟨n, by omega, by first | rfl | go_num, HR'⟩
          case measure => simp [intOf]
        · rw [decide_eq_false v0, Bool.not_false] at hv
          have e : (n : Int) = R := by have := HD.out; rwa [if_neg v0] at this
          subst e
          clear HD v0
          go_wp2_with fail
          refine hv.mono ?_
          clear hv
          rintro _ w1 ⟨rfl, hw⟩
          rw [hw]
          clear hw w1
          go_wp2
          go_ret
          exact ⟨rfl, rfl⟩
  · rw [topC_no hok cs]
    by_cases i0 : 0 ≤ x ∧ x ≤ 15
    · rw [decide_eq_true i0] at hx
      rw [decide_eq_false (by omega)] at hz
      go_enter Tryd.func15, Tryd.ntmps15
      go_wp2_with fail
      refine hx.mono ?_
      clear hx
      rintro _ w1 ⟨rfl, hw⟩
      rw [hw]
      clear hw w1
      go_wp2_with fail
      refine hz.mono ?_
      clear hz
      rintro _ w1 ⟨rfl, hw⟩
      rw [hw]
      clear hw w1
      go_wp2
      go_ret
      exact ⟨rfl, rfl⟩
    · rw [decide_eq_false i0] at hx
      go_enter Tryd.func15, Tryd.ntmps15
      go_wp2_with fail
      refine hx.mono ?_
      clear hx
      rintro _ w1 ⟨rfl, hw⟩
      rw [hw]
      clear hw w1
      go_wp2
      go_ret
      exact ⟨rfl, rfl⟩
end Go.Proofs.YtjlefocdkbjgaaaDoor.C