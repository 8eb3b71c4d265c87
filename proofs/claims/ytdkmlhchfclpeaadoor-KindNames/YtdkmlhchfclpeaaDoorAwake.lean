/-
  The chapter's examples: the check that all statements begin with answers true; whatever lay is as it lay.
-/
import Derived.Test.YtdkmlhchfclpeaaDoorOf
import Derived.Test.YtdkmlhchfclpeaaDoorRef
namespace Go.Proofs.YtdkmlhchfclpeaaDoor
open Go.RowKit

theorem lava (K : Nat) (hK : K < 16) : nm K ≠ ⟨#[108, 97, 118, 97]⟩ := by
  intro h
  have H : ∀ k : Fin 16, nmL.getD k.1 [] ≠ [108, 97, 118, 97] := of_decide_eq_true (by kernel_rfl)
  exact H ⟨K, hK⟩ (by simpa [nm] using congrArg (fun b : ByteArray => b.data.toList) h)

set_option maxRecDepth 100000 in
theorem awake_c (w : World) (T : Tab w) : Calls Tryd.prog 7 #[] w fun e w' => e = .returned (.bool true) ∧ Below w.heap.size w w' := by
  have c1 : Calls Tryd.prog 10 #[.string ⟨#[108, 101, 97, 118, 101, 115]⟩] w fun e w' => e = .returned (.tuple #[.int .i64 11, .bool true]) ∧ Below w.heap.size w w' := of_yes (K := 11) (by omega) w T
  go_enter Tryd.func7, Tryd.ntmps7
  go_wp2_with fail
  refine c1.mono ?_
  rintro _ w1 ⟨rfl, b1⟩
  have T1 := T.on b1
  clear c1 T
  go_wp2_with fail
  refine (of_no (by decide) lava w1 T1).mono ?_
  rintro _ w2 ⟨rfl, b2⟩
  have T2 := T1.on b2
  have B2 := b1.trans (b2.mono b1.size)
  have c3 : Calls Tryd.prog 8 #[.int .i64 13] w2 fun x w' => x = .returned (.string ⟨#[108, 97, 109, 112]⟩) ∧ Below w2.heap.size w2 w' := kind_nm 13 w2 T2 13 rfl
  clear T1 b1 b2
  go_wp2_with fail
  refine c3.mono ?_
  rintro _ w3 ⟨rfl, b3⟩
  have T3 := T2.on b3
  have B3 := B2.trans (b3.mono B2.size)
  have c4 : Calls Tryd.prog 18 #[.int .i64 13] w3 fun x w' => x = .returned (.int .i64 14) ∧ Below w3.heap.size w3 w' := kind_em 13 w3 T3 13 rfl
  clear c3 T2 B2 b3
  go_wp2_with fail
  refine c4.mono ?_
  rintro _ w4 ⟨rfl, b4⟩
  have T4 := T3.on b4
  have B4 := B3.trans (b4.mono B3.size)
  have c5 : Calls Tryd.prog 14 #[.int .i64 5] w4 fun x w' => x = .returned (.int .i64 3) ∧ Below w4.heap.size w4 w' := kind_ls 5 w4 T4 5 rfl
  clear c4 T3 B3 b4
  go_wp2_with fail
  refine c5.mono ?_
  rintro _ w5 ⟨rfl, b5⟩
  have T5 := T4.on b5
  have B5 := B4.trans (b5.mono B4.size)
  have c6 : Calls Tryd.prog 12 #[.int .i64 16] w5 fun x w' => x = .returned (.bool false) ∧ Below w5.heap.size w5 w' := kind_op 16 w5 T5 16 rfl
  clear c5 T4 B4 b5
  go_wp2_with fail
  refine c6.mono ?_
  rintro _ w6 ⟨rfl, b6⟩
  have T6 := T5.on b6
  have B6 := B5.trans (b6.mono B5.size)
  have c7 : Calls Tryd.prog 13 #[.int .i64 0] w6 fun x w' => x = .returned (.bool true) ∧ Below w6.heap.size w6 w' := kind_cl 0 w6 T6 0 rfl
  clear c6 T5 B5 b6
  go_wp2_with fail
  refine c7.mono ?_
  rintro _ w7 ⟨rfl, b7⟩
  have B7 := B6.trans (b7.mono B6.size)
  go_wp2
  go_ret
  exact ⟨rfl, B7⟩
end Go.Proofs.YtdkmlhchfclpeaaDoor
