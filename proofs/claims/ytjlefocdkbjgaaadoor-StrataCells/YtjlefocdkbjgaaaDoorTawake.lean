/-
  The chapter's examples; walks of StrataCells and StrataDeep.
-/
import Derived.Test.YtjlefocdkbjgaaaDoorTcols
set_option maxRecDepth 20000
namespace Go.Proofs.YtjlefocdkbjgaaaDoor
open C Go.RowKit

theorem ex0 : atN 60 0 0 = 15 := by decide
theorem ex1 : atN 60 0 56 = 1 := by decide
theorem ex2 : atN 60 0 58 = 2 := by decide
theorem ex3 : atN 60 0 60 = 3 := by decide
theorem ex4 : atN 60 0 61 = 0 := by decide
theorem ex5 : atN 30 2 30 = 4 := by decide
theorem ex6 : atN 30 2 44 = 5 := by decide
theorem ex7 : atN 30 2 45 = 0 := by decide
set_option maxHeartbeats 1000000 in
theorem awake_c (J : TSpec) (w : World) (hG : J.G w) : Calls Tryd.prog 7 #[] w fun e w' => e = .returned (.bool true) ∧ Below w.heap.size w w' := by
  have Hb0 : Hid (Below w.heap.size w w) := Below.refl _ _
  have HG0 : Hid (J.G w) := hG
  clear hG
  go_enter Tryd.func7, Tryd.ntmps7
  go_wp2_with fail
  refine (J.at_ 60 0 0 w (by unfold I64; omega) (by unfold I64; omega) (by unfold I64; omega) HG0.out).mono ?_
  rw [ex0]
  rintro _ w1 ⟨rfl, hb⟩
  have HG1 : Hid (J.G w1) := J.on HG0.out hb
  have Hb1 : Hid (Below w.heap.size w w1) := Hb0.out.trans (hb.mono Hb0.out.size)
  clear hb HG0 Hb0
  go_wp2_with fail
  refine (J.at_ 60 0 56 w1 (by unfold I64; omega) (by unfold I64; omega) (by unfold I64; omega) HG1.out).mono ?_
  rw [ex1]
  rintro _ w2 ⟨rfl, hb⟩
  have HG2 : Hid (J.G w2) := J.on HG1.out hb
  have Hb2 : Hid (Below w.heap.size w w2) := Hb1.out.trans (hb.mono Hb1.out.size)
  clear hb HG1 Hb1
  go_wp2_with fail
  refine (J.at_ 60 0 58 w2 (by unfold I64; omega) (by unfold I64; omega) (by unfold I64; omega) HG2.out).mono ?_
  rw [ex2]
  rintro _ w3 ⟨rfl, hb⟩
  have HG3 : Hid (J.G w3) := J.on HG2.out hb
  have Hb3 : Hid (Below w.heap.size w w3) := Hb2.out.trans (hb.mono Hb2.out.size)
  clear hb HG2 Hb2
  go_wp2_with fail
  refine (J.at_ 60 0 60 w3 (by unfold I64; omega) (by unfold I64; omega) (by unfold I64; omega) HG3.out).mono ?_
  rw [ex3]
  rintro _ w4 ⟨rfl, hb⟩
  have HG4 : Hid (J.G w4) := J.on HG3.out hb
  have Hb4 : Hid (Below w.heap.size w w4) := Hb3.out.trans (hb.mono Hb3.out.size)
  clear hb HG3 Hb3
  go_wp2_with fail
  refine (J.at_ 60 0 61 w4 (by unfold I64; omega) (by unfold I64; omega) (by unfold I64; omega) HG4.out).mono ?_
  rw [ex4]
  rintro _ w5 ⟨rfl, hb⟩
  have HG5 : Hid (J.G w5) := J.on HG4.out hb
  have Hb5 : Hid (Below w.heap.size w w5) := Hb4.out.trans (hb.mono Hb4.out.size)
  clear hb HG4 Hb4
  go_wp2_with fail
  refine (J.at_ 30 2 30 w5 (by unfold I64; omega) (by unfold I64; omega) (by unfold I64; omega) HG5.out).mono ?_
  rw [ex5]
  rintro _ w6 ⟨rfl, hb⟩
  have HG6 : Hid (J.G w6) := J.on HG5.out hb
  have Hb6 : Hid (Below w.heap.size w w6) := Hb5.out.trans (hb.mono Hb5.out.size)
  clear hb HG5 Hb5
  go_wp2_with fail
  refine (J.at_ 30 2 44 w6 (by unfold I64; omega) (by unfold I64; omega) (by unfold I64; omega) HG6.out).mono ?_
  rw [ex6]
  rintro _ w7 ⟨rfl, hb⟩
  have HG7 : Hid (J.G w7) := J.on HG6.out hb
  have Hb7 : Hid (Below w.heap.size w w7) := Hb6.out.trans (hb.mono Hb6.out.size)
  clear hb HG6 Hb6
  go_wp2_with fail
  refine (J.at_ 30 2 45 w7 (by unfold I64; omega) (by unfold I64; omega) (by unfold I64; omega) HG7.out).mono ?_
  rw [ex7]
  rintro _ w8 ⟨rfl, hb⟩
  have HG8 : Hid (J.G w8) := J.on HG7.out hb
  have Hb8 : Hid (Below w.heap.size w w8) := Hb7.out.trans (hb.mono Hb7.out.size)
  clear hb HG7 Hb7
  go_wp2
  go_ret
  exact ⟨rfl, Hb8.out⟩

theorem strataCells_walk (J : TSpec) (h b y : Int) (w : World) (hh : I64 h) (hb : I64 b) (hy : I64 y) (hG : J.G w) : Calls Tryd.prog 3 #[.int .i64 h, .int .i64 b, .int .i64 y] w fun e w' => e = .returned (.bool true) ∧ Below w.heap.size w w' := by
  go_enter Tryd.func3, Tryd.ntmps3
  go_wp2_with fail
  refine (awake_c J w hG).mono ?_
  rintro _ w1 ⟨rfl, hb1⟩
  have hG1 := J.on hG hb1
  go_wp2_with fail
  refine (J.at_ h b y w1 hh hb hy hG1).mono ?_
  rintro _ w2 ⟨rfl, hb2⟩
  have B2 := hb1.trans (hb2.mono hb1.size)
  clear hb1 hb2 hG hG1
  go_wp2_with fail
  refine (rat_c h b y w2).mono ?_
  rintro _ w3 ⟨rfl, hw⟩
  replace hw := hw.symm
  subst hw
  generalize atN h b y = v
  go_wp2
  go_ret
  exact ⟨rfl, B2⟩

/-! ### StrataDeep -/
theorem atN_up {h b b' y : Int} (h0 : 0 ≤ h ∧ h ≤ 127) (hb : 0 ≤ b ∧ b ≤ 3) (hb' : 0 ≤ b' ∧ b' ≤ 3) (hy : 0 ≤ y ∧ y ≤ 127) (hd : h < y ∨ y < h - 3) : atN h b y = atN h b' y := by
  have A : ∀ c : Int, 0 ≤ c ∧ c ≤ 3 → atN h c y = if y = 0 then 15 else if h < y then (if y ≤ 44 then 5 else 0) else 1 := fun c hc => by
    unfold atN
    rw [if_neg (by omega)]
    by_cases e : y = 0
    · rw [if_pos e, if_pos e]
    · rw [if_neg e, if_neg e]
      by_cases e2 : h < y
      · rw [if_pos e2, if_pos e2]
      · rw [if_neg e2, if_neg e2, if_pos (by omega)]
  rw [A b hb, A b' hb']
theorem atN_deep {h b y : Int} (h0 : 0 ≤ h ∧ h ≤ 127) (hb : 0 ≤ b ∧ b ≤ 3) (hy : 0 < y ∧ y ≤ 127) (hd : y < h - 3) : atN h b y = 1 := by
  unfold atN
  rw [if_neg (by omega), if_neg (by omega), if_neg (by omega), if_pos hd]
theorem atN_solid {h b y : Int} (h0 : 0 ≤ h ∧ h ≤ 127) (hb : 0 ≤ b ∧ b ≤ 3) (hy : 0 ≤ y ∧ y ≤ h) : atN h b y ≠ 0 ∧ atN h b y ≠ 5 := by
  unfold atN
  rw [if_neg (by omega)]
  by_cases e : y = 0
  · rw [if_pos e]; omega
  rw [if_neg e, if_neg (by omega)]
  split
  · omega
  split
  · omega
  split
  · split <;> omega
  · split <;> omega
set_option maxHeartbeats 2000000 in
theorem strataDeep_walk (J : TSpec) (h p q y : Int) (w : World) (hG : J.G w) : Calls Tryd.prog 6 #[.int .i64 h, .int .i64 p, .int .i64 q, .int .i64 y] w fun e w' => e = .returned (.bool true) ∧ Below w.heap.size w w' := by
  by_cases h0 : h < 0
  · go_enter Tryd.func6, Tryd.ntmps6
    go_wp2_with fail
    refine (awake_c J w hG).mono ?_
    rintro _ w1 ⟨rfl, hb1⟩
    go_wp2
    go_ret
    exact ⟨rfl, hb1⟩
  by_cases h1 : 128 ≤ h
  · go_enter Tryd.func6, Tryd.ntmps6
    go_wp2_with fail
    refine (awake_c J w hG).mono ?_
    rintro _ w1 ⟨rfl, hb1⟩
    go_wp2
    go_ret
    exact ⟨rfl, hb1⟩
  by_cases p0 : p < 0
  · go_enter Tryd.func6, Tryd.ntmps6
    go_wp2_with fail
    refine (awake_c J w hG).mono ?_
    rintro _ w1 ⟨rfl, hb1⟩
    go_wp2
    go_ret
    exact ⟨rfl, hb1⟩
  by_cases p1 : 4 ≤ p
  · go_enter Tryd.func6, Tryd.ntmps6
    go_wp2_with fail
    refine (awake_c J w hG).mono ?_
    rintro _ w1 ⟨rfl, hb1⟩
    go_wp2
    go_ret
    exact ⟨rfl, hb1⟩
  by_cases q0 : q < 0
  · go_enter Tryd.func6, Tryd.ntmps6
    go_wp2_with fail
    refine (awake_c J w hG).mono ?_
    rintro _ w1 ⟨rfl, hb1⟩
    go_wp2
    go_ret
    exact ⟨rfl, hb1⟩
  by_cases q1 : 4 ≤ q
  · go_enter Tryd.func6, Tryd.ntmps6
    go_wp2_with fail
    refine (awake_c J w hG).mono ?_
    rintro _ w1 ⟨rfl, hb1⟩
    go_wp2
    go_ret
    exact ⟨rfl, hb1⟩
  by_cases y0 : y < 0
  · go_enter Tryd.func6, Tryd.ntmps6
    go_wp2_with fail
    refine (awake_c J w hG).mono ?_
    rintro _ w1 ⟨rfl, hb1⟩
    go_wp2
    go_ret
    exact ⟨rfl, hb1⟩
  by_cases y1 : 128 ≤ y
  · go_enter Tryd.func6, Tryd.ntmps6
    go_wp2_with fail
    refine (awake_c J w hG).mono ?_
    rintro _ w1 ⟨rfl, hb1⟩
    go_wp2
    go_ret
    exact ⟨rfl, hb1⟩
  go_enter Tryd.func6, Tryd.ntmps6
  go_wp2_with fail
  refine (awake_c J w hG).mono ?_
  rintro _ w1 ⟨rfl, hb1⟩
  have hG1 := J.on hG hb1
  go_wp2_with fail
  refine (J.at_ h p y w1 (by unfold I64; omega) (by unfold I64; omega) (by unfold I64; omega) hG1).mono ?_
  rintro _ w2 ⟨rfl, hb2⟩
  have B2 := hb1.trans (hb2.mono hb1.size)
  have hG2 := J.on hG1 hb2
  clear hb1 hb2 hG hG1
  go_wp2_with fail
  refine (J.at_ h q y w2 (by unfold I64; omega) (by unfold I64; omega) (by unfold I64; omega) hG2).mono ?_
  rintro _ w3 ⟨rfl, hb3⟩
  have B3 : Hid (Below w.heap.size w w3) := B2.trans (hb3.mono B2.size)
  clear B2 hb3 hG2
  by_cases hd : h < y
  · have e := atN_up (h := h) (b := q) (b' := p) (y := y) (by omega) (by omega) (by omega) (by omega) (.inl hd)
    rw [e]
    clear e
    generalize atN h p y = v
    go_wp2
    go_ret
    exact ⟨rfl, B3.out⟩
  by_cases hd3 : y < h - 3
  · have e := atN_up (h := h) (b := q) (b' := p) (y := y) (by omega) (by omega) (by omega) (by omega) (.inr hd3)
    rw [e]
    clear e
    by_cases hy : y = 0
    · subst hy
      generalize atN h p 0 = v
      go_wp2
      go_ret
      exact ⟨rfl, B3.out⟩
    · have e := atN_deep (h := h) (b := p) (y := y) (by omega) (by omega) (by omega) hd3
      rw [e]
      clear e
      go_wp2
      go_ret
      exact ⟨rfl, B3.out⟩
  · obtain ⟨e1, e2⟩ := atN_solid (h := h) (b := p) (y := y) (by omega) (by omega) (by omega)
    generalize atN h p y = v at *
    generalize atN h q y = v'
    have f1 : (v != 0) = true := by simp [e1]
    have f2 : (v != 5) = true := by simp [e2]
    clear e1 e2
    go_wp2
    go_ret
    exact ⟨rfl, B3.out⟩
end Go.Proofs.YtjlefocdkbjgaaaDoor