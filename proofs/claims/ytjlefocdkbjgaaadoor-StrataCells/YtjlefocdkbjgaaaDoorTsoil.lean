/-
  The landed strata's table, as the program lays it; what its small functions answer.
-/
import Derived.Test.YtjlefocdkbjgaaaDoorTheld
set_option maxRecDepth 20000
namespace Go.Proofs.YtjlefocdkbjgaaaDoor
open C Go.RowKit

/-- The table's columns: from, high, low, below. -/
def frL : List Int := [44, 44, 0, 71]
def hiL : List Int := [3, 3, 4, 1]
def loL : List Int := [2, 2, 4, 6]
def beL : List Int := [2, 2, 4, 1]
def fr (k : Nat) : Int := frL.getD k 0
def hi (k : Nat) : Int := hiL.getD k 0
def lo (k : Nat) : Int := loL.getD k 0
def be (k : Nat) : Int := beL.getD k 0
def soilCells (k : Nat) : List Value := [.int .i64 (fr k), .int .i64 (hi k), .int .i64 (lo k), .int .i64 (be k)]
def soilTab : List Value := (List.range 4).flatMap soilCells
/-- The table lies in the first block. -/
def Tab (w : World) : Prop := ∃ t f, w.heap[0]? = some (.cells soilTab.toArray t f)
theorem Tab.on {w w' : World} (h : Tab w) (b : Below w.heap.size w w') : Tab w' := by
  obtain ⟨t, f, h⟩ := h
  exact ⟨t, f, (b.block 0 (Array.getElem?_eq_some_iff.1 h).1).trans h⟩
theorem soil_row {K : Nat} (hK : K < 4) (j : Nat) (hj : j < 4) : soilTab[K * 4 + j]? = (soilCells K)[j]? := by
  have h : ∀ K < 4, ∀ j < 4, soilTab[K * 4 + j]? = (soilCells K)[j]? := by
    intro K hK j hj
    iterate 4 (rcases K with _ | K; (iterate 4 (rcases j with _ | j; kernel_rfl)); omega)
    omega
  exact h K hK j hj
theorem Tab.range {w : World} (h : Tab w) {K : Nat} (hK : K < 4) : w.rangeAt 0 (K * 4) (soilCells K) := by
  obtain ⟨t, f, h⟩ := h
  intro j v hv
  have hj : j < 4 := (List.getElem?_eq_some_iff.1 hv).1
  rw [cell_of_row w 0 _ _ t f h, List.getElem?_toArray, soil_row hK j hj]
  exact hv
theorem atN_top {h : Int} {K : Nat} (hK : K < 4) (h0 : 0 ≤ h) (h1 : h < 128) (hz : h ≠ 0) : atN h (K : Int) h = if fr K ≤ h then hi K else lo K := by
  unfold atN
  rw [if_neg (by omega), if_neg hz, if_neg (by omega), if_neg (by omega)]
  rcases K with _ | _ | _ | _ | K
  · simp [fr, hi, lo, frL, hiL, loL]
  · simp [fr, hi, lo, frL, hiL, loL]
  · simp [fr, hi, lo, frL, hiL, loL]
  · simp [fr, hi, lo, frL, hiL, loL]
    by_cases e : h ≤ 70
    · rw [if_pos e, if_neg (by omega)]
    · rw [if_neg e, if_pos (by omega)]
  · omega
theorem atN_below {h y : Int} {K : Nat} (hK : K < 4) (h1 : h < 128) (y0 : 0 < y) (hy : y < h) (hd : h - 3 ≤ y) : atN h (K : Int) y = be K := by
  unfold atN
  rw [if_neg (by omega), if_neg (by omega), if_neg (by omega), if_neg (by omega)]
  rcases K with _ | _ | _ | _ | K
  · simp [be, beL]; omega
  · simp [be, beL]; omega
  · simp [be, beL]
  · simp [be, beL]; omega
  · omega

theorem tall_c (y : Int) (b : Bool) (hb : decide (0 ≤ y ∧ y < 128) = b) (w : World) : Calls Tryd.prog 17 #[.int .i64 y] w fun e w' => e = .returned (.bool b) ∧ w' = w := by
  by_cases y0 : 0 ≤ y
  · by_cases y1 : y < 128
    · obtain rfl : b = true := by rw [← hb]; exact decide_eq_true ⟨y0, y1⟩
      clear hb
      go_enter Tryd.func17, Tryd.ntmps17
      go_wp2
      go_ret
      exact ⟨rfl, rfl⟩
    · obtain rfl : b = false := by rw [← hb]; exact decide_eq_false (fun h => y1 h.2)
      clear hb
      go_enter Tryd.func17, Tryd.ntmps17
      go_wp2
      go_ret
      exact ⟨rfl, rfl⟩
  · obtain rfl : b = false := by rw [← hb]; exact decide_eq_false (fun h => y0 h.1)
    clear hb
    go_enter Tryd.func17, Tryd.ntmps17
    go_wp2
    go_ret
    exact ⟨rfl, rfl⟩
theorem banded_c (y : Int) (b : Bool) (hb : decide (0 ≤ y ∧ y < 4) = b) (w : World) : Calls Tryd.prog 18 #[.int .i64 y] w fun e w' => e = .returned (.bool b) ∧ w' = w := by
  by_cases y0 : 0 ≤ y
  · by_cases y1 : y < 4
    · obtain rfl : b = true := by rw [← hb]; exact decide_eq_true ⟨y0, y1⟩
      clear hb
      go_enter Tryd.func18, Tryd.ntmps18
      go_wp2
      go_ret
      exact ⟨rfl, rfl⟩
    · obtain rfl : b = false := by rw [← hb]; exact decide_eq_false (fun h => y1 h.2)
      clear hb
      go_enter Tryd.func18, Tryd.ntmps18
      go_wp2
      go_ret
      exact ⟨rfl, rfl⟩
  · obtain rfl : b = false := by rw [← hb]; exact decide_eq_false (fun h => y0 h.1)
    clear hb
    go_enter Tryd.func18, Tryd.ntmps18
    go_wp2
    go_ret
    exact ⟨rfl, rfl⟩
theorem over_c (y v : Int) (hv : v = if y ≤ 44 then 5 else 0) (w : World) : Calls Tryd.prog 19 #[.int .i64 y] w fun e w' => e = .returned (.int .i64 v) ∧ w' = w := by
  by_cases h : y ≤ 44
  · rw [if_pos h] at hv
    subst hv
    go_enter Tryd.func19, Tryd.ntmps19
    go_wp2
    go_ret
    exact ⟨rfl, rfl⟩
  · rw [if_neg h] at hv
    subst hv
    go_enter Tryd.func19, Tryd.ntmps19
    go_wp2
    go_ret
    exact ⟨rfl, rfl⟩
theorem top_c (a b c d h v : Int) (hv : v = if a ≤ h then b else c) (w : World) : Calls Tryd.prog 20 #[.agg #[.int .i64 a, .int .i64 b, .int .i64 c, .int .i64 d], .int .i64 h] w fun e w' => e = .returned (.int .i64 v) ∧ Below w.heap.size w w' := by
  by_cases ha : a ≤ h
  · rw [if_pos ha] at hv
    subst hv
    go_enter Tryd.func20, Tryd.ntmps20
    go_wp2
    go_ret
    exact ⟨rfl, (Below.refl _ _).alloc (Nat.le_refl _) _⟩
  · rw [if_neg ha] at hv
    subst hv
    go_enter Tryd.func20, Tryd.ntmps20
    go_wp2
    go_ret
    exact ⟨rfl, (Below.refl _ _).alloc (Nat.le_refl _) _⟩

/-- The landed At. -/
theorem at_c (h b y : Int) (w : World) (T : Tab w) : Calls Tryd.prog 8 #[.int .i64 h, .int .i64 b, .int .i64 y] w fun e w' => e = .returned (.int .i64 (atN h b y)) ∧ Below w.heap.size w w' := by
  obtain ⟨v, hv⟩ : ∃ v, atN h b y = v := ⟨_, rfl⟩
  rw [hv]
  have HV : Hid (atN h b y = v) := hv
  clear hv
  by_cases h0 : 0 ≤ h ∧ h < 128
  case neg =>
    have e := (atN_out (h := h) (b := b) (y := y) (by omega)).symm.trans HV.out
    subst e
    clear HV
    have t1 := tall_c h false (decide_eq_false h0) w
    clear h0 T
    go_enter Tryd.func8, Tryd.ntmps8
    go_wp2_with fail
    refine t1.mono ?_
    clear t1
    rintro _ w1 ⟨rfl, hw⟩
    subst hw
    go_wp2
    go_ret
    exact ⟨rfl, Below.refl _ _⟩
  by_cases b0 : 0 ≤ b ∧ b < 4
  case neg =>
    have e := (atN_out (h := h) (b := b) (y := y) (by omega)).symm.trans HV.out
    subst e
    clear HV
    have t1 := tall_c h true (decide_eq_true h0) w
    have t2 := banded_c b false (decide_eq_false b0) w
    clear h0 b0 T
    go_enter Tryd.func8, Tryd.ntmps8
    go_wp2_with fail
    refine t1.mono ?_
    clear t1
    rintro _ w1 ⟨rfl, hw⟩
    subst hw
    go_wp2_with fail
    refine t2.mono ?_
    clear t2
    rintro _ w1 ⟨rfl, hw⟩
    subst hw
    go_wp2
    go_ret
    exact ⟨rfl, Below.refl _ _⟩
  have t1 := tall_c h true (decide_eq_true h0) w
  have t2 := banded_c b true (decide_eq_true b0) w
  by_cases y0 : 0 ≤ y ∧ y < 128
  case neg =>
    have e := (atN_out (h := h) (b := b) (y := y) (by omega)).symm.trans HV.out
    subst e
    clear HV
    have t3 := tall_c y false (decide_eq_false y0) w
    clear h0 b0 y0 T
    go_enter Tryd.func8, Tryd.ntmps8
    go_wp2_with fail
    refine t1.mono ?_
    clear t1
    rintro _ w1 ⟨rfl, hw⟩
    subst hw
    go_wp2_with fail
    refine t2.mono ?_
    clear t2
    rintro _ w1 ⟨rfl, hw⟩
    subst hw
    go_wp2_with fail
    refine t3.mono ?_
    clear t3
    rintro _ w1 ⟨rfl, hw⟩
    subst hw
    go_wp2
    go_ret
    exact ⟨rfl, Below.refl _ _⟩
  have t3 := tall_c y true (decide_eq_true y0) w
  have HI : Hid (¬ (h < 0 ∨ 127 < h ∨ y < 0 ∨ 127 < y ∨ b < 0 ∨ 3 < b)) := fun h => by omega
  obtain ⟨K, rfl⟩ := Int.eq_ofNat_of_zero_le b0.1
  have hK : K < 4 := by omega
  have Hb : Hid ((0 ≤ h ∧ h < 128) ∧ 0 ≤ y ∧ y < 128) := ⟨h0, y0⟩
  clear h0 b0 y0
  go_enter Tryd.func8, Tryd.ntmps8
  go_wp2_with fail
  refine t1.mono ?_
  clear t1
  rintro _ w1 ⟨rfl, hw⟩
  replace hw := hw.symm
  subst hw
  go_wp2_with fail
  refine t2.mono ?_
  clear t2
  rintro _ w1 ⟨rfl, hw⟩
  replace hw := hw.symm
  subst hw
  go_wp2_with fail
  refine t3.mono ?_
  clear t3
  rintro _ w1 ⟨rfl, hw⟩
  replace hw := hw.symm
  subst hw
  by_cases hy : y = 0
  · have e : v = 15 := by have := HV.out; unfold atN at this; rw [if_neg HI.out, if_pos hy] at this; exact this.symm
    subst e
    clear HV HI T Hb
    subst hy
    go_wp2
    go_ret
    exact ⟨rfl, Below.refl _ _⟩
  by_cases hh : h < y
  · have t4 := over_c y v (by have := HV.out; unfold atN at this; rw [if_neg HI.out, if_neg hy, if_pos hh] at this; exact this.symm) w
    clear HV HI T Hb
    go_wp2_with fail
    refine t4.mono ?_
    clear t4
    rintro _ w1 ⟨rfl, hw⟩
    replace hw := hw.symm
    subst hw
    go_wp2
    go_ret
    exact ⟨rfl, Below.refl _ _⟩
  have c0 := T.range hK 0 _ rfl
  have c1 := T.range hK 1 _ rfl
  have c2 := T.range hK 2 _ rfl
  have c3 := T.range hK 3 _ rfl
  rw [Nat.add_zero] at c0
  have k0 : ¬ (K : Int) < 0 := by omega
  have k1 : (K : Int) < 4 := by omega
  by_cases ht : y = h
  · subst ht
    have t4 := top_c (fr K) (hi K) (lo K) (be K) y v (by rw [← HV.out]; exact atN_top hK Hb.out.1.1 Hb.out.1.2 hy)
    clear HV HI T Hb hK
    generalize fr K = A at *
    generalize hi K = B at *
    generalize lo K = C at *
    generalize be K = D at *
    go_wp2_with fail
    refine (t4 _).mono ?_
    clear t4
    rintro _ w1 ⟨rfl, b⟩
    go_wp2
    go_ret
    exact ⟨rfl, b⟩
  by_cases hd : h - 3 ≤ y
  · have e : v = be K := by rw [← HV.out]; exact atN_below hK Hb.out.1.2 (by have := Hb.out.2.1; omega) (by omega) hd
    rw [← e] at c3
    have hw3 : IntKind.i64.wrap (h - 3) = h - 3 := by have := Hb.out; rw [IntKind.wrap_i64]; omega
    clear HV HI T Hb hK e
    go_wp2
    go_ret
    exact ⟨rfl, Below.refl _ _⟩
  · have e : v = 1 := by have := HV.out; unfold atN at this; rw [if_neg HI.out, if_neg hy, if_neg hh, if_pos (show y < h - 3 by omega)] at this; exact this.symm
    subst e
    have hw3 : IntKind.i64.wrap (h - 3) = h - 3 := by have := Hb.out; rw [IntKind.wrap_i64]; omega
    clear HV HI T Hb hK c0 c1 c2 c3
    go_wp2
    go_ret
    exact ⟨rfl, Below.refl _ _⟩
end Go.Proofs.YtjlefocdkbjgaaaDoor
