/-
  The document's small functions: how far, an index, a chunk, a cell; whether a cell is too far away.
-/
import Derived.Test.YtbcadklodjdokaaWref
set_option maxRecDepth 20000
namespace Go.Proofs.Ytbcadklodjdokaa
open C Go.RowKit

/-! ### how far -/
def awC (d0 d1 d2 e0 e1 e2 : Int) : Nat → Array Value
  | 0 => #[.int .i64 d0, .int .i64 d1, .int .i64 d2]
  | 1 => #[.int .i64 e0, .int .i64 d1, .int .i64 d2]
  | 2 => #[.int .i64 e0, .int .i64 e1, .int .i64 d2]
  | _ => #[.int .i64 e0, .int .i64 e1, .int .i64 e2]
def awS (e0 e1 e2 : Int) : Nat → Int
  | 0 => 0
  | 1 => e0
  | 2 => e0 + e1
  | _ => e0 + e1 + e2
theorem absI_neg {d : Int} (h : d < 0) : absI d = -d := if_pos h
theorem absI_nn {d : Int} (h : ¬ d < 0) : absI d = d := if_neg h
set_option maxHeartbeats 1000000 in
theorem raway_c (a b c x y z : Int) (w : World) (ha : Far 1125899906842624 a) (hb : Far 1125899906842624 b) (hc : Far 1125899906842624 c) (hx : Far 1125899906842624 x) (hy : Far 1125899906842624 y) (hz : Far 1125899906842624 z) :
    Calls Try.prog 26 #[.agg #[.int .i64 a, .int .i64 b, .int .i64 c], .agg #[.int .i64 x, .int .i64 y, .int .i64 z]] w fun e w' => e = .returned (.int .i64 (awayN a b c x y z)) ∧ Below w.heap.size w w' := by
  obtain ⟨Post, hPost⟩ : ∃ Post : Ending → World → Prop, Post = fun e w' => e = .returned (.int .i64 (awayN a b c x y z)) ∧ Below w.heap.size w w' := ⟨_, rfl⟩
  rw [← hPost]
  have HP : Hid (∀ v w', v = awayN a b c x y z → Below w.heap.size w w' → Post (.returned (.int .i64 v)) w') := fun v w' h1 h2 => by rw [hPost, h1]; exact ⟨rfl, h2⟩
  clear hPost
  obtain ⟨a0, a1⟩ := ha
  obtain ⟨b0, b1⟩ := hb
  obtain ⟨c0, c1⟩ := hc
  obtain ⟨x0, x1⟩ := hx
  obtain ⟨y0, y1⟩ := hy
  obtain ⟨z0, z1⟩ := hz
  have HA : Hid (awayN a b c x y z = absI (a - x) + absI (b - y) + absI (c - z)) := rfl
  have HB : Hid (Below w.heap.size w (((w.alloc (.cells #[.int .i64 a, .int .i64 b, .int .i64 c] 24)).alloc (.cells #[.int .i64 x, .int .i64 y, .int .i64 z] 24)).alloc (.cells #[.int .i64 (a - x), .int .i64 (b - y), .int .i64 (c - z)] 79))) := (below_two w _ _).alloc (by simp; omega) _
  have HL : Hid ((((w.alloc (.cells #[.int .i64 a, .int .i64 b, .int .i64 c] 24)).alloc (.cells #[.int .i64 x, .int .i64 y, .int .i64 z] 24)).alloc (.cells #[.int .i64 (a - x), .int .i64 (b - y), .int .i64 (c - z)] 79)).heap[w.heap.size + 1 + 1]? = some (.cells (awC (a - x) (b - y) (c - z) (absI (a - x)) (absI (b - y)) (absI (c - z)) 0) 79 (0, 0))) := by
    have := heap_alloc_new ((w.alloc (.cells #[.int .i64 a, .int .i64 b, .int .i64 c] 24)).alloc (.cells #[.int .i64 x, .int .i64 y, .int .i64 z] 24)) (.cells #[.int .i64 (a - x), .int .i64 (b - y), .int .i64 (c - z)] 79)
    rw [World.size_alloc, World.size_alloc] at this
    exact this
  have HE : Hid (∀ d : Int, -4503599627370496 ≤ d ∧ d ≤ 4503599627370496 → 0 ≤ absI d ∧ absI d ≤ 4503599627370496) := fun d h => by unfold absI; split <;> omega
  have HQ : Hid ((-4503599627370496 ≤ a - x ∧ a - x ≤ 4503599627370496) ∧ (-4503599627370496 ≤ b - y ∧ b - y ≤ 4503599627370496) ∧ (-4503599627370496 ≤ c - z ∧ c - z ≤ 4503599627370496)) := by refine ⟨?_, ?_, ?_⟩ <;> omega
  go_enter Try.func26, Try.ntmps26
  go_wp2
  generalize a - x = d0 at *
  generalize b - y = d1 at *
  generalize c - z = d2 at *
  go_loopw [6, 7] (fun vn vi wr => ∃ (I : Nat), I ≤ 3 ∧ vi = .int .i64 (I : Int) ∧ vn = .int .i64 (awS (absI d0) (absI d1) (absI d2) I) ∧ Hid (wr.heap[w.heap.size + 1 + 1]? = some (.cells (awC d0 d1 d2 (absI d0) (absI d1) (absI d2) I) 79 (0, 0))) ∧ Hid (Below w.heap.size w wr)) (fun _ vi _ => 3 - (intOf vi).toNat)
  case atStart => exact ⟨0, by omega, rfl, rfl, HL, HB⟩
  case round =>
    clear HL HB a0 a1 b0 b1 c0 c1 x0 x1 y0 y1 z0 z1
    obtain ⟨I, hI, rfl, rfl, HL, HB⟩ := hrel
    have h1 := HE.out d0 HQ.out.1
    have h2 := HE.out d1 HQ.out.2.1
    have h3 := HE.out d2 HQ.out.2.2
    obtain ⟨p0, p1⟩ := HQ.out.1
    obtain ⟨p2, p3⟩ := HQ.out.2.1
    obtain ⟨p4, p5⟩ := HQ.out.2.2
    rcases I with _ | _ | _ | I
    · have k0 : wr.cell? ⟨w.heap.size + 1 + 1, 0, none⟩ = some (.int .i64 d0) := (cell_of_row wr _ 0 _ 79 (0, 0) HL.out).trans rfl
      have g0 := frozen_of_row wr (w.heap.size + 1 + 1) 0 _ 79 HL.out
      by_cases n0 : d0 < 0
      · have HL2 : Hid ((wr.setCell ⟨w.heap.size + 1 + 1, 0, none⟩ (.int .i64 (-d0))).heap[w.heap.size + 1 + 1]? = some (.cells (awC d0 d1 d2 (absI d0) (absI d1) (absI d2) 1) 79 (0, 0))) := by
          show _ = _
          rw [heap_setCell_same wr _ 0 _ 79 _ HL.out, absI_neg n0]
          rfl
        have HB2 : Hid (Below w.heap.size w (wr.setCell ⟨w.heap.size + 1 + 1, 0, none⟩ (.int .i64 (-d0)))) := HB.out.setCell (p := ⟨w.heap.size + 1 + 1, 0, none⟩) (by show _ ≤ w.heap.size + 1 + 1; omega) _
        have e0 := absI_neg n0
        simp only [awS]
        clear HL HB
        go_wp2
        refine ⟨⟨1, by omega, by simp, ?_, HL2, HB2⟩, by simp [intOf]⟩
        show _ = Value.int .i64 (absI d0)
        simp [e0]
      · have HL2 : Hid (wr.heap[w.heap.size + 1 + 1]? = some (.cells (awC d0 d1 d2 (absI d0) (absI d1) (absI d2) 1) 79 (0, 0))) := by
          have := HL.out
          show _ = _
          rw [this, absI_nn n0]
          rfl
        have e0 := absI_nn n0
        simp only [awS]
        clear HL
        go_wp2
        refine ⟨⟨1, by omega, by simp, ?_, HL2, HB⟩, by simp [intOf]⟩
        show _ = Value.int .i64 (absI d0)
        simp [e0]
    · have k0 : wr.cell? ⟨w.heap.size + 1 + 1, 1, none⟩ = some (.int .i64 d1) := (cell_of_row wr _ 1 _ 79 (0, 0) HL.out).trans rfl
      have g0 := frozen_of_row wr (w.heap.size + 1 + 1) 1 _ 79 HL.out
      by_cases n0 : d1 < 0
      · have HL2 : Hid ((wr.setCell ⟨w.heap.size + 1 + 1, 1, none⟩ (.int .i64 (-d1))).heap[w.heap.size + 1 + 1]? = some (.cells (awC d0 d1 d2 (absI d0) (absI d1) (absI d2) 2) 79 (0, 0))) := by
          show _ = _
          rw [heap_setCell_same wr _ 1 _ 79 _ HL.out, absI_neg n0]
          rfl
        have HB2 : Hid (Below w.heap.size w (wr.setCell ⟨w.heap.size + 1 + 1, 1, none⟩ (.int .i64 (-d1)))) := HB.out.setCell (p := ⟨w.heap.size + 1 + 1, 1, none⟩) (by show _ ≤ w.heap.size + 1 + 1; omega) _
        have He0 : Hid (absI d1 = -d1) := absI_neg n0
        simp only [awS]
        generalize absI d0 = E0 at *
        clear HL HB
        go_wp2
        refine ⟨⟨2, by omega, by simp, ?_, HL2, HB2⟩, by simp [intOf]⟩
        show _ = Value.int .i64 (E0 + absI d1)
        rw [He0.out]
      · have HL2 : Hid (wr.heap[w.heap.size + 1 + 1]? = some (.cells (awC d0 d1 d2 (absI d0) (absI d1) (absI d2) 2) 79 (0, 0))) := by
          have := HL.out
          show _ = _
          rw [this, absI_nn n0]
          rfl
        have He0 : Hid (absI d1 = d1) := absI_nn n0
        simp only [awS]
        generalize absI d0 = E0 at *
        clear HL
        go_wp2
        refine ⟨⟨2, by omega, by simp, ?_, HL2, HB⟩, by simp [intOf]⟩
        show _ = Value.int .i64 (E0 + absI d1)
        rw [He0.out]
    · have k0 : wr.cell? ⟨w.heap.size + 1 + 1, 2, none⟩ = some (.int .i64 d2) := (cell_of_row wr _ 2 _ 79 (0, 0) HL.out).trans rfl
      have g0 := frozen_of_row wr (w.heap.size + 1 + 1) 2 _ 79 HL.out
      by_cases n0 : d2 < 0
      · have HL2 : Hid ((wr.setCell ⟨w.heap.size + 1 + 1, 2, none⟩ (.int .i64 (-d2))).heap[w.heap.size + 1 + 1]? = some (.cells (awC d0 d1 d2 (absI d0) (absI d1) (absI d2) 3) 79 (0, 0))) := by
          show _ = _
          rw [heap_setCell_same wr _ 2 _ 79 _ HL.out, absI_neg n0]
          rfl
        have HB2 : Hid (Below w.heap.size w (wr.setCell ⟨w.heap.size + 1 + 1, 2, none⟩ (.int .i64 (-d2)))) := HB.out.setCell (p := ⟨w.heap.size + 1 + 1, 2, none⟩) (by show _ ≤ w.heap.size + 1 + 1; omega) _
        have He0 : Hid (absI d2 = -d2) := absI_neg n0
        simp only [awS]
        generalize absI d0 = E0 at *
        generalize absI d1 = E1 at *
        clear HL HB
        go_wp2
        refine ⟨⟨3, by omega, by simp, ?_, HL2, HB2⟩, by simp [intOf]⟩
        show _ = Value.int .i64 (E0 + E1 + absI d2)
        rw [He0.out]
      · have HL2 : Hid (wr.heap[w.heap.size + 1 + 1]? = some (.cells (awC d0 d1 d2 (absI d0) (absI d1) (absI d2) 3) 79 (0, 0))) := by
          have := HL.out
          show _ = _
          rw [this, absI_nn n0]
          rfl
        have He0 : Hid (absI d2 = d2) := absI_nn n0
        simp only [awS]
        generalize absI d0 = E0 at *
        generalize absI d1 = E1 at *
        clear HL
        go_wp2
        refine ⟨⟨3, by omega, by simp, ?_, HL2, HB⟩, by simp [intOf]⟩
        show _ = Value.int .i64 (E0 + E1 + absI d2)
        rw [He0.out]
    · obtain rfl : I = 0 := by omega
      have R := HP.out (awS (absI d0) (absI d1) (absI d2) 3) wr (by rw [HA.out]; rfl) HB.out
      clear HP HA HL
      go_wp2
      exact R

/-! ### an index, a chunk, a cell -/
def indexN (x y z : Int) : Int := if 0 ≤ y ∧ y ≤ 127 then y * 256 + z % 16 * 16 + x % 16 else -1
set_option maxHeartbeats 400000 in
theorem rindex_c (x y z : Int) (hx0 : -9223372036854775808 ≤ x) (hx1 : x ≤ 9223372036854775807) (hz0 : -9223372036854775808 ≤ z) (hz1 : z ≤ 9223372036854775807) (w : World) : Calls Try.prog 34 #[.agg #[.int .i64 x, .int .i64 y, .int .i64 z]] w fun e w' => e = .returned (.int .i64 (indexN x y z)) ∧ Below w.heap.size w w' := by
  have HB : Hid (Below w.heap.size w (w.alloc (.cells #[.int .i64 x, .int .i64 y, .int .i64 z] 24))) := (Below.refl _ _).alloc (Nat.le_refl _) _
  by_cases c0 : 0 ≤ y ∧ y ≤ 127
  case neg =>
    by_cases c1 : 0 ≤ y
    · have c2 : 128 ≤ y := by omega
      go_enter Try.func34, Try.ntmps34
      go_wp2
      go_ret
      exact ⟨C.ret_int (by simp [indexN, c0]), HB.out⟩
    · go_enter Try.func34, Try.ntmps34
      go_wp2
      go_ret
      exact ⟨C.ret_int (by simp [indexN, c0]), HB.out⟩
  have c1 := c0.1
  have c2 : y < 128 := by omega
  go_enter Try.func34, Try.ntmps34
  go_wp2_with fail
  go_quiet (first | (go_at_call 48; refine Calls.quiet_of_same (N.rmod_hi _ 16 _ (by decide) (by decide) (by assumption) (by assumption))))
  go_wp2
  go_ret
  exact ⟨C.ret_int (by simp [indexN, c0]), below_drewN HB.out _⟩
theorem rchunk_c (x y z : Int) (hx0 : -9223372036854775808 ≤ x) (hx1 : x ≤ 9223372036854775807) (hz0 : -9223372036854775808 ≤ z) (hz1 : z ≤ 9223372036854775807) (w : World) : Calls Try.prog 35 #[.agg #[.int .i64 x, .int .i64 y, .int .i64 z]] w fun e w' => e = .returned (.agg #[.int .i64 (x / 16), .int .i64 (z / 16)]) ∧ Below w.heap.size w w' := by
  go_enter Try.func35, Try.ntmps35
  go_wp2_with fail
  refine wp_region_tail 7 (by kernel_rfl) (by kernel_rfl) ?_
  simp only [List.take_succ_cons, List.take_zero, List.drop_succ_cons, List.drop_zero]
  repeat (first | still_step | still_call (N.rdiv_hi _ 16 _ (by decide) (by decide) (by assumption) (by assumption)))
  refine wpStill_nil ?_
  go_wp2
  exact bodyPost_ret (results_cell_row rfl _ _ (w.heap.size + 1) 30 _ (0, 0) _ rfl (set_two (new_two w _ _)) Try.underlying30 rfl (by kernel_rfl)) rfl ⟨rfl, ((below_drewN (below_two w _ _) 1).setCell (p := ⟨w.heap.size + 1, 0, none⟩) (by simp) _).setCell (p := ⟨w.heap.size + 1, 1, none⟩) (by simp) _⟩
set_option maxRecDepth 1000000 in
set_option maxHeartbeats 1000000 in
theorem rcell_c (cx cz i : Int) (w : World) (hx : Far 1073741824 cx) (hz : Far 1073741824 cz) (c0 : 0 ≤ i) (c1 : i < 32768) : Calls Try.prog 16 #[.agg #[.int .i64 cx, .int .i64 cz], .int .i64 i] w fun e w' => e = .returned (.agg #[.int .i64 (cx * 16 + i % 16), .int .i64 (i / 256), .int .i64 (cz * 16 + i / 16 % 16)]) ∧ Below w.heap.size w w' := by
  obtain ⟨x0, x1⟩ := hx
  obtain ⟨z0, z1⟩ := hz
  go_enter Try.func16, Try.ntmps16
  go_wp2
  refine bodyPost_ret (results_cell_row rfl _ _ (w.heap.size + 1) 24 _ (0, 0) _ rfl (new_two w _ _) Try.underlying24 rfl (by kernel_rfl)) rfl ⟨?_, below_two w _ _⟩
  simp
def farB (x y z : Int) : Bool := !decide ((-1099511627776 ≤ x ∧ x ≤ 1099511627776) ∧ (-1099511627776 ≤ y ∧ y ≤ 1099511627776) ∧ -1099511627776 ≤ z ∧ z ≤ 1099511627776)
end Go.Proofs.Ytbcadklodjdokaa