/-
  The document's Neighbour, of any box.
-/
import Derived.Test.YtmfjmcaaoljjlaaDoorLbase
import Derived.Test.YtmfjmcaaoljjlaaDoorLnbi
set_option maxRecDepth 20000
namespace Go.Proofs.YtmfjmcaaoljjlaaDoor
open C Go.RowKit L

theorem tmod_nat (a b : Nat) : Int.tmod (a : Int) (b : Int) = ((a % b : Nat) : Int) := by
  rw [Int.tmod_eq_emod_of_nonneg (by omega)]; rfl
theorem tdiv_nat (a b : Nat) : Int.tdiv (a : Int) (b : Int) = ((a / b : Nat) : Int) := by
  rw [Int.tdiv_eq_ediv_of_nonneg (by omega)]; rfl
theorem prod_nat {y z x W D : Nat} (hy : y < 128) (hz : z < D) (hD : D ≤ 48) (hx : x < W) (hW : W ≤ 48) : ∃ B C E R : Nat, (y : Int) * (D : Int) = (B : Int) ∧ (B : Int) + (z : Int) = (C : Int) ∧ (C : Int) * (W : Int) = (E : Int) ∧ (E : Int) + (x : Int) = (R : Int) ∧ B ≤ 6096 ∧ C ≤ 6143 ∧ E ≤ 294864 ∧ R ≤ 294911 ∧ (y * D + z) * W + x = R := by
  have h1 : y * D ≤ 127 * 48 := Nat.mul_le_mul (by omega) hD
  have h2 : (y * D + z) * W ≤ 6143 * 48 := Nat.mul_le_mul (by omega) hW
  exact ⟨y * D, y * D + z, (y * D + z) * W, (y * D + z) * W + x, by simp, by simp, by simp, by simp, by omega, by omega, by omega, by omega, rfl⟩
structure Bx (W D T : Nat) : Prop where
  w0 : 0 < W
  w1 : W ≤ 48
  d0 : 0 < D
  d1 : D ≤ 48
  t0 : 0 < T
  t1 : T ≤ 128
set_option maxHeartbeats 1000000 in
theorem rnbg_0 (g i W D T : Nat) (kv : Value) (w : World) (hb : Bx W D T) (hi : i < W * D * T) (hF : Fd w g W D T kv) : Calls Tryd.prog 34 #[.pointer (some ⟨g, 0, none⟩), .int .i64 (i : Int), .int .i64 0] w fun e w' => e = .returned (.int .i64 (nbI W D T i 0)) ∧ Below w.heap.size w w' := by
  obtain ⟨x, z, y, e1, e2, e3, e4, hx, hz⟩ := digits W D i hb.w0 hb.d0
  have hy : y < T := by rw [← e3]; exact row_lt hi
  obtain ⟨bw0, bw1, bd0, bd1, bt0, bt1⟩ := hb
  have hn := nbr_of (T := T) (y := y) hx hz 0
  rw [← e4] at hn
  have t1 : Int.tmod (i : Int) (W : Int) = (x : Int) := by rw [tmod_nat, e1]
  have t2 : Int.tdiv (i : Int) (W : Int) = ((i / W : Nat) : Int) := tdiv_nat i W
  obtain ⟨q, hq⟩ : ∃ q, i / W = q := ⟨_, rfl⟩
  rw [hq] at t2 e2 e3
  have t3 : Int.tmod (q : Int) (D : Int) = (z : Int) := by rw [tmod_nat, e2]
  have t4 : Int.tdiv (q : Int) (D : Int) = (y : Int) := by rw [tdiv_nat, e3]
  have hib : i ≤ 294911 := by
    have := Nat.mul_le_mul (Nat.mul_le_mul bw1 bd1) bt1
    omega
  have hqb : q ≤ 294911 := by
    rw [← hq]
    exact Nat.le_trans (Nat.div_le_self _ _) hib
  have hW0 : ¬ (W : Int) = 0 := by omega
  have hD0 : ¬ (D : Int) = 0 := by omega
  have hw2 : IntKind.i64.wrap (q : Int) = (q : Int) := by rw [IntKind.wrap_i64]; omega
  have hw4 : IntKind.i64.wrap (y : Int) = (y : Int) := by rw [IntKind.wrap_i64]; omega
  have HF0 : Hid (Fd w g W D T kv) := hF
  obtain ⟨RV, hRV⟩ : ∃ v, nbI W D T i 0 = v := ⟨_, rfl⟩
  have HN : Hid (nbr W D T i 0 = _) := hn
  have HR : Hid (nbI W D T i 0 = RV) := hRV
  rw [hRV]
  clear hRV hn
  have HB0 : Hid (Below w.heap.size w w) := Below.refl _ _
  have c0 := hF.c0
  clear e1 e2 e3 e4 hq hi hF
  go_enter Tryd.func34, Tryd.ntmps34
  go_wp2
  clear c0
  refine wp_region_since (by kernel_rfl) (by kernel_rfl) ?_
  have hsome := since_some w
  have q0 := fun s : Since w => Since.cell HF0.out.c0 s
  have q1 := fun s : Since w => Since.cell HF0.out.c1 s
  repeat (go_big_quiet_step (fail))
  refine wpQuiet_nil ?_
  rintro _ ⟨s, rfl⟩
  have HF1 : Hid (Fd s.w g W D T kv) := HF0.out.on s.bel
  have HB1 : Hid (Below w.heap.size w s.w) := HB0.out.trans (s.bel.mono HB0.out.size)
  generalize s.w = w1 at *
  clear hsome q0 q1 HB0 HF0
  go_wp2
  refine wp_region_since (by kernel_rfl) (by kernel_rfl) ?_
  have hsome := since_some w1
  have q0 := fun s : Since w1 => Since.cell HF1.out.c0 s
  have q1 := fun s : Since w1 => Since.cell HF1.out.c1 s
  repeat (go_big_quiet_step (fail))
  refine wpQuiet_nil ?_
  rintro _ ⟨s, rfl⟩
  have HF2 : Hid (Fd s.w g W D T kv) := HF1.out.on s.bel
  have HB2 : Hid (Below w.heap.size w s.w) := HB1.out.trans (s.bel.mono HB1.out.size)
  generalize s.w = w2 at *
  clear hsome q0 q1 HB1 HF1
  clear t1 t2 t3 t4 hw2 hW0 hD0
  have c0 := HF2.out.c0
  have c1 := HF2.out.c1
  have c2 := HF2.out.c2
  by_cases h : 0 < x
  case neg =>
    have R : Below w.heap.size w w2 := HB2.out
    have hr : RV = -1 := by rw [← HR.out]; unfold nbI; rw [HN.out]; simp [h]
    have Hr : Hid (RV = -1) := hr
    clear HN HR hr HF2 HB2
    go_wp2
    go_ret
    exact ⟨by rw [Hr.out]; rfl, R⟩
  have Hr0 : Hid (RV = ((((y * D + z) * W + (x - 1) : Nat)) : Int)) := by show RV = _; rw [← HR.out]; unfold nbI; rw [HN.out]; simp [h]
  clear HN HR
  obtain ⟨n1, hn1⟩ : ∃ n1 : Nat, x - 1 = n1 := ⟨_, rfl⟩
  have hci : (x : Int) - 1 = (n1 : Int) := by omega
  rw [hn1] at Hr0
  obtain ⟨B, C, E, R, m1, m2, m3, m4, b1, b2, b3, b4, m5⟩ := prod_nat (y := y) (z := z) (x := n1) (W := W) (D := D) (by omega) (by omega) bd1 (by omega) bw1
  have Hr : Hid (RV = (R : Int)) := by show RV = _; rw [Hr0.out, m5]
  have hnb : n1 < 130 := by omega
  clear Hr0 m5
  go_wp2
  clear c0 c1 c2
  refine wp_region_since (by kernel_rfl) (by kernel_rfl) ?_
  have hsome := since_some w2
  have q0 := fun s : Since w2 => Since.cell HF2.out.c0 s
  have q1 := fun s : Since w2 => Since.cell HF2.out.c1 s
  repeat (go_big_quiet_step (fail))
  refine wpQuiet_nil ?_
  rintro _ ⟨s, rfl⟩
  have HF3 : Hid (Fd s.w g W D T kv) := HF2.out.on s.bel
  have HB3 : Hid (Below w.heap.size w s.w) := HB2.out.trans (s.bel.mono HB2.out.size)
  generalize s.w = w3 at *
  clear hsome q0 q1 HB2 HF2
  have R : Below w.heap.size w w3 := HB3.out
  clear HF3 HB3
  go_wp2
  go_ret
  exact ⟨by rw [Hr.out]; rfl, R⟩
set_option maxHeartbeats 1000000 in
theorem rnbg_1 (g i W D T : Nat) (kv : Value) (w : World) (hb : Bx W D T) (hi : i < W * D * T) (hF : Fd w g W D T kv) : Calls Tryd.prog 34 #[.pointer (some ⟨g, 0, none⟩), .int .i64 (i : Int), .int .i64 1] w fun e w' => e = .returned (.int .i64 (nbI W D T i 1)) ∧ Below w.heap.size w w' := by
  obtain ⟨x, z, y, e1, e2, e3, e4, hx, hz⟩ := digits W D i hb.w0 hb.d0
  have hy : y < T := by rw [← e3]; exact row_lt hi
  obtain ⟨bw0, bw1, bd0, bd1, bt0, bt1⟩ := hb
  have hn := nbr_of (T := T) (y := y) hx hz 1
  rw [← e4] at hn
  have t1 : Int.tmod (i : Int) (W : Int) = (x : Int) := by rw [tmod_nat, e1]
  have t2 : Int.tdiv (i : Int) (W : Int) = ((i / W : Nat) : Int) := tdiv_nat i W
  obtain ⟨q, hq⟩ : ∃ q, i / W = q := ⟨_, rfl⟩
  rw [hq] at t2 e2 e3
  have t3 : Int.tmod (q : Int) (D : Int) = (z : Int) := by rw [tmod_nat, e2]
  have t4 : Int.tdiv (q : Int) (D : Int) = (y : Int) := by rw [tdiv_nat, e3]
  have hib : i ≤ 294911 := by
    have := Nat.mul_le_mul (Nat.mul_le_mul bw1 bd1) bt1
    omega
  have hqb : q ≤ 294911 := by
    rw [← hq]
    exact Nat.le_trans (Nat.div_le_self _ _) hib
  have hW0 : ¬ (W : Int) = 0 := by omega
  have hD0 : ¬ (D : Int) = 0 := by omega
  have hw2 : IntKind.i64.wrap (q : Int) = (q : Int) := by rw [IntKind.wrap_i64]; omega
  have hw4 : IntKind.i64.wrap (y : Int) = (y : Int) := by rw [IntKind.wrap_i64]; omega
  have HF0 : Hid (Fd w g W D T kv) := hF
  obtain ⟨RV, hRV⟩ : ∃ v, nbI W D T i 1 = v := ⟨_, rfl⟩
  have HN : Hid (nbr W D T i 1 = _) := hn
  have HR : Hid (nbI W D T i 1 = RV) := hRV
  rw [hRV]
  clear hRV hn
  have HB0 : Hid (Below w.heap.size w w) := Below.refl _ _
  have c0 := hF.c0
  clear e1 e2 e3 e4 hq hi hF
  go_enter Tryd.func34, Tryd.ntmps34
  go_wp2
  clear c0
  refine wp_region_since (by kernel_rfl) (by kernel_rfl) ?_
  have hsome := since_some w
  have q0 := fun s : Since w => Since.cell HF0.out.c0 s
  have q1 := fun s : Since w => Since.cell HF0.out.c1 s
  repeat (go_big_quiet_step (fail))
  refine wpQuiet_nil ?_
  rintro _ ⟨s, rfl⟩
  have HF1 : Hid (Fd s.w g W D T kv) := HF0.out.on s.bel
  have HB1 : Hid (Below w.heap.size w s.w) := HB0.out.trans (s.bel.mono HB0.out.size)
  generalize s.w = w1 at *
  clear hsome q0 q1 HB0 HF0
  go_wp2
  refine wp_region_since (by kernel_rfl) (by kernel_rfl) ?_
  have hsome := since_some w1
  have q0 := fun s : Since w1 => Since.cell HF1.out.c0 s
  have q1 := fun s : Since w1 => Since.cell HF1.out.c1 s
  repeat (go_big_quiet_step (fail))
  refine wpQuiet_nil ?_
  rintro _ ⟨s, rfl⟩
  have HF2 : Hid (Fd s.w g W D T kv) := HF1.out.on s.bel
  have HB2 : Hid (Below w.heap.size w s.w) := HB1.out.trans (s.bel.mono HB1.out.size)
  generalize s.w = w2 at *
  clear hsome q0 q1 HB1 HF1
  clear t1 t2 t3 t4 hw2 hW0 hD0
  have c0 := HF2.out.c0
  have c1 := HF2.out.c1
  have c2 := HF2.out.c2
  by_cases h : x + 1 < W
  case neg =>
    have R : Below w.heap.size w w2 := HB2.out
    have hr : RV = -1 := by rw [← HR.out]; unfold nbI; rw [HN.out]; simp [h]
    have Hr : Hid (RV = -1) := hr
    clear HN HR hr HF2 HB2
    go_wp2
    go_ret
    exact ⟨by rw [Hr.out]; rfl, R⟩
  have Hr0 : Hid (RV = ((((y * D + z) * W + (x + 1) : Nat)) : Int)) := by show RV = _; rw [← HR.out]; unfold nbI; rw [HN.out]; simp [h]
  clear HN HR
  obtain ⟨n1, hn1⟩ : ∃ n1 : Nat, x + 1 = n1 := ⟨_, rfl⟩
  have hci : (x : Int) + 1 = (n1 : Int) := by omega
  rw [hn1] at Hr0
  obtain ⟨B, C, E, R, m1, m2, m3, m4, b1, b2, b3, b4, m5⟩ := prod_nat (y := y) (z := z) (x := n1) (W := W) (D := D) (by omega) (by omega) bd1 (by omega) bw1
  have Hr : Hid (RV = (R : Int)) := by show RV = _; rw [Hr0.out, m5]
  have hnb : n1 < 130 := by omega
  clear Hr0 m5
  go_wp2
  clear c0 c1 c2
  refine wp_region_since (by kernel_rfl) (by kernel_rfl) ?_
  have hsome := since_some w2
  have q0 := fun s : Since w2 => Since.cell HF2.out.c0 s
  have q1 := fun s : Since w2 => Since.cell HF2.out.c1 s
  repeat (go_big_quiet_step (fail))
  refine wpQuiet_nil ?_
  rintro _ ⟨s, rfl⟩
  have HF3 : Hid (Fd s.w g W D T kv) := HF2.out.on s.bel
  have HB3 : Hid (Below w.heap.size w s.w) := HB2.out.trans (s.bel.mono HB2.out.size)
  generalize s.w = w3 at *
  clear hsome q0 q1 HB2 HF2
  have R : Below w.heap.size w w3 := HB3.out
  clear HF3 HB3
  go_wp2
  go_ret
  exact ⟨by rw [Hr.out]; rfl, R⟩
set_option maxHeartbeats 1000000 in
theorem rnbg_2 (g i W D T : Nat) (kv : Value) (w : World) (hb : Bx W D T) (hi : i < W * D * T) (hF : Fd w g W D T kv) : Calls Tryd.prog 34 #[.pointer (some ⟨g, 0, none⟩), .int .i64 (i : Int), .int .i64 2] w fun e w' => e = .returned (.int .i64 (nbI W D T i 2)) ∧ Below w.heap.size w w' := by
  obtain ⟨x, z, y, e1, e2, e3, e4, hx, hz⟩ := digits W D i hb.w0 hb.d0
  have hy : y < T := by rw [← e3]; exact row_lt hi
  obtain ⟨bw0, bw1, bd0, bd1, bt0, bt1⟩ := hb
  have hn := nbr_of (T := T) (y := y) hx hz 2
  rw [← e4] at hn
  have t1 : Int.tmod (i : Int) (W : Int) = (x : Int) := by rw [tmod_nat, e1]
  have t2 : Int.tdiv (i : Int) (W : Int) = ((i / W : Nat) : Int) := tdiv_nat i W
  obtain ⟨q, hq⟩ : ∃ q, i / W = q := ⟨_, rfl⟩
  rw [hq] at t2 e2 e3
  have t3 : Int.tmod (q : Int) (D : Int) = (z : Int) := by rw [tmod_nat, e2]
  have t4 : Int.tdiv (q : Int) (D : Int) = (y : Int) := by rw [tdiv_nat, e3]
  have hib : i ≤ 294911 := by
    have := Nat.mul_le_mul (Nat.mul_le_mul bw1 bd1) bt1
    omega
  have hqb : q ≤ 294911 := by
    rw [← hq]
    exact Nat.le_trans (Nat.div_le_self _ _) hib
  have hW0 : ¬ (W : Int) = 0 := by omega
  have hD0 : ¬ (D : Int) = 0 := by omega
  have hw2 : IntKind.i64.wrap (q : Int) = (q : Int) := by rw [IntKind.wrap_i64]; omega
  have hw4 : IntKind.i64.wrap (y : Int) = (y : Int) := by rw [IntKind.wrap_i64]; omega
  have HF0 : Hid (Fd w g W D T kv) := hF
  obtain ⟨RV, hRV⟩ : ∃ v, nbI W D T i 2 = v := ⟨_, rfl⟩
  have HN : Hid (nbr W D T i 2 = _) := hn
  have HR : Hid (nbI W D T i 2 = RV) := hRV
  rw [hRV]
  clear hRV hn
  have HB0 : Hid (Below w.heap.size w w) := Below.refl _ _
  have c0 := hF.c0
  clear e1 e2 e3 e4 hq hi hF
  go_enter Tryd.func34, Tryd.ntmps34
  go_wp2
  clear c0
  refine wp_region_since (by kernel_rfl) (by kernel_rfl) ?_
  have hsome := since_some w
  have q0 := fun s : Since w => Since.cell HF0.out.c0 s
  have q1 := fun s : Since w => Since.cell HF0.out.c1 s
  repeat (go_big_quiet_step (fail))
  refine wpQuiet_nil ?_
  rintro _ ⟨s, rfl⟩
  have HF1 : Hid (Fd s.w g W D T kv) := HF0.out.on s.bel
  have HB1 : Hid (Below w.heap.size w s.w) := HB0.out.trans (s.bel.mono HB0.out.size)
  generalize s.w = w1 at *
  clear hsome q0 q1 HB0 HF0
  go_wp2
  refine wp_region_since (by kernel_rfl) (by kernel_rfl) ?_
  have hsome := since_some w1
  have q0 := fun s : Since w1 => Since.cell HF1.out.c0 s
  have q1 := fun s : Since w1 => Since.cell HF1.out.c1 s
  repeat (go_big_quiet_step (fail))
  refine wpQuiet_nil ?_
  rintro _ ⟨s, rfl⟩
  have HF2 : Hid (Fd s.w g W D T kv) := HF1.out.on s.bel
  have HB2 : Hid (Below w.heap.size w s.w) := HB1.out.trans (s.bel.mono HB1.out.size)
  generalize s.w = w2 at *
  clear hsome q0 q1 HB1 HF1
  clear t1 t2 t3 t4 hw2 hW0 hD0
  have c0 := HF2.out.c0
  have c1 := HF2.out.c1
  have c2 := HF2.out.c2
  by_cases h : 0 < z
  case neg =>
    have R : Below w.heap.size w w2 := HB2.out
    have hr : RV = -1 := by rw [← HR.out]; unfold nbI; rw [HN.out]; simp [h]
    have Hr : Hid (RV = -1) := hr
    clear HN HR hr HF2 HB2
    go_wp2
    go_ret
    exact ⟨by rw [Hr.out]; rfl, R⟩
  have Hr0 : Hid (RV = ((((y * D + (z - 1)) * W + x : Nat)) : Int)) := by show RV = _; rw [← HR.out]; unfold nbI; rw [HN.out]; simp [h]
  clear HN HR
  obtain ⟨n1, hn1⟩ : ∃ n1 : Nat, z - 1 = n1 := ⟨_, rfl⟩
  have hci : (z : Int) - 1 = (n1 : Int) := by omega
  rw [hn1] at Hr0
  obtain ⟨B, C, E, R, m1, m2, m3, m4, b1, b2, b3, b4, m5⟩ := prod_nat (y := y) (z := n1) (x := x) (W := W) (D := D) (by omega) (by omega) bd1 (by omega) bw1
  have Hr : Hid (RV = (R : Int)) := by show RV = _; rw [Hr0.out, m5]
  have hnb : n1 < 130 := by omega
  clear Hr0 m5
  go_wp2
  clear c0 c1 c2
  refine wp_region_since (by kernel_rfl) (by kernel_rfl) ?_
  have hsome := since_some w2
  have q0 := fun s : Since w2 => Since.cell HF2.out.c0 s
  have q1 := fun s : Since w2 => Since.cell HF2.out.c1 s
  repeat (go_big_quiet_step (fail))
  refine wpQuiet_nil ?_
  rintro _ ⟨s, rfl⟩
  have HF3 : Hid (Fd s.w g W D T kv) := HF2.out.on s.bel
  have HB3 : Hid (Below w.heap.size w s.w) := HB2.out.trans (s.bel.mono HB2.out.size)
  generalize s.w = w3 at *
  clear hsome q0 q1 HB2 HF2
  have R : Below w.heap.size w w3 := HB3.out
  clear HF3 HB3
  go_wp2
  go_ret
  exact ⟨by rw [Hr.out]; rfl, R⟩
set_option maxHeartbeats 1000000 in
theorem rnbg_3 (g i W D T : Nat) (kv : Value) (w : World) (hb : Bx W D T) (hi : i < W * D * T) (hF : Fd w g W D T kv) : Calls Tryd.prog 34 #[.pointer (some ⟨g, 0, none⟩), .int .i64 (i : Int), .int .i64 3] w fun e w' => e = .returned (.int .i64 (nbI W D T i 3)) ∧ Below w.heap.size w w' := by
  obtain ⟨x, z, y, e1, e2, e3, e4, hx, hz⟩ := digits W D i hb.w0 hb.d0
  have hy : y < T := by rw [← e3]; exact row_lt hi
  obtain ⟨bw0, bw1, bd0, bd1, bt0, bt1⟩ := hb
  have hn := nbr_of (T := T) (y := y) hx hz 3
  rw [← e4] at hn
  have t1 : Int.tmod (i : Int) (W : Int) = (x : Int) := by rw [tmod_nat, e1]
  have t2 : Int.tdiv (i : Int) (W : Int) = ((i / W : Nat) : Int) := tdiv_nat i W
  obtain ⟨q, hq⟩ : ∃ q, i / W = q := ⟨_, rfl⟩
  rw [hq] at t2 e2 e3
  have t3 : Int.tmod (q : Int) (D : Int) = (z : Int) := by rw [tmod_nat, e2]
  have t4 : Int.tdiv (q : Int) (D : Int) = (y : Int) := by rw [tdiv_nat, e3]
  have hib : i ≤ 294911 := by
    have := Nat.mul_le_mul (Nat.mul_le_mul bw1 bd1) bt1
    omega
  have hqb : q ≤ 294911 := by
    rw [← hq]
    exact Nat.le_trans (Nat.div_le_self _ _) hib
  have hW0 : ¬ (W : Int) = 0 := by omega
  have hD0 : ¬ (D : Int) = 0 := by omega
  have hw2 : IntKind.i64.wrap (q : Int) = (q : Int) := by rw [IntKind.wrap_i64]; omega
  have hw4 : IntKind.i64.wrap (y : Int) = (y : Int) := by rw [IntKind.wrap_i64]; omega
  have HF0 : Hid (Fd w g W D T kv) := hF
  obtain ⟨RV, hRV⟩ : ∃ v, nbI W D T i 3 = v := ⟨_, rfl⟩
  have HN : Hid (nbr W D T i 3 = _) := hn
  have HR : Hid (nbI W D T i 3 = RV) := hRV
  rw [hRV]
  clear hRV hn
  have HB0 : Hid (Below w.heap.size w w) := Below.refl _ _
  have c0 := hF.c0
  clear e1 e2 e3 e4 hq hi hF
  go_enter Tryd.func34, Tryd.ntmps34
  go_wp2
  clear c0
  refine wp_region_since (by kernel_rfl) (by kernel_rfl) ?_
  have hsome := since_some w
  have q0 := fun s : Since w => Since.cell HF0.out.c0 s
  have q1 := fun s : Since w => Since.cell HF0.out.c1 s
  repeat (go_big_quiet_step (fail))
  refine wpQuiet_nil ?_
  rintro _ ⟨s, rfl⟩
  have HF1 : Hid (Fd s.w g W D T kv) := HF0.out.on s.bel
  have HB1 : Hid (Below w.heap.size w s.w) := HB0.out.trans (s.bel.mono HB0.out.size)
  generalize s.w = w1 at *
  clear hsome q0 q1 HB0 HF0
  go_wp2
  refine wp_region_since (by kernel_rfl) (by kernel_rfl) ?_
  have hsome := since_some w1
  have q0 := fun s : Since w1 => Since.cell HF1.out.c0 s
  have q1 := fun s : Since w1 => Since.cell HF1.out.c1 s
  repeat (go_big_quiet_step (fail))
  refine wpQuiet_nil ?_
  rintro _ ⟨s, rfl⟩
  have HF2 : Hid (Fd s.w g W D T kv) := HF1.out.on s.bel
  have HB2 : Hid (Below w.heap.size w s.w) := HB1.out.trans (s.bel.mono HB1.out.size)
  generalize s.w = w2 at *
  clear hsome q0 q1 HB1 HF1
  clear t1 t2 t3 t4 hw2 hW0 hD0
  have c0 := HF2.out.c0
  have c1 := HF2.out.c1
  have c2 := HF2.out.c2
  by_cases h : z + 1 < D
  case neg =>
    have R : Below w.heap.size w w2 := HB2.out
    have hr : RV = -1 := by rw [← HR.out]; unfold nbI; rw [HN.out]; simp [h]
    have Hr : Hid (RV = -1) := hr
    clear HN HR hr HF2 HB2
    go_wp2
    go_ret
    exact ⟨by rw [Hr.out]; rfl, R⟩
  have Hr0 : Hid (RV = ((((y * D + (z + 1)) * W + x : Nat)) : Int)) := by show RV = _; rw [← HR.out]; unfold nbI; rw [HN.out]; simp [h]
  clear HN HR
  obtain ⟨n1, hn1⟩ : ∃ n1 : Nat, z + 1 = n1 := ⟨_, rfl⟩
  have hci : (z : Int) + 1 = (n1 : Int) := by omega
  rw [hn1] at Hr0
  obtain ⟨B, C, E, R, m1, m2, m3, m4, b1, b2, b3, b4, m5⟩ := prod_nat (y := y) (z := n1) (x := x) (W := W) (D := D) (by omega) (by omega) bd1 (by omega) bw1
  have Hr : Hid (RV = (R : Int)) := by show RV = _; rw [Hr0.out, m5]
  have hnb : n1 < 130 := by omega
  clear Hr0 m5
  go_wp2
  clear c0 c1 c2
  refine wp_region_since (by kernel_rfl) (by kernel_rfl) ?_
  have hsome := since_some w2
  have q0 := fun s : Since w2 => Since.cell HF2.out.c0 s
  have q1 := fun s : Since w2 => Since.cell HF2.out.c1 s
  repeat (go_big_quiet_step (fail))
  refine wpQuiet_nil ?_
  rintro _ ⟨s, rfl⟩
  have HF3 : Hid (Fd s.w g W D T kv) := HF2.out.on s.bel
  have HB3 : Hid (Below w.heap.size w s.w) := HB2.out.trans (s.bel.mono HB2.out.size)
  generalize s.w = w3 at *
  clear hsome q0 q1 HB2 HF2
  have R : Below w.heap.size w w3 := HB3.out
  clear HF3 HB3
  go_wp2
  go_ret
  exact ⟨by rw [Hr.out]; rfl, R⟩
set_option maxHeartbeats 1000000 in
theorem rnbg_4 (g i W D T : Nat) (kv : Value) (w : World) (hb : Bx W D T) (hi : i < W * D * T) (hF : Fd w g W D T kv) : Calls Tryd.prog 34 #[.pointer (some ⟨g, 0, none⟩), .int .i64 (i : Int), .int .i64 4] w fun e w' => e = .returned (.int .i64 (nbI W D T i 4)) ∧ Below w.heap.size w w' := by
  obtain ⟨x, z, y, e1, e2, e3, e4, hx, hz⟩ := digits W D i hb.w0 hb.d0
  have hy : y < T := by rw [← e3]; exact row_lt hi
  obtain ⟨bw0, bw1, bd0, bd1, bt0, bt1⟩ := hb
  have hn := nbr_of (T := T) (y := y) hx hz 4
  rw [← e4] at hn
  have t1 : Int.tmod (i : Int) (W : Int) = (x : Int) := by rw [tmod_nat, e1]
  have t2 : Int.tdiv (i : Int) (W : Int) = ((i / W : Nat) : Int) := tdiv_nat i W
  obtain ⟨q, hq⟩ : ∃ q, i / W = q := ⟨_, rfl⟩
  rw [hq] at t2 e2 e3
  have t3 : Int.tmod (q : Int) (D : Int) = (z : Int) := by rw [tmod_nat, e2]
  have t4 : Int.tdiv (q : Int) (D : Int) = (y : Int) := by rw [tdiv_nat, e3]
  have hib : i ≤ 294911 := by
    have := Nat.mul_le_mul (Nat.mul_le_mul bw1 bd1) bt1
    omega
  have hqb : q ≤ 294911 := by
    rw [← hq]
    exact Nat.le_trans (Nat.div_le_self _ _) hib
  have hW0 : ¬ (W : Int) = 0 := by omega
  have hD0 : ¬ (D : Int) = 0 := by omega
  have hw2 : IntKind.i64.wrap (q : Int) = (q : Int) := by rw [IntKind.wrap_i64]; omega
  have hw4 : IntKind.i64.wrap (y : Int) = (y : Int) := by rw [IntKind.wrap_i64]; omega
  have HF0 : Hid (Fd w g W D T kv) := hF
  obtain ⟨RV, hRV⟩ : ∃ v, nbI W D T i 4 = v := ⟨_, rfl⟩
  have HN : Hid (nbr W D T i 4 = _) := hn
  have HR : Hid (nbI W D T i 4 = RV) := hRV
  rw [hRV]
  clear hRV hn
  have HB0 : Hid (Below w.heap.size w w) := Below.refl _ _
  have c0 := hF.c0
  clear e1 e2 e3 e4 hq hi hF
  go_enter Tryd.func34, Tryd.ntmps34
  go_wp2
  clear c0
  refine wp_region_since (by kernel_rfl) (by kernel_rfl) ?_
  have hsome := since_some w
  have q0 := fun s : Since w => Since.cell HF0.out.c0 s
  have q1 := fun s : Since w => Since.cell HF0.out.c1 s
  repeat (go_big_quiet_step (fail))
  refine wpQuiet_nil ?_
  rintro _ ⟨s, rfl⟩
  have HF1 : Hid (Fd s.w g W D T kv) := HF0.out.on s.bel
  have HB1 : Hid (Below w.heap.size w s.w) := HB0.out.trans (s.bel.mono HB0.out.size)
  generalize s.w = w1 at *
  clear hsome q0 q1 HB0 HF0
  go_wp2
  refine wp_region_since (by kernel_rfl) (by kernel_rfl) ?_
  have hsome := since_some w1
  have q0 := fun s : Since w1 => Since.cell HF1.out.c0 s
  have q1 := fun s : Since w1 => Since.cell HF1.out.c1 s
  repeat (go_big_quiet_step (fail))
  refine wpQuiet_nil ?_
  rintro _ ⟨s, rfl⟩
  have HF2 : Hid (Fd s.w g W D T kv) := HF1.out.on s.bel
  have HB2 : Hid (Below w.heap.size w s.w) := HB1.out.trans (s.bel.mono HB1.out.size)
  generalize s.w = w2 at *
  clear hsome q0 q1 HB1 HF1
  clear t1 t2 t3 t4 hw2 hW0 hD0
  have c0 := HF2.out.c0
  have c1 := HF2.out.c1
  have c2 := HF2.out.c2
  by_cases h : 0 < y
  case neg =>
    have R : Below w.heap.size w w2 := HB2.out
    have hr : RV = -1 := by rw [← HR.out]; unfold nbI; rw [HN.out]; simp [h]
    have Hr : Hid (RV = -1) := hr
    clear HN HR hr HF2 HB2
    go_wp2
    go_ret
    exact ⟨by rw [Hr.out]; rfl, R⟩
  have Hr0 : Hid (RV = (((((y - 1) * D + z) * W + x : Nat)) : Int)) := by show RV = _; rw [← HR.out]; unfold nbI; rw [HN.out]; simp [h]
  clear HN HR
  obtain ⟨n1, hn1⟩ : ∃ n1 : Nat, y - 1 = n1 := ⟨_, rfl⟩
  have hci : (y : Int) - 1 = (n1 : Int) := by omega
  rw [hn1] at Hr0
  obtain ⟨B, C, E, R, m1, m2, m3, m4, b1, b2, b3, b4, m5⟩ := prod_nat (y := n1) (z := z) (x := x) (W := W) (D := D) (by omega) (by omega) bd1 (by omega) bw1
  have Hr : Hid (RV = (R : Int)) := by show RV = _; rw [Hr0.out, m5]
  have hnb : n1 < 130 := by omega
  clear Hr0 m5
  go_wp2
  clear c0 c1 c2
  refine wp_region_since (by kernel_rfl) (by kernel_rfl) ?_
  have hsome := since_some w2
  have q0 := fun s : Since w2 => Since.cell HF2.out.c0 s
  have q1 := fun s : Since w2 => Since.cell HF2.out.c1 s
  repeat (go_big_quiet_step (fail))
  refine wpQuiet_nil ?_
  rintro _ ⟨s, rfl⟩
  have HF3 : Hid (Fd s.w g W D T kv) := HF2.out.on s.bel
  have HB3 : Hid (Below w.heap.size w s.w) := HB2.out.trans (s.bel.mono HB2.out.size)
  generalize s.w = w3 at *
  clear hsome q0 q1 HB2 HF2
  have R : Below w.heap.size w w3 := HB3.out
  clear HF3 HB3
  go_wp2
  go_ret
  exact ⟨by rw [Hr.out]; rfl, R⟩
set_option maxHeartbeats 1000000 in
theorem rnbg_5 (g i W D T : Nat) (kv : Value) (w : World) (hb : Bx W D T) (hi : i < W * D * T) (hF : Fd w g W D T kv) : Calls Tryd.prog 34 #[.pointer (some ⟨g, 0, none⟩), .int .i64 (i : Int), .int .i64 5] w fun e w' => e = .returned (.int .i64 (nbI W D T i 5)) ∧ Below w.heap.size w w' := by
  obtain ⟨x, z, y, e1, e2, e3, e4, hx, hz⟩ := digits W D i hb.w0 hb.d0
  have hy : y < T := by rw [← e3]; exact row_lt hi
  obtain ⟨bw0, bw1, bd0, bd1, bt0, bt1⟩ := hb
  have hn := nbr_of (T := T) (y := y) hx hz 5
  rw [← e4] at hn
  have t1 : Int.tmod (i : Int) (W : Int) = (x : Int) := by rw [tmod_nat, e1]
  have t2 : Int.tdiv (i : Int) (W : Int) = ((i / W : Nat) : Int) := tdiv_nat i W
  obtain ⟨q, hq⟩ : ∃ q, i / W = q := ⟨_, rfl⟩
  rw [hq] at t2 e2 e3
  have t3 : Int.tmod (q : Int) (D : Int) = (z : Int) := by rw [tmod_nat, e2]
  have t4 : Int.tdiv (q : Int) (D : Int) = (y : Int) := by rw [tdiv_nat, e3]
  have hib : i ≤ 294911 := by
    have := Nat.mul_le_mul (Nat.mul_le_mul bw1 bd1) bt1
    omega
  have hqb : q ≤ 294911 := by
    rw [← hq]
    exact Nat.le_trans (Nat.div_le_self _ _) hib
  have hW0 : ¬ (W : Int) = 0 := by omega
  have hD0 : ¬ (D : Int) = 0 := by omega
  have hw2 : IntKind.i64.wrap (q : Int) = (q : Int) := by rw [IntKind.wrap_i64]; omega
  have hw4 : IntKind.i64.wrap (y : Int) = (y : Int) := by rw [IntKind.wrap_i64]; omega
  have HF0 : Hid (Fd w g W D T kv) := hF
  obtain ⟨RV, hRV⟩ : ∃ v, nbI W D T i 5 = v := ⟨_, rfl⟩
  have HN : Hid (nbr W D T i 5 = _) := hn
  have HR : Hid (nbI W D T i 5 = RV) := hRV
  rw [hRV]
  clear hRV hn
  have HB0 : Hid (Below w.heap.size w w) := Below.refl _ _
  have c0 := hF.c0
  clear e1 e2 e3 e4 hq hi hF
  go_enter Tryd.func34, Tryd.ntmps34
  go_wp2
  clear c0
  refine wp_region_since (by kernel_rfl) (by kernel_rfl) ?_
  have hsome := since_some w
  have q0 := fun s : Since w => Since.cell HF0.out.c0 s
  have q1 := fun s : Since w => Since.cell HF0.out.c1 s
  repeat (go_big_quiet_step (fail))
  refine wpQuiet_nil ?_
  rintro _ ⟨s, rfl⟩
  have HF1 : Hid (Fd s.w g W D T kv) := HF0.out.on s.bel
  have HB1 : Hid (Below w.heap.size w s.w) := HB0.out.trans (s.bel.mono HB0.out.size)
  generalize s.w = w1 at *
  clear hsome q0 q1 HB0 HF0
  go_wp2
  refine wp_region_since (by kernel_rfl) (by kernel_rfl) ?_
  have hsome := since_some w1
  have q0 := fun s : Since w1 => Since.cell HF1.out.c0 s
  have q1 := fun s : Since w1 => Since.cell HF1.out.c1 s
  repeat (go_big_quiet_step (fail))
  refine wpQuiet_nil ?_
  rintro _ ⟨s, rfl⟩
  have HF2 : Hid (Fd s.w g W D T kv) := HF1.out.on s.bel
  have HB2 : Hid (Below w.heap.size w s.w) := HB1.out.trans (s.bel.mono HB1.out.size)
  generalize s.w = w2 at *
  clear hsome q0 q1 HB1 HF1
  clear t1 t2 t3 t4 hw2 hW0 hD0
  have c0 := HF2.out.c0
  have c1 := HF2.out.c1
  have c2 := HF2.out.c2
  by_cases h : y + 1 < T
  case neg =>
    have R : Below w.heap.size w w2 := HB2.out
    have hr : RV = -1 := by rw [← HR.out]; unfold nbI; rw [HN.out]; simp [h]
    have Hr : Hid (RV = -1) := hr
    clear HN HR hr HF2 HB2
    go_wp2
    go_ret
    exact ⟨by rw [Hr.out]; rfl, R⟩
  have Hr0 : Hid (RV = (((((y + 1) * D + z) * W + x : Nat)) : Int)) := by show RV = _; rw [← HR.out]; unfold nbI; rw [HN.out]; simp [h]
  clear HN HR
  obtain ⟨n1, hn1⟩ : ∃ n1 : Nat, y + 1 = n1 := ⟨_, rfl⟩
  have hci : (y : Int) + 1 = (n1 : Int) := by omega
  rw [hn1] at Hr0
  obtain ⟨B, C, E, R, m1, m2, m3, m4, b1, b2, b3, b4, m5⟩ := prod_nat (y := n1) (z := z) (x := x) (W := W) (D := D) (by omega) (by omega) bd1 (by omega) bw1
  have Hr : Hid (RV = (R : Int)) := by show RV = _; rw [Hr0.out, m5]
  have hnb : n1 < 130 := by omega
  clear Hr0 m5
  go_wp2
  clear c0 c1 c2
  refine wp_region_since (by kernel_rfl) (by kernel_rfl) ?_
  have hsome := since_some w2
  have q0 := fun s : Since w2 => Since.cell HF2.out.c0 s
  have q1 := fun s : Since w2 => Since.cell HF2.out.c1 s
  repeat (go_big_quiet_step (fail))
  refine wpQuiet_nil ?_
  rintro _ ⟨s, rfl⟩
  have HF3 : Hid (Fd s.w g W D T kv) := HF2.out.on s.bel
  have HB3 : Hid (Below w.heap.size w s.w) := HB2.out.trans (s.bel.mono HB2.out.size)
  generalize s.w = w3 at *
  clear hsome q0 q1 HB2 HF2
  have R : Below w.heap.size w w3 := HB3.out
  clear HF3 HB3
  go_wp2
  go_ret
  exact ⟨by rw [Hr.out]; rfl, R⟩
theorem rnbg_c (g i k W D T : Nat) (kv : Value) (w : World) (hb : Bx W D T) (hk : k < 6) (hi : i < W * D * T) (hF : Fd w g W D T kv) : Calls Tryd.prog 34 #[.pointer (some ⟨g, 0, none⟩), .int .i64 (i : Int), .int .i64 (k : Int)] w fun e w' => e = .returned (.int .i64 (nbI W D T i k)) ∧ Below w.heap.size w w' := by
  have h6 : k = 0 ∨ k = 1 ∨ k = 2 ∨ k = 3 ∨ k = 4 ∨ k = 5 := by omega
  rcases h6 with rfl | rfl | rfl | rfl | rfl | rfl
  · exact rnbg_0 g i W D T kv w hb hi hF
  · exact rnbg_1 g i W D T kv w hb hi hF
  · exact rnbg_2 g i W D T kv w hb hi hF
  · exact rnbg_3 g i W D T kv w hb hi hF
  · exact rnbg_4 g i W D T kv w hb hi hF
  · exact rnbg_5 g i W D T kv w hb hi hF
end Go.Proofs.YtmfjmcaaoljjlaaDoor
