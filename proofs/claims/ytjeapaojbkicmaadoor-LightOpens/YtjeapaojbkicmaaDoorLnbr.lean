/-
  The document's Neighbour, of the field of nine chunks.
-/
import Derived.Test.YtjeapaojbkicmaaDoorLnbi
set_option maxRecDepth 20000
namespace Go.Proofs.YtjeapaojbkicmaaDoor
open C Go.RowKit L

set_option maxHeartbeats 1000000 in
theorem rnb48_0 (g i : Nat) (kv : Value) (w : World) (hi : i < 294912) (hF : Fd w g 48 48 128 kv) : Calls Tryd.prog 17 #[.pointer (some ⟨g, 0, none⟩), .int .i64 (i : Int), .int .i64 0] w fun e w' => e = .returned (.int .i64 (nbI 48 48 128 i 0)) ∧ Below w.heap.size w w' := by
  obtain ⟨x, z, y, e1, e2, e3, e4, hx, hz⟩ := digits 48 48 i (by omega) (by omega)
  have hy : y < 128 := by omega
  have hn := nbr_of (T := 128) (y := y) hx hz 0
  rw [← e4] at hn
  have t1 : Int.tmod (i : Int) 48 = (x : Int) := by rw [Int.tmod_eq_emod_of_nonneg (by omega)]; omega
  have t2 : Int.tdiv (i : Int) 48 = ((i / 48 : Nat) : Int) := by rw [Int.tdiv_eq_ediv_of_nonneg (by omega)]; omega
  obtain ⟨q, hq⟩ : ∃ q, i / 48 = q := ⟨_, rfl⟩
  rw [hq] at t2 e2 e3
  have t3 : Int.tmod (q : Int) 48 = (z : Int) := by rw [Int.tmod_eq_emod_of_nonneg (by omega)]; omega
  have t4 : Int.tdiv (q : Int) 48 = (y : Int) := by rw [Int.tdiv_eq_ediv_of_nonneg (by omega)]; omega
  have hqb : q < 6144 := by omega
  have hw2 : IntKind.i64.wrap (q : Int) = (q : Int) := by rw [IntKind.wrap_i64]; omega
  have hw4 : IntKind.i64.wrap (y : Int) = (y : Int) := by rw [IntKind.wrap_i64]; omega
  have HF0 : Hid (Fd w g 48 48 128 kv) := hF
  obtain ⟨RV, hRV⟩ : ∃ v, nbI 48 48 128 i 0 = v := ⟨_, rfl⟩
  have HN : Hid (nbr 48 48 128 i 0 = _) := hn
  have HR : Hid (nbI 48 48 128 i 0 = RV) := hRV
  rw [hRV]
  clear hRV hn
  have HB0 : Hid (Below w.heap.size w w) := Below.refl _ _
  have c0 := hF.c0
  clear e1 e2 e3 e4 hq hi hF
  go_enter Tryd.func17, Tryd.ntmps17
  go_wp2
  clear c0
  refine wp_region_since (by kernel_rfl) (by kernel_rfl) ?_
  have hsome := since_some w
  have q0 := fun s : Since w => Since.cell HF0.out.c0 s
  have q1 := fun s : Since w => Since.cell HF0.out.c1 s
  repeat (go_big_quiet_step (fail))
  refine wpQuiet_nil ?_
  rintro _ ⟨s, rfl⟩
  have HF1 : Hid (Fd s.w g 48 48 128 kv) := HF0.out.on s.bel
  have HB1 : Hid (Below w.heap.size w s.w) := HB0.out.trans (s.bel.mono HB0.out.size)
  generalize s.w = w1 at *
  clear hsome q0 q1 HB0 HF0
  go_wp2
  refine wp_region_since (by kernel_rfl) (by kernel_rfl) ?_
  have hsome := since_some w1
  have q0 := fun s : Since w1 => Since.cell HF1.out.c0 s
  have q1 := fun s : Since w1 => Since.cell HF1.out.c1 s
  repeat (go_big_quiet_step (fail))
  refine wpQuiet_nil ?_
  rintro _ ⟨s, rfl⟩
  have HF2 : Hid (Fd s.w g 48 48 128 kv) := HF1.out.on s.bel
  have HB2 : Hid (Below w.heap.size w s.w) := HB1.out.trans (s.bel.mono HB1.out.size)
  generalize s.w = w2 at *
  clear hsome q0 q1 HB1 HF1
  have c0 := HF2.out.c0
  have c1 := HF2.out.c1
  have c2 := HF2.out.c2
  by_cases h : 0 < x
  case neg =>
    have R : Below w.heap.size w w2 := HB2.out
    have hr : RV = -1 := by rw [← HR.out]; unfold nbI; rw [HN.out]; simp [h]
    have Hr : Hid (RV = -1) := hr
    clear HN HR hr HF2 HB2
    go_wp2
    go_ret
    exact ⟨by rw [Hr.out]; rfl, R⟩
  have Hr : Hid (RV = (((y * 48 + z) * 48 + (x - 1) : Nat) : Int)) := by show RV = _; rw [← HR.out]; unfold nbI; rw [HN.out]; simp [h]
  clear HN HR
  go_wp2
  clear c0 c1 c2
  refine wp_region_since (by kernel_rfl) (by kernel_rfl) ?_
  have hsome := since_some w2
  have q0 := fun s : Since w2 => Since.cell HF2.out.c0 s
  have q1 := fun s : Since w2 => Since.cell HF2.out.c1 s
  repeat (go_big_quiet_step (fail))
  refine wpQuiet_nil ?_
  rintro _ ⟨s, rfl⟩
  have HF3 : Hid (Fd s.w g 48 48 128 kv) := HF2.out.on s.bel
  have HB3 : Hid (Below w.heap.size w s.w) := HB2.out.trans (s.bel.mono HB2.out.size)
  generalize s.w = w3 at *
  clear hsome q0 q1 HB2 HF2
  have R : Below w.heap.size w w3 := HB3.out
  clear HF3 HB3
  go_wp2
  go_ret
  refine ⟨congrArg Ending.returned (congrArg (Value.int .i64) ?_), R⟩
  rw [Hr.out]
  omega
set_option maxHeartbeats 1000000 in
theorem rnb48_1 (g i : Nat) (kv : Value) (w : World) (hi : i < 294912) (hF : Fd w g 48 48 128 kv) : Calls Tryd.prog 17 #[.pointer (some ⟨g, 0, none⟩), .int .i64 (i : Int), .int .i64 1] w fun e w' => e = .returned (.int .i64 (nbI 48 48 128 i 1)) ∧ Below w.heap.size w w' := by
  obtain ⟨x, z, y, e1, e2, e3, e4, hx, hz⟩ := digits 48 48 i (by omega) (by omega)
  have hy : y < 128 := by omega
  have hn := nbr_of (T := 128) (y := y) hx hz 1
  rw [← e4] at hn
  have t1 : Int.tmod (i : Int) 48 = (x : Int) := by rw [Int.tmod_eq_emod_of_nonneg (by omega)]; omega
  have t2 : Int.tdiv (i : Int) 48 = ((i / 48 : Nat) : Int) := by rw [Int.tdiv_eq_ediv_of_nonneg (by omega)]; omega
  obtain ⟨q, hq⟩ : ∃ q, i / 48 = q := ⟨_, rfl⟩
  rw [hq] at t2 e2 e3
  have t3 : Int.tmod (q : Int) 48 = (z : Int) := by rw [Int.tmod_eq_emod_of_nonneg (by omega)]; omega
  have t4 : Int.tdiv (q : Int) 48 = (y : Int) := by rw [Int.tdiv_eq_ediv_of_nonneg (by omega)]; omega
  have hqb : q < 6144 := by omega
  have hw2 : IntKind.i64.wrap (q : Int) = (q : Int) := by rw [IntKind.wrap_i64]; omega
  have hw4 : IntKind.i64.wrap (y : Int) = (y : Int) := by rw [IntKind.wrap_i64]; omega
  have HF0 : Hid (Fd w g 48 48 128 kv) := hF
  obtain ⟨RV, hRV⟩ : ∃ v, nbI 48 48 128 i 1 = v := ⟨_, rfl⟩
  have HN : Hid (nbr 48 48 128 i 1 = _) := hn
  have HR : Hid (nbI 48 48 128 i 1 = RV) := hRV
  rw [hRV]
  clear hRV hn
  have HB0 : Hid (Below w.heap.size w w) := Below.refl _ _
  have c0 := hF.c0
  clear e1 e2 e3 e4 hq hi hF
  go_enter Tryd.func17, Tryd.ntmps17
  go_wp2
  clear c0
  refine wp_region_since (by kernel_rfl) (by kernel_rfl) ?_
  have hsome := since_some w
  have q0 := fun s : Since w => Since.cell HF0.out.c0 s
  have q1 := fun s : Since w => Since.cell HF0.out.c1 s
  repeat (go_big_quiet_step (fail))
  refine wpQuiet_nil ?_
  rintro _ ⟨s, rfl⟩
  have HF1 : Hid (Fd s.w g 48 48 128 kv) := HF0.out.on s.bel
  have HB1 : Hid (Below w.heap.size w s.w) := HB0.out.trans (s.bel.mono HB0.out.size)
  generalize s.w = w1 at *
  clear hsome q0 q1 HB0 HF0
  go_wp2
  refine wp_region_since (by kernel_rfl) (by kernel_rfl) ?_
  have hsome := since_some w1
  have q0 := fun s : Since w1 => Since.cell HF1.out.c0 s
  have q1 := fun s : Since w1 => Since.cell HF1.out.c1 s
  repeat (go_big_quiet_step (fail))
  refine wpQuiet_nil ?_
  rintro _ ⟨s, rfl⟩
  have HF2 : Hid (Fd s.w g 48 48 128 kv) := HF1.out.on s.bel
  have HB2 : Hid (Below w.heap.size w s.w) := HB1.out.trans (s.bel.mono HB1.out.size)
  generalize s.w = w2 at *
  clear hsome q0 q1 HB1 HF1
  clear t1 t2 t3 t4 hw2
  have wv : IntKind.i64.wrap ((x : Int) + 1) = ((x + 1 : Nat) : Int) := by rw [IntKind.wrap_i64]; omega
  have c0 := HF2.out.c0
  have c1 := HF2.out.c1
  have c2 := HF2.out.c2
  by_cases h : x + 1 < 48
  case neg =>
    have R : Below w.heap.size w w2 := HB2.out
    have hr : RV = -1 := by rw [← HR.out]; unfold nbI; rw [HN.out]; simp [h]
    have Hr : Hid (RV = -1) := hr
    clear HN HR hr HF2 HB2
    rw [show x + 1 = 48 by omega] at wv
    have hz0 : ¬ (z : Int) < 0 := by omega
    go_wp2
    go_ret
    exact ⟨by rw [Hr.out]; rfl, R⟩
  have Hr : Hid (RV = (((y * 48 + z) * 48 + (x + 1) : Nat) : Int)) := by show RV = _; rw [← HR.out]; unfold nbI; rw [HN.out]; simp [h]
  clear HN HR
  obtain ⟨v, hv⟩ : ∃ v, x + 1 = v := ⟨_, rfl⟩
  rw [hv] at wv h Hr
  clear hx
  go_wp2
  clear c0 c1 c2
  refine wp_region_since (by kernel_rfl) (by kernel_rfl) ?_
  have hsome := since_some w2
  have q0 := fun s : Since w2 => Since.cell HF2.out.c0 s
  have q1 := fun s : Since w2 => Since.cell HF2.out.c1 s
  repeat (go_big_quiet_step (fail))
  refine wpQuiet_nil ?_
  rintro _ ⟨s, rfl⟩
  have HF3 : Hid (Fd s.w g 48 48 128 kv) := HF2.out.on s.bel
  have HB3 : Hid (Below w.heap.size w s.w) := HB2.out.trans (s.bel.mono HB2.out.size)
  generalize s.w = w3 at *
  clear hsome q0 q1 HB2 HF2
  have R : Below w.heap.size w w3 := HB3.out
  clear HF3 HB3
  go_wp2
  go_ret
  refine ⟨congrArg Ending.returned (congrArg (Value.int .i64) ?_), R⟩
  rw [Hr.out]
  omega
set_option maxHeartbeats 1000000 in
theorem rnb48_2 (g i : Nat) (kv : Value) (w : World) (hi : i < 294912) (hF : Fd w g 48 48 128 kv) : Calls Tryd.prog 17 #[.pointer (some ⟨g, 0, none⟩), .int .i64 (i : Int), .int .i64 2] w fun e w' => e = .returned (.int .i64 (nbI 48 48 128 i 2)) ∧ Below w.heap.size w w' := by
  obtain ⟨x, z, y, e1, e2, e3, e4, hx, hz⟩ := digits 48 48 i (by omega) (by omega)
  have hy : y < 128 := by omega
  have hn := nbr_of (T := 128) (y := y) hx hz 2
  rw [← e4] at hn
  have t1 : Int.tmod (i : Int) 48 = (x : Int) := by rw [Int.tmod_eq_emod_of_nonneg (by omega)]; omega
  have t2 : Int.tdiv (i : Int) 48 = ((i / 48 : Nat) : Int) := by rw [Int.tdiv_eq_ediv_of_nonneg (by omega)]; omega
  obtain ⟨q, hq⟩ : ∃ q, i / 48 = q := ⟨_, rfl⟩
  rw [hq] at t2 e2 e3
  have t3 : Int.tmod (q : Int) 48 = (z : Int) := by rw [Int.tmod_eq_emod_of_nonneg (by omega)]; omega
  have t4 : Int.tdiv (q : Int) 48 = (y : Int) := by rw [Int.tdiv_eq_ediv_of_nonneg (by omega)]; omega
  have hqb : q < 6144 := by omega
  have hw2 : IntKind.i64.wrap (q : Int) = (q : Int) := by rw [IntKind.wrap_i64]; omega
  have hw4 : IntKind.i64.wrap (y : Int) = (y : Int) := by rw [IntKind.wrap_i64]; omega
  have HF0 : Hid (Fd w g 48 48 128 kv) := hF
  obtain ⟨RV, hRV⟩ : ∃ v, nbI 48 48 128 i 2 = v := ⟨_, rfl⟩
  have HN : Hid (nbr 48 48 128 i 2 = _) := hn
  have HR : Hid (nbI 48 48 128 i 2 = RV) := hRV
  rw [hRV]
  clear hRV hn
  have HB0 : Hid (Below w.heap.size w w) := Below.refl _ _
  have c0 := hF.c0
  clear e1 e2 e3 e4 hq hi hF
  go_enter Tryd.func17, Tryd.ntmps17
  go_wp2
  clear c0
  refine wp_region_since (by kernel_rfl) (by kernel_rfl) ?_
  have hsome := since_some w
  have q0 := fun s : Since w => Since.cell HF0.out.c0 s
  have q1 := fun s : Since w => Since.cell HF0.out.c1 s
  repeat (go_big_quiet_step (fail))
  refine wpQuiet_nil ?_
  rintro _ ⟨s, rfl⟩
  have HF1 : Hid (Fd s.w g 48 48 128 kv) := HF0.out.on s.bel
  have HB1 : Hid (Below w.heap.size w s.w) := HB0.out.trans (s.bel.mono HB0.out.size)
  generalize s.w = w1 at *
  clear hsome q0 q1 HB0 HF0
  go_wp2
  refine wp_region_since (by kernel_rfl) (by kernel_rfl) ?_
  have hsome := since_some w1
  have q0 := fun s : Since w1 => Since.cell HF1.out.c0 s
  have q1 := fun s : Since w1 => Since.cell HF1.out.c1 s
  repeat (go_big_quiet_step (fail))
  refine wpQuiet_nil ?_
  rintro _ ⟨s, rfl⟩
  have HF2 : Hid (Fd s.w g 48 48 128 kv) := HF1.out.on s.bel
  have HB2 : Hid (Below w.heap.size w s.w) := HB1.out.trans (s.bel.mono HB1.out.size)
  generalize s.w = w2 at *
  clear hsome q0 q1 HB1 HF1
  have c0 := HF2.out.c0
  have c1 := HF2.out.c1
  have c2 := HF2.out.c2
  by_cases h : 0 < z
  case neg =>
    have R : Below w.heap.size w w2 := HB2.out
    have hr : RV = -1 := by rw [← HR.out]; unfold nbI; rw [HN.out]; simp [h]
    have Hr : Hid (RV = -1) := hr
    clear HN HR hr HF2 HB2
    go_wp2
    go_ret
    exact ⟨by rw [Hr.out]; rfl, R⟩
  have Hr : Hid (RV = (((y * 48 + (z - 1)) * 48 + x : Nat) : Int)) := by show RV = _; rw [← HR.out]; unfold nbI; rw [HN.out]; simp [h]
  clear HN HR
  go_wp2
  clear c0 c1 c2
  refine wp_region_since (by kernel_rfl) (by kernel_rfl) ?_
  have hsome := since_some w2
  have q0 := fun s : Since w2 => Since.cell HF2.out.c0 s
  have q1 := fun s : Since w2 => Since.cell HF2.out.c1 s
  repeat (go_big_quiet_step (fail))
  refine wpQuiet_nil ?_
  rintro _ ⟨s, rfl⟩
  have HF3 : Hid (Fd s.w g 48 48 128 kv) := HF2.out.on s.bel
  have HB3 : Hid (Below w.heap.size w s.w) := HB2.out.trans (s.bel.mono HB2.out.size)
  generalize s.w = w3 at *
  clear hsome q0 q1 HB2 HF2
  have R : Below w.heap.size w w3 := HB3.out
  clear HF3 HB3
  go_wp2
  go_ret
  refine ⟨congrArg Ending.returned (congrArg (Value.int .i64) ?_), R⟩
  rw [Hr.out]
  omega
set_option maxHeartbeats 1000000 in
theorem rnb48_3 (g i : Nat) (kv : Value) (w : World) (hi : i < 294912) (hF : Fd w g 48 48 128 kv) : Calls Tryd.prog 17 #[.pointer (some ⟨g, 0, none⟩), .int .i64 (i : Int), .int .i64 3] w fun e w' => e = .returned (.int .i64 (nbI 48 48 128 i 3)) ∧ Below w.heap.size w w' := by
  obtain ⟨x, z, y, e1, e2, e3, e4, hx, hz⟩ := digits 48 48 i (by omega) (by omega)
  have hy : y < 128 := by omega
  have hn := nbr_of (T := 128) (y := y) hx hz 3
  rw [← e4] at hn
  have t1 : Int.tmod (i : Int) 48 = (x : Int) := by rw [Int.tmod_eq_emod_of_nonneg (by omega)]; omega
  have t2 : Int.tdiv (i : Int) 48 = ((i / 48 : Nat) : Int) := by rw [Int.tdiv_eq_ediv_of_nonneg (by omega)]; omega
  obtain ⟨q, hq⟩ : ∃ q, i / 48 = q := ⟨_, rfl⟩
  rw [hq] at t2 e2 e3
  have t3 : Int.tmod (q : Int) 48 = (z : Int) := by rw [Int.tmod_eq_emod_of_nonneg (by omega)]; omega
  have t4 : Int.tdiv (q : Int) 48 = (y : Int) := by rw [Int.tdiv_eq_ediv_of_nonneg (by omega)]; omega
  have hqb : q < 6144 := by omega
  have hw2 : IntKind.i64.wrap (q : Int) = (q : Int) := by rw [IntKind.wrap_i64]; omega
  have hw4 : IntKind.i64.wrap (y : Int) = (y : Int) := by rw [IntKind.wrap_i64]; omega
  have HF0 : Hid (Fd w g 48 48 128 kv) := hF
  obtain ⟨RV, hRV⟩ : ∃ v, nbI 48 48 128 i 3 = v := ⟨_, rfl⟩
  have HN : Hid (nbr 48 48 128 i 3 = _) := hn
  have HR : Hid (nbI 48 48 128 i 3 = RV) := hRV
  rw [hRV]
  clear hRV hn
  have HB0 : Hid (Below w.heap.size w w) := Below.refl _ _
  have c0 := hF.c0
  clear e1 e2 e3 e4 hq hi hF
  go_enter Tryd.func17, Tryd.ntmps17
  go_wp2
  clear c0
  refine wp_region_since (by kernel_rfl) (by kernel_rfl) ?_
  have hsome := since_some w
  have q0 := fun s : Since w => Since.cell HF0.out.c0 s
  have q1 := fun s : Since w => Since.cell HF0.out.c1 s
  repeat (go_big_quiet_step (fail))
  refine wpQuiet_nil ?_
  rintro _ ⟨s, rfl⟩
  have HF1 : Hid (Fd s.w g 48 48 128 kv) := HF0.out.on s.bel
  have HB1 : Hid (Below w.heap.size w s.w) := HB0.out.trans (s.bel.mono HB0.out.size)
  generalize s.w = w1 at *
  clear hsome q0 q1 HB0 HF0
  go_wp2
  refine wp_region_since (by kernel_rfl) (by kernel_rfl) ?_
  have hsome := since_some w1
  have q0 := fun s : Since w1 => Since.cell HF1.out.c0 s
  have q1 := fun s : Since w1 => Since.cell HF1.out.c1 s
  repeat (go_big_quiet_step (fail))
  refine wpQuiet_nil ?_
  rintro _ ⟨s, rfl⟩
  have HF2 : Hid (Fd s.w g 48 48 128 kv) := HF1.out.on s.bel
  have HB2 : Hid (Below w.heap.size w s.w) := HB1.out.trans (s.bel.mono HB1.out.size)
  generalize s.w = w2 at *
  clear hsome q0 q1 HB1 HF1
  clear t1 t2 t3 t4 hw2
  have wv : IntKind.i64.wrap ((z : Int) + 1) = ((z + 1 : Nat) : Int) := by rw [IntKind.wrap_i64]; omega
  have c0 := HF2.out.c0
  have c1 := HF2.out.c1
  have c2 := HF2.out.c2
  by_cases h : z + 1 < 48
  case neg =>
    have R : Below w.heap.size w w2 := HB2.out
    have hr : RV = -1 := by rw [← HR.out]; unfold nbI; rw [HN.out]; simp [h]
    have Hr : Hid (RV = -1) := hr
    clear HN HR hr HF2 HB2
    rw [show z + 1 = 48 by omega] at wv
    have hz0 : ¬ (x : Int) < 0 := by omega
    go_wp2
    go_ret
    exact ⟨by rw [Hr.out]; rfl, R⟩
  have Hr : Hid (RV = (((y * 48 + (z + 1)) * 48 + x : Nat) : Int)) := by show RV = _; rw [← HR.out]; unfold nbI; rw [HN.out]; simp [h]
  clear HN HR
  obtain ⟨v, hv⟩ : ∃ v, z + 1 = v := ⟨_, rfl⟩
  rw [hv] at wv h Hr
  clear hz
  go_wp2
  clear c0 c1 c2
  refine wp_region_since (by kernel_rfl) (by kernel_rfl) ?_
  have hsome := since_some w2
  have q0 := fun s : Since w2 => Since.cell HF2.out.c0 s
  have q1 := fun s : Since w2 => Since.cell HF2.out.c1 s
  repeat (go_big_quiet_step (fail))
  refine wpQuiet_nil ?_
  rintro _ ⟨s, rfl⟩
  have HF3 : Hid (Fd s.w g 48 48 128 kv) := HF2.out.on s.bel
  have HB3 : Hid (Below w.heap.size w s.w) := HB2.out.trans (s.bel.mono HB2.out.size)
  generalize s.w = w3 at *
  clear hsome q0 q1 HB2 HF2
  have R : Below w.heap.size w w3 := HB3.out
  clear HF3 HB3
  go_wp2
  go_ret
  refine ⟨congrArg Ending.returned (congrArg (Value.int .i64) ?_), R⟩
  rw [Hr.out]
  omega
set_option maxHeartbeats 1000000 in
theorem rnb48_4 (g i : Nat) (kv : Value) (w : World) (hi : i < 294912) (hF : Fd w g 48 48 128 kv) : Calls Tryd.prog 17 #[.pointer (some ⟨g, 0, none⟩), .int .i64 (i : Int), .int .i64 4] w fun e w' => e = .returned (.int .i64 (nbI 48 48 128 i 4)) ∧ Below w.heap.size w w' := by
  obtain ⟨x, z, y, e1, e2, e3, e4, hx, hz⟩ := digits 48 48 i (by omega) (by omega)
  have hy : y < 128 := by omega
  have hn := nbr_of (T := 128) (y := y) hx hz 4
  rw [← e4] at hn
  have t1 : Int.tmod (i : Int) 48 = (x : Int) := by rw [Int.tmod_eq_emod_of_nonneg (by omega)]; omega
  have t2 : Int.tdiv (i : Int) 48 = ((i / 48 : Nat) : Int) := by rw [Int.tdiv_eq_ediv_of_nonneg (by omega)]; omega
  obtain ⟨q, hq⟩ : ∃ q, i / 48 = q := ⟨_, rfl⟩
  rw [hq] at t2 e2 e3
  have t3 : Int.tmod (q : Int) 48 = (z : Int) := by rw [Int.tmod_eq_emod_of_nonneg (by omega)]; omega
  have t4 : Int.tdiv (q : Int) 48 = (y : Int) := by rw [Int.tdiv_eq_ediv_of_nonneg (by omega)]; omega
  have hqb : q < 6144 := by omega
  have hw2 : IntKind.i64.wrap (q : Int) = (q : Int) := by rw [IntKind.wrap_i64]; omega
  have hw4 : IntKind.i64.wrap (y : Int) = (y : Int) := by rw [IntKind.wrap_i64]; omega
  have HF0 : Hid (Fd w g 48 48 128 kv) := hF
  obtain ⟨RV, hRV⟩ : ∃ v, nbI 48 48 128 i 4 = v := ⟨_, rfl⟩
  have HN : Hid (nbr 48 48 128 i 4 = _) := hn
  have HR : Hid (nbI 48 48 128 i 4 = RV) := hRV
  rw [hRV]
  clear hRV hn
  have HB0 : Hid (Below w.heap.size w w) := Below.refl _ _
  have c0 := hF.c0
  clear e1 e2 e3 e4 hq hi hF
  go_enter Tryd.func17, Tryd.ntmps17
  go_wp2
  clear c0
  refine wp_region_since (by kernel_rfl) (by kernel_rfl) ?_
  have hsome := since_some w
  have q0 := fun s : Since w => Since.cell HF0.out.c0 s
  have q1 := fun s : Since w => Since.cell HF0.out.c1 s
  repeat (go_big_quiet_step (fail))
  refine wpQuiet_nil ?_
  rintro _ ⟨s, rfl⟩
  have HF1 : Hid (Fd s.w g 48 48 128 kv) := HF0.out.on s.bel
  have HB1 : Hid (Below w.heap.size w s.w) := HB0.out.trans (s.bel.mono HB0.out.size)
  generalize s.w = w1 at *
  clear hsome q0 q1 HB0 HF0
  go_wp2
  refine wp_region_since (by kernel_rfl) (by kernel_rfl) ?_
  have hsome := since_some w1
  have q0 := fun s : Since w1 => Since.cell HF1.out.c0 s
  have q1 := fun s : Since w1 => Since.cell HF1.out.c1 s
  repeat (go_big_quiet_step (fail))
  refine wpQuiet_nil ?_
  rintro _ ⟨s, rfl⟩
  have HF2 : Hid (Fd s.w g 48 48 128 kv) := HF1.out.on s.bel
  have HB2 : Hid (Below w.heap.size w s.w) := HB1.out.trans (s.bel.mono HB1.out.size)
  generalize s.w = w2 at *
  clear hsome q0 q1 HB1 HF1
  have c0 := HF2.out.c0
  have c1 := HF2.out.c1
  have c2 := HF2.out.c2
  by_cases h : 0 < y
  case neg =>
    have R : Below w.heap.size w w2 := HB2.out
    have hr : RV = -1 := by rw [← HR.out]; unfold nbI; rw [HN.out]; simp [h]
    have Hr : Hid (RV = -1) := hr
    clear HN HR hr HF2 HB2
    go_wp2
    go_ret
    exact ⟨by rw [Hr.out]; rfl, R⟩
  have Hr : Hid (RV = ((((y - 1) * 48 + z) * 48 + x : Nat) : Int)) := by show RV = _; rw [← HR.out]; unfold nbI; rw [HN.out]; simp [h]
  clear HN HR
  go_wp2
  clear c0 c1 c2
  refine wp_region_since (by kernel_rfl) (by kernel_rfl) ?_
  have hsome := since_some w2
  have q0 := fun s : Since w2 => Since.cell HF2.out.c0 s
  have q1 := fun s : Since w2 => Since.cell HF2.out.c1 s
  repeat (go_big_quiet_step (fail))
  refine wpQuiet_nil ?_
  rintro _ ⟨s, rfl⟩
  have HF3 : Hid (Fd s.w g 48 48 128 kv) := HF2.out.on s.bel
  have HB3 : Hid (Below w.heap.size w s.w) := HB2.out.trans (s.bel.mono HB2.out.size)
  generalize s.w = w3 at *
  clear hsome q0 q1 HB2 HF2
  have R : Below w.heap.size w w3 := HB3.out
  clear HF3 HB3
  go_wp2
  go_ret
  refine ⟨congrArg Ending.returned (congrArg (Value.int .i64) ?_), R⟩
  rw [Hr.out]
  omega
set_option maxHeartbeats 1000000 in
theorem rnb48_5 (g i : Nat) (kv : Value) (w : World) (hi : i < 294912) (hF : Fd w g 48 48 128 kv) : Calls Tryd.prog 17 #[.pointer (some ⟨g, 0, none⟩), .int .i64 (i : Int), .int .i64 5] w fun e w' => e = .returned (.int .i64 (nbI 48 48 128 i 5)) ∧ Below w.heap.size w w' := by
  obtain ⟨x, z, y, e1, e2, e3, e4, hx, hz⟩ := digits 48 48 i (by omega) (by omega)
  have hy : y < 128 := by omega
  have hn := nbr_of (T := 128) (y := y) hx hz 5
  rw [← e4] at hn
  have t1 : Int.tmod (i : Int) 48 = (x : Int) := by rw [Int.tmod_eq_emod_of_nonneg (by omega)]; omega
  have t2 : Int.tdiv (i : Int) 48 = ((i / 48 : Nat) : Int) := by rw [Int.tdiv_eq_ediv_of_nonneg (by omega)]; omega
  obtain ⟨q, hq⟩ : ∃ q, i / 48 = q := ⟨_, rfl⟩
  rw [hq] at t2 e2 e3
  have t3 : Int.tmod (q : Int) 48 = (z : Int) := by rw [Int.tmod_eq_emod_of_nonneg (by omega)]; omega
  have t4 : Int.tdiv (q : Int) 48 = (y : Int) := by rw [Int.tdiv_eq_ediv_of_nonneg (by omega)]; omega
  have hqb : q < 6144 := by omega
  have hw2 : IntKind.i64.wrap (q : Int) = (q : Int) := by rw [IntKind.wrap_i64]; omega
  have hw4 : IntKind.i64.wrap (y : Int) = (y : Int) := by rw [IntKind.wrap_i64]; omega
  have HF0 : Hid (Fd w g 48 48 128 kv) := hF
  obtain ⟨RV, hRV⟩ : ∃ v, nbI 48 48 128 i 5 = v := ⟨_, rfl⟩
  have HN : Hid (nbr 48 48 128 i 5 = _) := hn
  have HR : Hid (nbI 48 48 128 i 5 = RV) := hRV
  rw [hRV]
  clear hRV hn
  have HB0 : Hid (Below w.heap.size w w) := Below.refl _ _
  have c0 := hF.c0
  clear e1 e2 e3 e4 hq hi hF
  go_enter Tryd.func17, Tryd.ntmps17
  go_wp2
  clear c0
  refine wp_region_since (by kernel_rfl) (by kernel_rfl) ?_
  have hsome := since_some w
  have q0 := fun s : Since w => Since.cell HF0.out.c0 s
  have q1 := fun s : Since w => Since.cell HF0.out.c1 s
  repeat (go_big_quiet_step (fail))
  refine wpQuiet_nil ?_
  rintro _ ⟨s, rfl⟩
  have HF1 : Hid (Fd s.w g 48 48 128 kv) := HF0.out.on s.bel
  have HB1 : Hid (Below w.heap.size w s.w) := HB0.out.trans (s.bel.mono HB0.out.size)
  generalize s.w = w1 at *
  clear hsome q0 q1 HB0 HF0
  go_wp2
  refine wp_region_since (by kernel_rfl) (by kernel_rfl) ?_
  have hsome := since_some w1
  have q0 := fun s : Since w1 => Since.cell HF1.out.c0 s
  have q1 := fun s : Since w1 => Since.cell HF1.out.c1 s
  repeat (go_big_quiet_step (fail))
  refine wpQuiet_nil ?_
  rintro _ ⟨s, rfl⟩
  have HF2 : Hid (Fd s.w g 48 48 128 kv) := HF1.out.on s.bel
  have HB2 : Hid (Below w.heap.size w s.w) := HB1.out.trans (s.bel.mono HB1.out.size)
  generalize s.w = w2 at *
  clear hsome q0 q1 HB1 HF1
  have c0 := HF2.out.c0
  have c1 := HF2.out.c1
  have c2 := HF2.out.c2
  by_cases h : y + 1 < 128
  case neg =>
    have R : Below w.heap.size w w2 := HB2.out
    have hr : RV = -1 := by rw [← HR.out]; unfold nbI; rw [HN.out]; simp [h]
    have Hr : Hid (RV = -1) := hr
    clear HN HR hr HF2 HB2
    go_wp2
    go_ret
    exact ⟨by rw [Hr.out]; rfl, R⟩
  have Hr : Hid (RV = ((((y + 1) * 48 + z) * 48 + x : Nat) : Int)) := by show RV = _; rw [← HR.out]; unfold nbI; rw [HN.out]; simp [h]
  clear HN HR
  go_wp2
  clear c0 c1 c2
  refine wp_region_since (by kernel_rfl) (by kernel_rfl) ?_
  have hsome := since_some w2
  have q0 := fun s : Since w2 => Since.cell HF2.out.c0 s
  have q1 := fun s : Since w2 => Since.cell HF2.out.c1 s
  repeat (go_big_quiet_step (fail))
  refine wpQuiet_nil ?_
  rintro _ ⟨s, rfl⟩
  have HF3 : Hid (Fd s.w g 48 48 128 kv) := HF2.out.on s.bel
  have HB3 : Hid (Below w.heap.size w s.w) := HB2.out.trans (s.bel.mono HB2.out.size)
  generalize s.w = w3 at *
  clear hsome q0 q1 HB2 HF2
  have R : Below w.heap.size w w3 := HB3.out
  clear HF3 HB3
  go_wp2
  go_ret
  refine ⟨congrArg Ending.returned (congrArg (Value.int .i64) ?_), R⟩
  rw [Hr.out]
  omega
theorem rnb48_c (g i k : Nat) (kv : Value) (w : World) (hk : k < 6) (hi : i < 294912) (hF : Fd w g 48 48 128 kv) : Calls Tryd.prog 17 #[.pointer (some ⟨g, 0, none⟩), .int .i64 (i : Int), .int .i64 (k : Int)] w fun e w' => e = .returned (.int .i64 (nbI 48 48 128 i k)) ∧ Below w.heap.size w w' := by
  have h6 : k = 0 ∨ k = 1 ∨ k = 2 ∨ k = 3 ∨ k = 4 ∨ k = 5 := by omega
  rcases h6 with rfl | rfl | rfl | rfl | rfl | rfl
  · exact rnb48_0 g i kv w hi hF
  · exact rnb48_1 g i kv w hi hF
  · exact rnb48_2 g i kv w hi hF
  · exact rnb48_3 g i kv w hi hF
  · exact rnb48_4 g i kv w hi hF
  · exact rnb48_5 g i kv w hi hF
end Go.Proofs.YtjeapaojbkicmaaDoor
