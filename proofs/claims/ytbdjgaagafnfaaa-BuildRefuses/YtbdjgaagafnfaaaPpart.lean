/-
  The landed build's small functions: bits of a number, how far, near, a feature's foot, the cells about it, what stands on a ground.
  The landed build's parts of a ruin, a lamp and a tree.
-/
import Derived.Test.YtbdjgaagafnfaaaBbase
import Derived.Test.YtbdjgaagafnfaaaHsince
import Derived.Test.YtbdjgaagafnfaaaGn3
import Derived.Lib.MinMax
import Derived.Test.YtbdjgaagafnfaaaBclaim
set_option maxRecDepth 20000
namespace Go.Proofs.Ytbdjgaagafnfaaa
section
open C Go.RowKit

theorem u64_mask (k : Nat) (m n : Int) (h : (BitVec.ofInt 64 m).toNat = 2 ^ k - 1) (hk : k ≤ 62) : bits .and .u64 n m = n % ((2 ^ k : Nat) : Int) := by
  have key : (BitVec.ofInt 64 n &&& BitVec.ofInt 64 m).toNat = (n % ((2 ^ 64 : Nat) : Int)).toNat % 2 ^ k := by
    rw [BitVec.toNat_and, BitVec.toNat_ofInt, h, Nat.and_two_pow_sub_one_eq_mod]
  show IntKind.u64.wrap ((BitVec.ofInt 64 n &&& BitVec.ofInt 64 m).toNat : Nat) = _
  have hd : ((2 ^ k : Nat) : Int) ∣ ((2 ^ 64 : Nat) : Int) := by exact_mod_cast Nat.pow_dvd_pow 2 (by omega)
  have hp : 0 < 2 ^ k := Nat.two_pow_pos k
  have hl : 2 ^ k ≤ 2 ^ 62 := Nat.pow_le_pow_right (by omega) hk
  have e : (((n % ((2 ^ 64 : Nat) : Int)).toNat % 2 ^ k : Nat) : Int) = n % ((2 ^ k : Nat) : Int) := by
    rw [Int.natCast_emod, Int.toNat_of_nonneg (Int.emod_nonneg _ (by decide)), Int.emod_emod_of_dvd n hd]
  rw [key, e, IntKind.wrap_u64]
  have h1 := Int.emod_nonneg n (show ((2 ^ k : Nat) : Int) ≠ 0 by omega)
  have h2 := Int.emod_lt_of_pos n (show 0 < ((2 ^ k : Nat) : Int) by omega)
  omega

theorem bits8_4_c (h : Nat) (w : World) : Calls Try.prog 72 #[.int .u64 (h : Int), .int .i64 8, .int .i64 4] w fun e w' => e = .returned (.int .i64 ((h / 256 % 16 : Nat) : Int)) ∧ Below w.heap.size w w' := by
  have e0 : bits .and .u64 ((h : Int) / 256) 15 = ((h / 256 % 16 : Nat) : Int) := by rw [u64_mask 4 15 _ (by decide) (by omega)]; omega
  have b0 : h / 256 % 16 < 16 := Nat.mod_lt _ (by omega)
  generalize h / 256 % 16 = M at *
  go_enter Try.func72, Try.ntmps72
  go_wp2
  refine wp_region_since (by kernel_rfl) (by kernel_rfl) ?_
  have hsome := since_some w
  repeat (go_big_quiet_step (fail))
  refine wpQuiet_nil ?_
  rintro _ ⟨s, rfl⟩
  go_wp2
  go_ret
  exact ⟨rfl, s.bel⟩
theorem bits12_4_c (h : Nat) (w : World) : Calls Try.prog 72 #[.int .u64 (h : Int), .int .i64 12, .int .i64 4] w fun e w' => e = .returned (.int .i64 ((h / 4096 % 16 : Nat) : Int)) ∧ Below w.heap.size w w' := by
  have e0 : bits .and .u64 ((h : Int) / 4096) 15 = ((h / 4096 % 16 : Nat) : Int) := by rw [u64_mask 4 15 _ (by decide) (by omega)]; omega
  have b0 : h / 4096 % 16 < 16 := Nat.mod_lt _ (by omega)
  generalize h / 4096 % 16 = M at *
  go_enter Try.func72, Try.ntmps72
  go_wp2
  refine wp_region_since (by kernel_rfl) (by kernel_rfl) ?_
  have hsome := since_some w
  repeat (go_big_quiet_step (fail))
  refine wpQuiet_nil ?_
  rintro _ ⟨s, rfl⟩
  go_wp2
  go_ret
  exact ⟨rfl, s.bel⟩
theorem bits8_3_c (h : Nat) (w : World) : Calls Try.prog 72 #[.int .u64 (h : Int), .int .i64 8, .int .i64 3] w fun e w' => e = .returned (.int .i64 ((h / 256 % 8 : Nat) : Int)) ∧ Below w.heap.size w w' := by
  have e0 : bits .and .u64 ((h : Int) / 256) 7 = ((h / 256 % 8 : Nat) : Int) := by rw [u64_mask 3 7 _ (by decide) (by omega)]; omega
  have b0 : h / 256 % 8 < 8 := Nat.mod_lt _ (by omega)
  generalize h / 256 % 8 = M at *
  go_enter Try.func72, Try.ntmps72
  go_wp2
  refine wp_region_since (by kernel_rfl) (by kernel_rfl) ?_
  have hsome := since_some w
  repeat (go_big_quiet_step (fail))
  refine wpQuiet_nil ?_
  rintro _ ⟨s, rfl⟩
  go_wp2
  go_ret
  exact ⟨rfl, s.bel⟩
theorem bits11_3_c (h : Nat) (w : World) : Calls Try.prog 72 #[.int .u64 (h : Int), .int .i64 11, .int .i64 3] w fun e w' => e = .returned (.int .i64 ((h / 2048 % 8 : Nat) : Int)) ∧ Below w.heap.size w w' := by
  have e0 : bits .and .u64 ((h : Int) / 2048) 7 = ((h / 2048 % 8 : Nat) : Int) := by rw [u64_mask 3 7 _ (by decide) (by omega)]; omega
  have b0 : h / 2048 % 8 < 8 := Nat.mod_lt _ (by omega)
  generalize h / 2048 % 8 = M at *
  go_enter Try.func72, Try.ntmps72
  go_wp2
  refine wp_region_since (by kernel_rfl) (by kernel_rfl) ?_
  have hsome := since_some w
  repeat (go_big_quiet_step (fail))
  refine wpQuiet_nil ?_
  rintro _ ⟨s, rfl⟩
  go_wp2
  go_ret
  exact ⟨rfl, s.bel⟩
theorem bits14_2_c (h : Nat) (w : World) : Calls Try.prog 72 #[.int .u64 (h : Int), .int .i64 14, .int .i64 2] w fun e w' => e = .returned (.int .i64 ((h / 16384 % 4 : Nat) : Int)) ∧ Below w.heap.size w w' := by
  have e0 : bits .and .u64 ((h : Int) / 16384) 3 = ((h / 16384 % 4 : Nat) : Int) := by rw [u64_mask 2 3 _ (by decide) (by omega)]; omega
  have b0 : h / 16384 % 4 < 4 := Nat.mod_lt _ (by omega)
  generalize h / 16384 % 4 = M at *
  go_enter Try.func72, Try.ntmps72
  go_wp2
  refine wp_region_since (by kernel_rfl) (by kernel_rfl) ?_
  have hsome := since_some w
  repeat (go_big_quiet_step (fail))
  refine wpQuiet_nil ?_
  rintro _ ⟨s, rfl⟩
  go_wp2
  go_ret
  exact ⟨rfl, s.bel⟩
theorem bits16_2_c (h : Nat) (w : World) : Calls Try.prog 72 #[.int .u64 (h : Int), .int .i64 16, .int .i64 2] w fun e w' => e = .returned (.int .i64 ((h / 65536 % 4 : Nat) : Int)) ∧ Below w.heap.size w w' := by
  have e0 : bits .and .u64 ((h : Int) / 65536) 3 = ((h / 65536 % 4 : Nat) : Int) := by rw [u64_mask 2 3 _ (by decide) (by omega)]; omega
  have b0 : h / 65536 % 4 < 4 := Nat.mod_lt _ (by omega)
  generalize h / 65536 % 4 = M at *
  go_enter Try.func72, Try.ntmps72
  go_wp2
  refine wp_region_since (by kernel_rfl) (by kernel_rfl) ?_
  have hsome := since_some w
  repeat (go_big_quiet_step (fail))
  refine wpQuiet_nil ?_
  rintro _ ⟨s, rfl⟩
  go_wp2
  go_ret
  exact ⟨rfl, s.bel⟩

theorem away_c (a b : Int) (w : World) (ha : Far 4503599627370496 a) (hb : Far 4503599627370496 b) : Calls Try.prog 65 #[.int .i64 a, .int .i64 b] w fun e w' => e = .returned (.int .i64 (absI (a - b))) ∧ w' = w := by
  unfold Far at ha hb
  have h1 : max (a - b) (b - a) = absI (a - b) := by unfold absI; split <;> omega
  obtain ⟨a0, a1⟩ := ha
  obtain ⟨b0, b1⟩ := hb
  generalize absI (a - b) = R at *
  go_enter Try.func65, Try.ntmps65
  go_wp2
  go_ret
  exact ⟨by rw [← h1]; rfl, rfl⟩
def near2 (v : Int) : Bool := decide (-2 ≤ v ∧ v < 18)
theorem near_c (v : Int) (w : World) : Calls Try.prog 83 #[.int .i64 v] w fun e w' => e = .returned (.bool (near2 v)) ∧ w' = w := by
  by_cases h1 : -2 ≤ v
  · by_cases h2 : v < 18
    · have e : near2 v = true := by unfold near2; exact decide_eq_true ⟨h1, h2⟩
      rw [e]
      clear e
      go_enter Try.func83, Try.ntmps83
      go_wp2
      go_ret
      exact ⟨rfl, rfl⟩
    · have e : near2 v = false := by unfold near2; exact decide_eq_false (fun h => h2 h.2)
      rw [e]
      clear e
      go_enter Try.func83, Try.ntmps83
      go_wp2
      go_ret
      exact ⟨rfl, rfl⟩
  · have e : near2 v = false := by unfold near2; exact decide_eq_false (fun h => h1 h.1)
    rw [e]
    clear e
    go_enter Try.func83, Try.ntmps83
    go_wp2
    go_ret
    exact ⟨rfl, rfl⟩
/-- The ground of a column, by value. -/
abbrev soilV (x z h b : Int) : Value := .agg #[.int .i64 x, .int .i64 z, .int .i64 h, .int .i64 b]
abbrev treeV (x z h b l : Int) : Value := .agg #[.int .i64 x, .int .i64 z, .int .i64 h, .int .i64 b, .int .i64 l]
abbrev posV (x y z : Int) : Value := .agg #[.int .i64 x, .int .i64 y, .int .i64 z]
theorem foot_c (x z h b : Int) (w : World) : Calls Try.prog 123 #[soilV x z h b] w fun e w' => e = .returned (posV x h z) ∧ Below w.heap.size w w' := by
  go_enter Try.func123, Try.ntmps123
  go_wp2
  exact bodyPost_ret (results_cell_row rfl _ _ (w.heap.size + 1) 52 _ (0, 0) _ rfl (G.new_two w _ _) Try.underlying52 rfl (by kernel_rfl)) rfl ⟨rfl, G.below_two w _ _⟩
theorem about_c (x y z : Int) (w : World) (hx : Far 1000000 x) (hy : Far 1000000 y) (hz : Far 1000000 z) : Calls Try.prog 45 #[posV x y z] w fun e w' => e = .returned (.agg #[.int .i64 (max (x - 2) 0), .int .i64 y, .int .i64 (max (z - 2) 0), .int .i64 (min (x + 2) 15), .int .i64 (min (y + 10) 127), .int .i64 (min (z + 2) 15)]) ∧ Below w.heap.size w w' := by
  unfold Far at hx hy hz
  obtain ⟨x0, x1⟩ := hx
  obtain ⟨y0, y1⟩ := hy
  obtain ⟨z0, z1⟩ := hz
  go_enter Try.func45, Try.ntmps45
  go_wp2
  exact bodyPost_ret (results_cell_row rfl _ _ (w.heap.size + 1) 100 _ (0, 0) _ rfl (G.new_two w _ _) Try.underlying100 rfl (by kernel_rfl)) rfl ⟨rfl, G.below_two w _ _⟩
/-! ### what stands on a ground -/
theorem ruinOn_c (h : Nat) (x z H b : Int) (w : World) : Calls Try.prog 56 #[.int .u64 (h : Int), soilV x z H b] w fun e w' => e = .returned (.tuple #[.iface 126 (soilV x z H b), .bool true]) ∧ Below w.heap.size w w' := by
  go_enter Try.func56, Try.ntmps56
  go_wp2
  exact bodyPost_ret (results_tmp2 (t := 4) (u := 5) rfl _ _ _) rfl ⟨rfl, (Below.refl _ _).alloc (Nat.le_refl _) _⟩
theorem lampOn_c (h : Nat) (x z H b : Int) (w : World) : Calls Try.prog 57 #[.int .u64 (h : Int), soilV x z H b] w fun e w' => e = .returned (.tuple #[.iface 128 (soilV x z H b), .bool (standB 1 h H b)]) ∧ Below w.heap.size w w' := by
  have hd : (b == 0) = standB 1 h H b := by unfold standB; rfl
  generalize standB 1 h H b = ST at *
  have HB : Hid (Below w.heap.size w (w.alloc (.cells #[.int .i64 x, .int .i64 z, .int .i64 H, .int .i64 b] 124))) := (Below.refl _ _).alloc (Nat.le_refl _) _
  have HX : Hid ((w.alloc (.cells #[.int .i64 x, .int .i64 z, .int .i64 H, .int .i64 b] 124)).heap[w.heap.size]? = some (.cells #[.int .i64 x, .int .i64 z, .int .i64 H, .int .i64 b] 124 (0, 0))) := heap_alloc_new w _
  go_enter Try.func57, Try.ntmps57
  go_wp2
  generalize w.alloc (.cells #[.int .i64 x, .int .i64 z, .int .i64 H, .int .i64 b] 124) = W at *
  have hsome := since_some W
  have k0 := fun s : Since W => Since.cell ((cell_of_row W w.heap.size 0 _ 124 (0, 0) HX.out).trans rfl) s
  have k1 := fun s : Since W => Since.cell ((cell_of_row W w.heap.size 1 _ 124 (0, 0) HX.out).trans rfl) s
  have k2 := fun s : Since W => Since.cell ((cell_of_row W w.heap.size 2 _ 124 (0, 0) HX.out).trans rfl) s
  have k3 := fun s : Since W => Since.cell ((cell_of_row W w.heap.size 3 _ 124 (0, 0) HX.out).trans rfl) s
  refine wp_region_since (by kernel_rfl) (by kernel_rfl) ?_
  repeat (go_big_quiet_step (fail))
  refine wpQuiet_nil ?_
  rintro _ ⟨s, rfl⟩
  go_wp2
  exact bodyPost_ret (results_tmp2 (t := 4) (u := 5) rfl _ _ _) rfl ⟨rfl, HB.out.trans (s.bel.mono HB.out.size)⟩
theorem tree_yes {h : Nat} {H b : Int} (h1 : 44 ≤ H) (h2 : b = 1 ∨ (b = 0 ∧ h / 16384 % 4 = 0)) : standB 2 h H b = true := by
  unfold standB
  rw [if_neg (by omega), if_neg (by omega)]
  exact decide_eq_true ⟨h1, h2⟩
theorem tree_low {h : Nat} {H b : Int} (h1 : ¬ 44 ≤ H) : standB 2 h H b = false := by
  unfold standB
  rw [if_neg (by omega), if_neg (by omega)]
  exact decide_eq_false (fun q => h1 q.1)
theorem tree_no {h : Nat} {H b : Int} (h2 : ¬ (b = 1 ∨ (b = 0 ∧ h / 16384 % 4 = 0))) : standB 2 h H b = false := by
  unfold standB
  rw [if_neg (by omega), if_neg (by omega)]
  exact decide_eq_false (fun q => h2 q.2)
set_option maxHeartbeats 1000000 in
theorem treeOn_c (h : Nat) (x z H b : Int) (w : World) : Calls Try.prog 58 #[.int .u64 (h : Int), soilV x z H b] w fun e w' => e = .returned (.tuple #[.iface 130 (treeV x z H b (lenT h)), .bool (standB 2 h H b)]) ∧ Below w.heap.size w w' := by
  have hl : (4 : Int) + ((h / 65536 % 4 : Nat) : Int) = lenT h := rfl
  have hm : h / 65536 % 4 < 4 := Nat.mod_lt _ (by omega)
  have b1 := bits14_2_c h
  have b2 := bits16_2_c h
  have Hy : Hid (44 ≤ H → (b = 1 ∨ (b = 0 ∧ h / 16384 % 4 = 0)) → standB 2 h H b = true) := tree_yes
  have Hl : Hid (¬ 44 ≤ H → standB 2 h H b = false) := tree_low
  have Hn : Hid (¬ (b = 1 ∨ (b = 0 ∧ h / 16384 % 4 = 0)) → standB 2 h H b = false) := tree_no
  generalize lenT h = LT at *
  generalize standB 2 h H b = ST at *
  generalize h / 65536 % 4 = M at *
  generalize h / 16384 % 4 = TH at *
  have HB : Hid (Below w.heap.size w (w.alloc (.cells #[.int .i64 x, .int .i64 z, .int .i64 H, .int .i64 b] 124))) := (Below.refl _ _).alloc (Nat.le_refl _) _
  have HX : Hid ((w.alloc (.cells #[.int .i64 x, .int .i64 z, .int .i64 H, .int .i64 b] 124)).heap[w.heap.size]? = some (.cells #[.int .i64 x, .int .i64 z, .int .i64 H, .int .i64 b] 124 (0, 0))) := heap_alloc_new w _
  by_cases c0 : b = 0
  · have c0' : (b == 0) = true := by simpa using c0
    have c1' : (b == 1) = false := by simp [c0]
    by_cases ct : TH = 0
    · have ct' : ((TH : Int) == 0) = true := by simp [ct]
      by_cases ch : 44 ≤ H
      · rw [Hy.out ch (.inr ⟨c0, ct⟩)]
        clear Hy Hl Hn c0 ct
        go_enter Try.func58, Try.ntmps58
        go_wp2_with fail
        refine (b1 _).mono ?_
        clear b1
        rintro _ W1 ⟨rfl, hb1⟩
        have HB1 : Hid (Below w.heap.size w W1) := HB.out.trans (hb1.mono HB.out.size)
        have HX1 : Hid (W1.heap[w.heap.size]? = some (.cells #[.int .i64 x, .int .i64 z, .int .i64 H, .int .i64 b] 124 (0, 0))) := (hb1.block _ (Array.getElem?_eq_some_iff.1 HX.out).1).trans HX.out
        clear HB HX hb1
        go_wp2_with fail
        have hsome := since_some W1
        have k0 := fun s : Since W1 => Since.cell ((cell_of_row W1 w.heap.size 0 _ 124 (0, 0) HX1.out).trans rfl) s
        have k1 := fun s : Since W1 => Since.cell ((cell_of_row W1 w.heap.size 1 _ 124 (0, 0) HX1.out).trans rfl) s
        have k2 := fun s : Since W1 => Since.cell ((cell_of_row W1 w.heap.size 2 _ 124 (0, 0) HX1.out).trans rfl) s
        have k3 := fun s : Since W1 => Since.cell ((cell_of_row W1 w.heap.size 3 _ 124 (0, 0) HX1.out).trans rfl) s
        refine wp_region_since (by kernel_rfl) (by kernel_rfl) ?_
        repeat (go_big_quiet_step (first | (go_at_call 72; exact Calls.since (b2 _))))
        refine wpQuiet_nil ?_
        rintro _ ⟨s, rfl⟩
        go_wp2
        exact bodyPost_ret (results_tmp2 (t := 4) (u := 5) rfl _ _ _) rfl ⟨rfl, HB1.out.trans (s.bel.mono HB1.out.size)⟩
      · have ch2 : decide (44 ≤ H) = false := decide_eq_false ch
        rw [Hl.out ch]
        clear Hy Hl Hn c0 ct c1'
        go_enter Try.func58, Try.ntmps58
        go_wp2_with fail
        refine (b1 _).mono ?_
        clear b1
        rintro _ W1 ⟨rfl, hb1⟩
        have HB1 : Hid (Below w.heap.size w W1) := HB.out.trans (hb1.mono HB.out.size)
        have HX1 : Hid (W1.heap[w.heap.size]? = some (.cells #[.int .i64 x, .int .i64 z, .int .i64 H, .int .i64 b] 124 (0, 0))) := (hb1.block _ (Array.getElem?_eq_some_iff.1 HX.out).1).trans HX.out
        clear HB HX hb1
        go_wp2_with fail
        have hsome := since_some W1
        have k0 := fun s : Since W1 => Since.cell ((cell_of_row W1 w.heap.size 0 _ 124 (0, 0) HX1.out).trans rfl) s
        have k1 := fun s : Since W1 => Since.cell ((cell_of_row W1 w.heap.size 1 _ 124 (0, 0) HX1.out).trans rfl) s
        have k2 := fun s : Since W1 => Since.cell ((cell_of_row W1 w.heap.size 2 _ 124 (0, 0) HX1.out).trans rfl) s
        have k3 := fun s : Since W1 => Since.cell ((cell_of_row W1 w.heap.size 3 _ 124 (0, 0) HX1.out).trans rfl) s
        refine wp_region_since (by kernel_rfl) (by kernel_rfl) ?_
        repeat (go_big_quiet_step (first | (go_at_call 72; exact Calls.since (b2 _))))
        refine wpQuiet_nil ?_
        rintro _ ⟨s, rfl⟩
        go_wp2
        exact bodyPost_ret (results_tmp2 (t := 4) (u := 5) rfl _ _ _) rfl ⟨rfl, HB1.out.trans (s.bel.mono HB1.out.size)⟩
    · have ct' : ((TH : Int) == 0) = false := by simp [ct]
      rw [Hn.out (by omega)]
      by_cases ch : 44 ≤ H
      · clear Hy Hl Hn c0 ct
        go_enter Try.func58, Try.ntmps58
        go_wp2_with fail
        refine (b1 _).mono ?_
        clear b1
        rintro _ W1 ⟨rfl, hb1⟩
        have HB1 : Hid (Below w.heap.size w W1) := HB.out.trans (hb1.mono HB.out.size)
        have HX1 : Hid (W1.heap[w.heap.size]? = some (.cells #[.int .i64 x, .int .i64 z, .int .i64 H, .int .i64 b] 124 (0, 0))) := (hb1.block _ (Array.getElem?_eq_some_iff.1 HX.out).1).trans HX.out
        clear HB HX hb1
        go_wp2_with fail
        have hsome := since_some W1
        have k0 := fun s : Since W1 => Since.cell ((cell_of_row W1 w.heap.size 0 _ 124 (0, 0) HX1.out).trans rfl) s
        have k1 := fun s : Since W1 => Since.cell ((cell_of_row W1 w.heap.size 1 _ 124 (0, 0) HX1.out).trans rfl) s
        have k2 := fun s : Since W1 => Since.cell ((cell_of_row W1 w.heap.size 2 _ 124 (0, 0) HX1.out).trans rfl) s
        have k3 := fun s : Since W1 => Since.cell ((cell_of_row W1 w.heap.size 3 _ 124 (0, 0) HX1.out).trans rfl) s
        refine wp_region_since (by kernel_rfl) (by kernel_rfl) ?_
        repeat (go_big_quiet_step (first | (go_at_call 72; exact Calls.since (b2 _))))
        refine wpQuiet_nil ?_
        rintro _ ⟨s, rfl⟩
        go_wp2
        exact bodyPost_ret (results_tmp2 (t := 4) (u := 5) rfl _ _ _) rfl ⟨rfl, HB1.out.trans (s.bel.mono HB1.out.size)⟩
      · have ch2 : decide (44 ≤ H) = false := decide_eq_false ch
        clear Hy Hl Hn c0 ct c1'
        go_enter Try.func58, Try.ntmps58
        go_wp2_with fail
        refine (b1 _).mono ?_
        clear b1
        rintro _ W1 ⟨rfl, hb1⟩
        have HB1 : Hid (Below w.heap.size w W1) := HB.out.trans (hb1.mono HB.out.size)
        have HX1 : Hid (W1.heap[w.heap.size]? = some (.cells #[.int .i64 x, .int .i64 z, .int .i64 H, .int .i64 b] 124 (0, 0))) := (hb1.block _ (Array.getElem?_eq_some_iff.1 HX.out).1).trans HX.out
        clear HB HX hb1
        go_wp2_with fail
        have hsome := since_some W1
        have k0 := fun s : Since W1 => Since.cell ((cell_of_row W1 w.heap.size 0 _ 124 (0, 0) HX1.out).trans rfl) s
        have k1 := fun s : Since W1 => Since.cell ((cell_of_row W1 w.heap.size 1 _ 124 (0, 0) HX1.out).trans rfl) s
        have k2 := fun s : Since W1 => Since.cell ((cell_of_row W1 w.heap.size 2 _ 124 (0, 0) HX1.out).trans rfl) s
        have k3 := fun s : Since W1 => Since.cell ((cell_of_row W1 w.heap.size 3 _ 124 (0, 0) HX1.out).trans rfl) s
        refine wp_region_since (by kernel_rfl) (by kernel_rfl) ?_
        repeat (go_big_quiet_step (first | (go_at_call 72; exact Calls.since (b2 _))))
        refine wpQuiet_nil ?_
        rintro _ ⟨s, rfl⟩
        go_wp2
        exact bodyPost_ret (results_tmp2 (t := 4) (u := 5) rfl _ _ _) rfl ⟨rfl, HB1.out.trans (s.bel.mono HB1.out.size)⟩
  · have c0' : (b == 0) = false := by simpa using c0
    by_cases ch : 44 ≤ H
    · by_cases c1 : b = 1
      · have c1' : (b == 1) = true := by simpa using c1
        rw [Hy.out ch (.inl c1)]
        clear Hy Hl Hn c0 c1
        go_enter Try.func58, Try.ntmps58
        go_wp2_with fail
        clear b1
        generalize w.alloc (.cells #[.int .i64 x, .int .i64 z, .int .i64 H, .int .i64 b] 124) = W1 at *
        have HB1 := HB
        have HX1 := HX
        clear HB HX
        have hsome := since_some W1
        have k0 := fun s : Since W1 => Since.cell ((cell_of_row W1 w.heap.size 0 _ 124 (0, 0) HX1.out).trans rfl) s
        have k1 := fun s : Since W1 => Since.cell ((cell_of_row W1 w.heap.size 1 _ 124 (0, 0) HX1.out).trans rfl) s
        have k2 := fun s : Since W1 => Since.cell ((cell_of_row W1 w.heap.size 2 _ 124 (0, 0) HX1.out).trans rfl) s
        have k3 := fun s : Since W1 => Since.cell ((cell_of_row W1 w.heap.size 3 _ 124 (0, 0) HX1.out).trans rfl) s
        refine wp_region_since (by kernel_rfl) (by kernel_rfl) ?_
        repeat (go_big_quiet_step (first | (go_at_call 72; exact Calls.since (b2 _))))
        refine wpQuiet_nil ?_
        rintro _ ⟨s, rfl⟩
        go_wp2
        exact bodyPost_ret (results_tmp2 (t := 4) (u := 5) rfl _ _ _) rfl ⟨rfl, HB1.out.trans (s.bel.mono HB1.out.size)⟩
      · have c1' : (b == 1) = false := by simpa using c1
        rw [Hn.out (by omega)]
        clear Hy Hl Hn c0 c1
        go_enter Try.func58, Try.ntmps58
        go_wp2_with fail
        clear b1
        generalize w.alloc (.cells #[.int .i64 x, .int .i64 z, .int .i64 H, .int .i64 b] 124) = W1 at *
        have HB1 := HB
        have HX1 := HX
        clear HB HX
        have hsome := since_some W1
        have k0 := fun s : Since W1 => Since.cell ((cell_of_row W1 w.heap.size 0 _ 124 (0, 0) HX1.out).trans rfl) s
        have k1 := fun s : Since W1 => Since.cell ((cell_of_row W1 w.heap.size 1 _ 124 (0, 0) HX1.out).trans rfl) s
        have k2 := fun s : Since W1 => Since.cell ((cell_of_row W1 w.heap.size 2 _ 124 (0, 0) HX1.out).trans rfl) s
        have k3 := fun s : Since W1 => Since.cell ((cell_of_row W1 w.heap.size 3 _ 124 (0, 0) HX1.out).trans rfl) s
        refine wp_region_since (by kernel_rfl) (by kernel_rfl) ?_
        repeat (go_big_quiet_step (first | (go_at_call 72; exact Calls.since (b2 _))))
        refine wpQuiet_nil ?_
        rintro _ ⟨s, rfl⟩
        go_wp2
        exact bodyPost_ret (results_tmp2 (t := 4) (u := 5) rfl _ _ _) rfl ⟨rfl, HB1.out.trans (s.bel.mono HB1.out.size)⟩
    · have ch2 : decide (44 ≤ H) = false := decide_eq_false ch
      rw [Hl.out ch]
      clear Hy Hl Hn c0
      go_enter Try.func58, Try.ntmps58
      go_wp2_with fail
      clear b1
      generalize w.alloc (.cells #[.int .i64 x, .int .i64 z, .int .i64 H, .int .i64 b] 124) = W1 at *
      have HB1 := HB
      have HX1 := HX
      clear HB HX
      have hsome := since_some W1
      have k0 := fun s : Since W1 => Since.cell ((cell_of_row W1 w.heap.size 0 _ 124 (0, 0) HX1.out).trans rfl) s
      have k1 := fun s : Since W1 => Since.cell ((cell_of_row W1 w.heap.size 1 _ 124 (0, 0) HX1.out).trans rfl) s
      have k2 := fun s : Since W1 => Since.cell ((cell_of_row W1 w.heap.size 2 _ 124 (0, 0) HX1.out).trans rfl) s
      have k3 := fun s : Since W1 => Since.cell ((cell_of_row W1 w.heap.size 3 _ 124 (0, 0) HX1.out).trans rfl) s
      refine wp_region_since (by kernel_rfl) (by kernel_rfl) ?_
      repeat (go_big_quiet_step (first | (go_at_call 72; exact Calls.since (b2 _))))
      refine wpQuiet_nil ?_
      rintro _ ⟨s, rfl⟩
      go_wp2
      exact bodyPost_ret (results_tmp2 (t := 4) (u := 5) rfl _ _ _) rfl ⟨rfl, HB1.out.trans (s.bel.mono HB1.out.size)⟩
end
section
open C Go.RowKit

set_option maxHeartbeats 4000000 in
theorem ruin_c (X Z H Bd dx dy dz : Int) (w : World) : Calls Try.prog 66 #[.agg #[.int .i64 X, .int .i64 Z, .int .i64 H, .int .i64 Bd], .agg #[.int .i64 dx, .int .i64 dy, .int .i64 dz]] w fun e w' => e = .returned (.int .i64 ((clV 0 dx dz dy 0 0 0).getD 16)) ∧ Below w.heap.size w w' := by
  have HB : Hid (Below w.heap.size w ((w.alloc (.cells #[.int .i64 X, .int .i64 Z, .int .i64 H, .int .i64 Bd] 126)).alloc (.cells #[.int .i64 dx, .int .i64 dy, .int .i64 dz] 122))) := below_two w _ _
  by_cases c1 : 2 < dx
  · have e : (clV 0 dx dz dy 0 0 0).getD 16 = 16 := by unfold clV; rw [if_pos rfl, if_pos (.inl c1)]; rfl
    rw [e]
    clear e
    go_enter Try.func66, Try.ntmps66
    go_wp2
    go_ret
    exact ⟨rfl, HB.out⟩
  by_cases c2 : 2 < dz
  · have e : (clV 0 dx dz dy 0 0 0).getD 16 = 16 := by unfold clV; rw [if_pos rfl, if_pos (.inr (.inl c2))]; rfl
    rw [e]
    clear e
    go_enter Try.func66, Try.ntmps66
    go_wp2
    go_ret
    exact ⟨rfl, HB.out⟩
  by_cases c3 : dy < 0
  · have e : (clV 0 dx dz dy 0 0 0).getD 16 = 16 := by unfold clV; rw [if_pos rfl, if_pos (.inr (.inr (.inl c3)))]; rfl
    rw [e]
    clear e
    go_enter Try.func66, Try.ntmps66
    go_wp2
    go_ret
    exact ⟨rfl, HB.out⟩
  by_cases c4 : 4 < dy
  · have e : (clV 0 dx dz dy 0 0 0).getD 16 = 16 := by unfold clV; rw [if_pos rfl, if_pos (.inr (.inr (.inr c4)))]; rfl
    rw [e]
    clear e
    go_enter Try.func66, Try.ntmps66
    go_wp2
    go_ret
    exact ⟨rfl, HB.out⟩
  have hno : ¬ (2 < dx ∨ 2 < dz ∨ dy < 0 ∨ 4 < dy) := by omega
  by_cases c5 : dy = 0
  · have c5' : (dy == 0) = true := by simpa using c5
    have e : (clV 0 dx dz dy 0 0 0).getD 16 = 12 := by unfold clV; rw [if_pos rfl, if_neg hno, if_pos c5]; rfl
    rw [e]
    clear e
    clear hno c5
    go_enter Try.func66, Try.ntmps66
    go_wp2
    go_ret
    exact ⟨rfl, HB.out⟩
  have c5' : (dy == 0) = false := by simpa using c5
  by_cases c6 : dy = 4
  · have c6' : (dy == 4) = true := by simpa using c6
    have e : (clV 0 dx dz dy 0 0 0).getD 16 = 14 := by unfold clV; rw [if_pos rfl, if_neg hno, if_neg c5, if_pos c6]; rfl
    rw [e]
    clear e
    clear hno c5 c6
    go_enter Try.func66, Try.ntmps66
    go_wp2
    go_ret
    exact ⟨rfl, HB.out⟩
  have c6' : (dy == 4) = false := by simpa using c6
  by_cases c7 : dx = 2
  · have c7' : (dx == 2) = true := by simpa using c7
    have e : (clV 0 dx dz dy 0 0 0).getD 16 = 12 := by unfold clV; rw [if_pos rfl, if_neg hno, if_neg c5, if_neg c6, if_pos (.inl c7)]; rfl
    rw [e]
    clear e
    clear hno c5 c6 c7
    go_enter Try.func66, Try.ntmps66
    go_wp2
    go_ret
    exact ⟨rfl, HB.out⟩
  have c7' : (dx == 2) = false := by simpa using c7
  by_cases c8 : dz = 2
  · have c8' : (dz == 2) = true := by simpa using c8
    have e : (clV 0 dx dz dy 0 0 0).getD 16 = 12 := by unfold clV; rw [if_pos rfl, if_neg hno, if_neg c5, if_neg c6, if_pos (.inr c8)]; rfl
    rw [e]
    clear e
    clear hno c5 c6 c7 c8
    go_enter Try.func66, Try.ntmps66
    go_wp2
    go_ret
    exact ⟨rfl, HB.out⟩
  have c8' : (dz == 2) = false := by simpa using c8
  have hno2 : ¬ (dx = 2 ∨ dz = 2) := by omega
  by_cases d1 : dx = 0
  · have d1' : (dx == 0) = true := by simpa using d1
    by_cases d2 : dz = 0
    · have d2' : (dz == 0) = true := by simpa using d2
      by_cases d3 : dy = 1
      · have d3' : (dy == 1) = true := by simpa using d3
        have e : (clV 0 dx dz dy 0 0 0).getD 16 = 13 := by unfold clV; rw [if_pos rfl, if_neg hno, if_neg c5, if_neg c6, if_neg hno2, if_pos ⟨d1, d2, d3⟩]; rfl
        rw [e]
        clear e
        clear hno hno2 c5 c6 c7 c8 d1 d2 d3
        go_enter Try.func66, Try.ntmps66
        go_wp2
        go_ret
        exact ⟨rfl, HB.out⟩
      · have d3' : (dy == 1) = false := by simpa using d3
        have e : (clV 0 dx dz dy 0 0 0).getD 16 = 0 := by unfold clV; rw [if_pos rfl, if_neg hno, if_neg c5, if_neg c6, if_neg hno2, if_neg (fun h => d3 h.2.2)]; rfl
        rw [e]
        clear e
        clear hno hno2 c5 c6 c7 c8 d1 d2 d3
        go_enter Try.func66, Try.ntmps66
        go_wp2
        go_ret
        exact ⟨rfl, HB.out⟩
    · have d2' : (dz == 0) = false := by simpa using d2
      have e : (clV 0 dx dz dy 0 0 0).getD 16 = 0 := by unfold clV; rw [if_pos rfl, if_neg hno, if_neg c5, if_neg c6, if_neg hno2, if_neg (fun h => d2 h.2.1)]; rfl
      rw [e]
      clear e
      clear hno hno2 c5 c6 c7 c8 d1 d2
      go_enter Try.func66, Try.ntmps66
      go_wp2
      go_ret
      exact ⟨rfl, HB.out⟩
  · have d1' : (dx == 0) = false := by simpa using d1
    have e : (clV 0 dx dz dy 0 0 0).getD 16 = 0 := by unfold clV; rw [if_pos rfl, if_neg hno, if_neg c5, if_neg c6, if_neg hno2, if_neg (fun h => d1 h.1)]; rfl
    rw [e]
    clear e
    clear hno hno2 c5 c6 c7 c8 d1
    go_enter Try.func66, Try.ntmps66
    go_wp2
    go_ret
    exact ⟨rfl, HB.out⟩
set_option maxHeartbeats 4000000 in
theorem lamp_c (X Z H Bd dx dy dz : Int) (w : World) : Calls Try.prog 67 #[.agg #[.int .i64 X, .int .i64 Z, .int .i64 H, .int .i64 Bd], .agg #[.int .i64 dx, .int .i64 dy, .int .i64 dz]] w fun e w' => e = .returned (.int .i64 ((clV 1 dx dz dy 0 0 0).getD 16)) ∧ Below w.heap.size w w' := by
  have HB : Hid (Below w.heap.size w ((w.alloc (.cells #[.int .i64 X, .int .i64 Z, .int .i64 H, .int .i64 Bd] 128)).alloc (.cells #[.int .i64 dx, .int .i64 dy, .int .i64 dz] 122))) := below_two w _ _
  by_cases c1 : dx = 0
  case neg =>
    have c1' : (dx == 0) = false := by simpa using c1
    have c1'' : (dx != 0) = true := by simpa using c1
    have e : (clV 1 dx dz dy 0 0 0).getD 16 = 16 := by unfold clV; rw [if_neg (by omega), if_pos rfl, if_pos (.inl c1)]; rfl
    rw [e]
    clear e
    clear c1
    go_enter Try.func67, Try.ntmps67
    go_wp2
    go_ret
    exact ⟨rfl, HB.out⟩
  have c1' : (dx == 0) = true := by simpa using c1
  have c1'' : (dx != 0) = false := by simpa using c1
  by_cases c2 : dz = 0
  case neg =>
    have c2' : (dz == 0) = false := by simpa using c2
    have c2'' : (dz != 0) = true := by simpa using c2
    have e : (clV 1 dx dz dy 0 0 0).getD 16 = 16 := by unfold clV; rw [if_neg (by omega), if_pos rfl, if_pos (.inr (.inl c2))]; rfl
    rw [e]
    clear e
    clear c1 c2
    go_enter Try.func67, Try.ntmps67
    go_wp2
    go_ret
    exact ⟨rfl, HB.out⟩
  have c2' : (dz == 0) = true := by simpa using c2
  have c2'' : (dz != 0) = false := by simpa using c2
  by_cases c3 : dy < 1
  · have e : (clV 1 dx dz dy 0 0 0).getD 16 = 16 := by unfold clV; rw [if_neg (by omega), if_pos rfl, if_pos (.inr (.inr (.inl c3)))]; rfl
    rw [e]
    clear e
    clear c1 c2
    go_enter Try.func67, Try.ntmps67
    go_wp2
    go_ret
    exact ⟨rfl, HB.out⟩
  by_cases c4 : 3 < dy
  · have e : (clV 1 dx dz dy 0 0 0).getD 16 = 16 := by unfold clV; rw [if_neg (by omega), if_pos rfl, if_pos (.inr (.inr (.inr c4)))]; rfl
    rw [e]
    clear e
    clear c1 c2
    go_enter Try.func67, Try.ntmps67
    go_wp2
    go_ret
    exact ⟨rfl, HB.out⟩
  have hno : ¬ (dx ≠ 0 ∨ dz ≠ 0 ∨ dy < 1 ∨ 3 < dy) := by omega
  by_cases c5 : dy = 3
  · have c5' : (dy == 3) = true := by simpa using c5
    have e : (clV 1 dx dz dy 0 0 0).getD 16 = 13 := by unfold clV; rw [if_neg (by omega), if_pos rfl, if_neg hno, if_pos c5]; rfl
    rw [e]
    clear e
    clear hno c1 c2 c5
    go_enter Try.func67, Try.ntmps67
    go_wp2
    go_ret
    exact ⟨rfl, HB.out⟩
  · have c5' : (dy == 3) = false := by simpa using c5
    have e : (clV 1 dx dz dy 0 0 0).getD 16 = 10 := by unfold clV; rw [if_neg (by omega), if_pos rfl, if_neg hno, if_neg c5]; rfl
    rw [e]
    clear e
    clear hno c1 c2 c5
    go_enter Try.func67, Try.ntmps67
    go_wp2
    go_ret
    exact ⟨rfl, HB.out⟩
set_option maxHeartbeats 4000000 in
theorem tree_c (X Z H Bd l dx dy dz : Int) (w : World) (bx : 0 ≤ dx ∧ dx ≤ 1000000) (bz : 0 ≤ dz ∧ dz ≤ 1000000) (by_ : Far 1000000 dy) (bl : 1 ≤ l ∧ l ≤ 100) : Calls Try.prog 68 #[.agg #[.int .i64 X, .int .i64 Z, .int .i64 H, .int .i64 Bd, .int .i64 l], .agg #[.int .i64 dx, .int .i64 dy, .int .i64 dz]] w fun e w' => e = .returned (.int .i64 ((clV 2 dx dz dy l (absI (dy - l)) 0).getD 16)) ∧ Below w.heap.size w w' := by
  have HB : Hid (Below w.heap.size w ((w.alloc (.cells #[.int .i64 X, .int .i64 Z, .int .i64 H, .int .i64 Bd, .int .i64 l] 130)).alloc (.cells #[.int .i64 dx, .int .i64 dy, .int .i64 dz] 122))) := below_two w _ _
  obtain ⟨x0, x1⟩ := bx
  obtain ⟨z0, z1⟩ := bz
  obtain ⟨l0, l1⟩ := bl
  have ha := fun w => away_c dy l w (by unfold Far at *; omega) (by unfold Far; omega)
  unfold Far at by_
  obtain ⟨y0, y1⟩ := by_
  have HT : Hid (∀ v, clV 2 dx dz dy l (absI (dy - l)) 0 = v → (clV 2 dx dz dy l (absI (dy - l)) 0).getD 16 = v.getD 16) := fun v h => by rw [h]
  have bd : 0 ≤ absI (dy - l) ∧ absI (dy - l) ≤ 2000000 := by unfold absI; split <;> omega
  obtain ⟨dl, hdl⟩ : ∃ d, absI (dy - l) = d := ⟨_, rfl⟩
  rw [hdl] at HT ha bd
  rw [hdl]
  obtain ⟨q0, q1⟩ := bd
  clear hdl
  have hyes : (dx = 0 ∧ dz = 0 ∧ 1 ≤ dy ∧ dy ≤ l) → clV 2 dx dz dy l dl 0 = some 10 := fun h => by unfold clV; rw [if_neg (by omega), if_neg (by omega), if_neg (by omega), if_pos h]
  have hno : ¬ (dx = 0 ∧ dz = 0 ∧ 1 ≤ dy ∧ dy ≤ l) → ¬ (dx ≤ 2 ∧ dz ≤ 2 ∧ l - 1 ≤ dy ∧ dx + dz + dl ≤ 3) → clV 2 dx dz dy l dl 0 = none := fun h h2 => by unfold clV; rw [if_neg (by omega), if_neg (by omega), if_neg (by omega), if_neg h, if_neg h2]
  have hlv : ¬ (dx = 0 ∧ dz = 0 ∧ 1 ≤ dy ∧ dy ≤ l) → (dx ≤ 2 ∧ dz ≤ 2 ∧ l - 1 ≤ dy ∧ dx + dz + dl ≤ 3) → clV 2 dx dz dy l dl 0 = some 11 := fun h h2 => by unfold clV; rw [if_neg (by omega), if_neg (by omega), if_neg (by omega), if_neg h, if_pos h2]
  have HV : Hid (∀ v, clV 2 dx dz dy l dl 0 = v → (clV 2 dx dz dy l dl 0).getD 16 = v.getD 16) := HT
  have HY : Hid _ := hyes
  have HN : Hid _ := hno
  have HL : Hid _ := hlv
  have wl : IntKind.i64.wrap (l - 1) = l - 1 := by rw [IntKind.wrap_i64]; omega
  clear HT hyes hno hlv
  by_cases c1 : dx = 0
  case neg =>
    have c1' : (dx == 0) = false := by simpa using c1
    by_cases e1 : 2 < dx
    · rw [HV.out _ (HN.out (fun h => c1 h.1) (by omega))]
      clear HV HY HN HL c1
      go_enter Try.func68, Try.ntmps68
      go_wp2
      go_ret
      exact ⟨rfl, HB.out⟩
    by_cases e2 : 2 < dz
    · rw [HV.out _ (HN.out (fun h => c1 h.1) (by omega))]
      clear HV HY HN HL c1
      go_enter Try.func68, Try.ntmps68
      go_wp2
      go_ret
      exact ⟨rfl, HB.out⟩
    by_cases e3 : dy < l - 1
    · rw [HV.out _ (HN.out (fun h => c1 h.1) (by omega))]
      clear HV HY HN HL c1
      go_enter Try.func68, Try.ntmps68
      go_wp2
      go_ret
      exact ⟨rfl, HB.out⟩
    by_cases e4 : dx + dz + dl ≤ 3
    · rw [HV.out _ (HL.out (fun h => c1 h.1) (by omega))]
      clear HV HY HN HL c1
      go_enter Try.func68, Try.ntmps68
      go_wp2_with fail
      have HW := HB
      generalize hW : (w.alloc (.cells #[.int .i64 X, .int .i64 Z, .int .i64 H, .int .i64 Bd, .int .i64 l] 130)).alloc (.cells #[.int .i64 dx, .int .i64 dy, .int .i64 dz] 122) = W at *
      have hsome := since_some W
      have p0 : W.heap[w.heap.size + 1]? = some (.cells #[.int .i64 dx, .int .i64 dy, .int .i64 dz] 122 (0, 0)) := by rw [← hW]; exact new_two w _ _
      have p1 : W.heap[w.heap.size]? = some (.cells #[.int .i64 X, .int .i64 Z, .int .i64 H, .int .i64 Bd, .int .i64 l] 130 (0, 0)) := by rw [← hW]; exact (heap_alloc_old _ _ (by simp)).trans (heap_alloc_new w _)
      have k0 := fun s : Since W => Since.cell ((cell_of_row W (w.heap.size + 1) 0 _ 122 (0, 0) p0).trans rfl) s
      have k1 := fun s : Since W => Since.cell ((cell_of_row W (w.heap.size + 1) 1 _ 122 (0, 0) p0).trans rfl) s
      have k2 := fun s : Since W => Since.cell ((cell_of_row W (w.heap.size + 1) 2 _ 122 (0, 0) p0).trans rfl) s
      have k3 := fun s : Since W => Since.cell ((cell_of_row W w.heap.size 4 _ 130 (0, 0) p1).trans rfl) s
      clear HB hW p0 p1
      refine wp_region_since (by kernel_rfl) (by kernel_rfl) ?_
      repeat (go_big_quiet_step (first | (go_at_call 65; exact Calls.since_same (ha _))))
      refine wpQuiet_nil ?_
      rintro _ ⟨s, rfl⟩
      go_wp2
      go_ret
      exact ⟨rfl, HW.out.trans (s.bel.mono HW.out.size)⟩
    · have e4' : decide (dx + dz + dl ≤ 3) = false := decide_eq_false e4
      rw [HV.out _ (HN.out (fun h => c1 h.1) (by omega))]
      clear HV HY HN HL c1
      go_enter Try.func68, Try.ntmps68
      go_wp2_with fail
      have HW := HB
      generalize hW : (w.alloc (.cells #[.int .i64 X, .int .i64 Z, .int .i64 H, .int .i64 Bd, .int .i64 l] 130)).alloc (.cells #[.int .i64 dx, .int .i64 dy, .int .i64 dz] 122) = W at *
      have hsome := since_some W
      have p0 : W.heap[w.heap.size + 1]? = some (.cells #[.int .i64 dx, .int .i64 dy, .int .i64 dz] 122 (0, 0)) := by rw [← hW]; exact new_two w _ _
      have p1 : W.heap[w.heap.size]? = some (.cells #[.int .i64 X, .int .i64 Z, .int .i64 H, .int .i64 Bd, .int .i64 l] 130 (0, 0)) := by rw [← hW]; exact (heap_alloc_old _ _ (by simp)).trans (heap_alloc_new w _)
      have k0 := fun s : Since W => Since.cell ((cell_of_row W (w.heap.size + 1) 0 _ 122 (0, 0) p0).trans rfl) s
      have k1 := fun s : Since W => Since.cell ((cell_of_row W (w.heap.size + 1) 1 _ 122 (0, 0) p0).trans rfl) s
      have k2 := fun s : Since W => Since.cell ((cell_of_row W (w.heap.size + 1) 2 _ 122 (0, 0) p0).trans rfl) s
      have k3 := fun s : Since W => Since.cell ((cell_of_row W w.heap.size 4 _ 130 (0, 0) p1).trans rfl) s
      clear HB hW p0 p1
      refine wp_region_since (by kernel_rfl) (by kernel_rfl) ?_
      repeat (go_big_quiet_step (first | (go_at_call 65; exact Calls.since_same (ha _))))
      refine wpQuiet_nil ?_
      rintro _ ⟨s, rfl⟩
      go_wp2
      go_ret
      exact ⟨rfl, HW.out.trans (s.bel.mono HW.out.size)⟩
  have c1' : (dx == 0) = true := by simpa using c1
  by_cases c2 : dz = 0
  case neg =>
    have c2' : (dz == 0) = false := by simpa using c2
    by_cases e1 : 2 < dx
    · exfalso; omega
    by_cases e2 : 2 < dz
    · rw [HV.out _ (HN.out (fun h => c2 h.2.1) (by omega))]
      clear HV HY HN HL c1 c2
      go_enter Try.func68, Try.ntmps68
      go_wp2
      go_ret
      exact ⟨rfl, HB.out⟩
    by_cases e3 : dy < l - 1
    · rw [HV.out _ (HN.out (fun h => c2 h.2.1) (by omega))]
      clear HV HY HN HL c1 c2
      go_enter Try.func68, Try.ntmps68
      go_wp2
      go_ret
      exact ⟨rfl, HB.out⟩
    by_cases e4 : dx + dz + dl ≤ 3
    · rw [HV.out _ (HL.out (fun h => c2 h.2.1) (by omega))]
      clear HV HY HN HL c1 c2
      go_enter Try.func68, Try.ntmps68
      go_wp2_with fail
      have HW := HB
      generalize hW : (w.alloc (.cells #[.int .i64 X, .int .i64 Z, .int .i64 H, .int .i64 Bd, .int .i64 l] 130)).alloc (.cells #[.int .i64 dx, .int .i64 dy, .int .i64 dz] 122) = W at *
      have hsome := since_some W
      have p0 : W.heap[w.heap.size + 1]? = some (.cells #[.int .i64 dx, .int .i64 dy, .int .i64 dz] 122 (0, 0)) := by rw [← hW]; exact new_two w _ _
      have p1 : W.heap[w.heap.size]? = some (.cells #[.int .i64 X, .int .i64 Z, .int .i64 H, .int .i64 Bd, .int .i64 l] 130 (0, 0)) := by rw [← hW]; exact (heap_alloc_old _ _ (by simp)).trans (heap_alloc_new w _)
      have k0 := fun s : Since W => Since.cell ((cell_of_row W (w.heap.size + 1) 0 _ 122 (0, 0) p0).trans rfl) s
      have k1 := fun s : Since W => Since.cell ((cell_of_row W (w.heap.size + 1) 1 _ 122 (0, 0) p0).trans rfl) s
      have k2 := fun s : Since W => Since.cell ((cell_of_row W (w.heap.size + 1) 2 _ 122 (0, 0) p0).trans rfl) s
      have k3 := fun s : Since W => Since.cell ((cell_of_row W w.heap.size 4 _ 130 (0, 0) p1).trans rfl) s
      clear HB hW p0 p1
      refine wp_region_since (by kernel_rfl) (by kernel_rfl) ?_
      repeat (go_big_quiet_step (first | (go_at_call 65; exact Calls.since_same (ha _))))
      refine wpQuiet_nil ?_
      rintro _ ⟨s, rfl⟩
      go_wp2
      go_ret
      exact ⟨rfl, HW.out.trans (s.bel.mono HW.out.size)⟩
    · have e4' : decide (dx + dz + dl ≤ 3) = false := decide_eq_false e4
      rw [HV.out _ (HN.out (fun h => c2 h.2.1) (by omega))]
      clear HV HY HN HL c1 c2
      go_enter Try.func68, Try.ntmps68
      go_wp2_with fail
      have HW := HB
      generalize hW : (w.alloc (.cells #[.int .i64 X, .int .i64 Z, .int .i64 H, .int .i64 Bd, .int .i64 l] 130)).alloc (.cells #[.int .i64 dx, .int .i64 dy, .int .i64 dz] 122) = W at *
      have hsome := since_some W
      have p0 : W.heap[w.heap.size + 1]? = some (.cells #[.int .i64 dx, .int .i64 dy, .int .i64 dz] 122 (0, 0)) := by rw [← hW]; exact new_two w _ _
      have p1 : W.heap[w.heap.size]? = some (.cells #[.int .i64 X, .int .i64 Z, .int .i64 H, .int .i64 Bd, .int .i64 l] 130 (0, 0)) := by rw [← hW]; exact (heap_alloc_old _ _ (by simp)).trans (heap_alloc_new w _)
      have k0 := fun s : Since W => Since.cell ((cell_of_row W (w.heap.size + 1) 0 _ 122 (0, 0) p0).trans rfl) s
      have k1 := fun s : Since W => Since.cell ((cell_of_row W (w.heap.size + 1) 1 _ 122 (0, 0) p0).trans rfl) s
      have k2 := fun s : Since W => Since.cell ((cell_of_row W (w.heap.size + 1) 2 _ 122 (0, 0) p0).trans rfl) s
      have k3 := fun s : Since W => Since.cell ((cell_of_row W w.heap.size 4 _ 130 (0, 0) p1).trans rfl) s
      clear HB hW p0 p1
      refine wp_region_since (by kernel_rfl) (by kernel_rfl) ?_
      repeat (go_big_quiet_step (first | (go_at_call 65; exact Calls.since_same (ha _))))
      refine wpQuiet_nil ?_
      rintro _ ⟨s, rfl⟩
      go_wp2
      go_ret
      exact ⟨rfl, HW.out.trans (s.bel.mono HW.out.size)⟩
  have c2' : (dz == 0) = true := by simpa using c2
  by_cases c3 : 1 ≤ dy
  case neg =>
    have c3' : decide (1 ≤ dy) = false := decide_eq_false c3
    by_cases e1 : 2 < dx
    · exfalso; omega
    by_cases e2 : 2 < dz
    · exfalso; omega
    by_cases e3 : dy < l - 1
    · rw [HV.out _ (HN.out (fun h => c3 h.2.2.1) (by omega))]
      clear HV HY HN HL c1 c2
      go_enter Try.func68, Try.ntmps68
      go_wp2
      go_ret
      exact ⟨rfl, HB.out⟩
    by_cases e4 : dx + dz + dl ≤ 3
    · rw [HV.out _ (HL.out (fun h => c3 h.2.2.1) (by omega))]
      clear HV HY HN HL c1 c2
      go_enter Try.func68, Try.ntmps68
      go_wp2_with fail
      have HW := HB
      generalize hW : (w.alloc (.cells #[.int .i64 X, .int .i64 Z, .int .i64 H, .int .i64 Bd, .int .i64 l] 130)).alloc (.cells #[.int .i64 dx, .int .i64 dy, .int .i64 dz] 122) = W at *
      have hsome := since_some W
      have p0 : W.heap[w.heap.size + 1]? = some (.cells #[.int .i64 dx, .int .i64 dy, .int .i64 dz] 122 (0, 0)) := by rw [← hW]; exact new_two w _ _
      have p1 : W.heap[w.heap.size]? = some (.cells #[.int .i64 X, .int .i64 Z, .int .i64 H, .int .i64 Bd, .int .i64 l] 130 (0, 0)) := by rw [← hW]; exact (heap_alloc_old _ _ (by simp)).trans (heap_alloc_new w _)
      have k0 := fun s : Since W => Since.cell ((cell_of_row W (w.heap.size + 1) 0 _ 122 (0, 0) p0).trans rfl) s
      have k1 := fun s : Since W => Since.cell ((cell_of_row W (w.heap.size + 1) 1 _ 122 (0, 0) p0).trans rfl) s
      have k2 := fun s : Since W => Since.cell ((cell_of_row W (w.heap.size + 1) 2 _ 122 (0, 0) p0).trans rfl) s
      have k3 := fun s : Since W => Since.cell ((cell_of_row W w.heap.size 4 _ 130 (0, 0) p1).trans rfl) s
      clear HB hW p0 p1
      refine wp_region_since (by kernel_rfl) (by kernel_rfl) ?_
      repeat (go_big_quiet_step (first | (go_at_call 65; exact Calls.since_same (ha _))))
      refine wpQuiet_nil ?_
      rintro _ ⟨s, rfl⟩
      go_wp2
      go_ret
      exact ⟨rfl, HW.out.trans (s.bel.mono HW.out.size)⟩
    · have e4' : decide (dx + dz + dl ≤ 3) = false := decide_eq_false e4
      rw [HV.out _ (HN.out (fun h => c3 h.2.2.1) (by omega))]
      clear HV HY HN HL c1 c2
      go_enter Try.func68, Try.ntmps68
      go_wp2_with fail
      have HW := HB
      generalize hW : (w.alloc (.cells #[.int .i64 X, .int .i64 Z, .int .i64 H, .int .i64 Bd, .int .i64 l] 130)).alloc (.cells #[.int .i64 dx, .int .i64 dy, .int .i64 dz] 122) = W at *
      have hsome := since_some W
      have p0 : W.heap[w.heap.size + 1]? = some (.cells #[.int .i64 dx, .int .i64 dy, .int .i64 dz] 122 (0, 0)) := by rw [← hW]; exact new_two w _ _
      have p1 : W.heap[w.heap.size]? = some (.cells #[.int .i64 X, .int .i64 Z, .int .i64 H, .int .i64 Bd, .int .i64 l] 130 (0, 0)) := by rw [← hW]; exact (heap_alloc_old _ _ (by simp)).trans (heap_alloc_new w _)
      have k0 := fun s : Since W => Since.cell ((cell_of_row W (w.heap.size + 1) 0 _ 122 (0, 0) p0).trans rfl) s
      have k1 := fun s : Since W => Since.cell ((cell_of_row W (w.heap.size + 1) 1 _ 122 (0, 0) p0).trans rfl) s
      have k2 := fun s : Since W => Since.cell ((cell_of_row W (w.heap.size + 1) 2 _ 122 (0, 0) p0).trans rfl) s
      have k3 := fun s : Since W => Since.cell ((cell_of_row W w.heap.size 4 _ 130 (0, 0) p1).trans rfl) s
      clear HB hW p0 p1
      refine wp_region_since (by kernel_rfl) (by kernel_rfl) ?_
      repeat (go_big_quiet_step (first | (go_at_call 65; exact Calls.since_same (ha _))))
      refine wpQuiet_nil ?_
      rintro _ ⟨s, rfl⟩
      go_wp2
      go_ret
      exact ⟨rfl, HW.out.trans (s.bel.mono HW.out.size)⟩
  by_cases c4 : dy ≤ l
  case neg =>
    have c4' : decide (dy ≤ l) = false := decide_eq_false c4
    by_cases e1 : 2 < dx
    · exfalso; omega
    by_cases e2 : 2 < dz
    · exfalso; omega
    by_cases e3 : dy < l - 1
    · exfalso; omega
    by_cases e4 : dx + dz + dl ≤ 3
    · rw [HV.out _ (HL.out (fun h => c4 h.2.2.2) (by omega))]
      clear HV HY HN HL c1 c2
      go_enter Try.func68, Try.ntmps68
      go_wp2_with fail
      have HW := HB
      generalize hW : (w.alloc (.cells #[.int .i64 X, .int .i64 Z, .int .i64 H, .int .i64 Bd, .int .i64 l] 130)).alloc (.cells #[.int .i64 dx, .int .i64 dy, .int .i64 dz] 122) = W at *
      have hsome := since_some W
      have p0 : W.heap[w.heap.size + 1]? = some (.cells #[.int .i64 dx, .int .i64 dy, .int .i64 dz] 122 (0, 0)) := by rw [← hW]; exact new_two w _ _
      have p1 : W.heap[w.heap.size]? = some (.cells #[.int .i64 X, .int .i64 Z, .int .i64 H, .int .i64 Bd, .int .i64 l] 130 (0, 0)) := by rw [← hW]; exact (heap_alloc_old _ _ (by simp)).trans (heap_alloc_new w _)
      have k0 := fun s : Since W => Since.cell ((cell_of_row W (w.heap.size + 1) 0 _ 122 (0, 0) p0).trans rfl) s
      have k1 := fun s : Since W => Since.cell ((cell_of_row W (w.heap.size + 1) 1 _ 122 (0, 0) p0).trans rfl) s
      have k2 := fun s : Since W => Since.cell ((cell_of_row W (w.heap.size + 1) 2 _ 122 (0, 0) p0).trans rfl) s
      have k3 := fun s : Since W => Since.cell ((cell_of_row W w.heap.size 4 _ 130 (0, 0) p1).trans rfl) s
      clear HB hW p0 p1
      refine wp_region_since (by kernel_rfl) (by kernel_rfl) ?_
      repeat (go_big_quiet_step (first | (go_at_call 65; exact Calls.since_same (ha _))))
      refine wpQuiet_nil ?_
      rintro _ ⟨s, rfl⟩
      go_wp2
      go_ret
      exact ⟨rfl, HW.out.trans (s.bel.mono HW.out.size)⟩
    · have e4' : decide (dx + dz + dl ≤ 3) = false := decide_eq_false e4
      rw [HV.out _ (HN.out (fun h => c4 h.2.2.2) (by omega))]
      clear HV HY HN HL c1 c2
      go_enter Try.func68, Try.ntmps68
      go_wp2_with fail
      have HW := HB
      generalize hW : (w.alloc (.cells #[.int .i64 X, .int .i64 Z, .int .i64 H, .int .i64 Bd, .int .i64 l] 130)).alloc (.cells #[.int .i64 dx, .int .i64 dy, .int .i64 dz] 122) = W at *
      have hsome := since_some W
      have p0 : W.heap[w.heap.size + 1]? = some (.cells #[.int .i64 dx, .int .i64 dy, .int .i64 dz] 122 (0, 0)) := by rw [← hW]; exact new_two w _ _
      have p1 : W.heap[w.heap.size]? = some (.cells #[.int .i64 X, .int .i64 Z, .int .i64 H, .int .i64 Bd, .int .i64 l] 130 (0, 0)) := by rw [← hW]; exact (heap_alloc_old _ _ (by simp)).trans (heap_alloc_new w _)
      have k0 := fun s : Since W => Since.cell ((cell_of_row W (w.heap.size + 1) 0 _ 122 (0, 0) p0).trans rfl) s
      have k1 := fun s : Since W => Since.cell ((cell_of_row W (w.heap.size + 1) 1 _ 122 (0, 0) p0).trans rfl) s
      have k2 := fun s : Since W => Since.cell ((cell_of_row W (w.heap.size + 1) 2 _ 122 (0, 0) p0).trans rfl) s
      have k3 := fun s : Since W => Since.cell ((cell_of_row W w.heap.size 4 _ 130 (0, 0) p1).trans rfl) s
      clear HB hW p0 p1
      refine wp_region_since (by kernel_rfl) (by kernel_rfl) ?_
      repeat (go_big_quiet_step (first | (go_at_call 65; exact Calls.since_same (ha _))))
      refine wpQuiet_nil ?_
      rintro _ ⟨s, rfl⟩
      go_wp2
      go_ret
      exact ⟨rfl, HW.out.trans (s.bel.mono HW.out.size)⟩
  rw [HV.out _ (HY.out ⟨c1, c2, c3, c4⟩)]
  clear HV HY HN HL c1 c2
  go_enter Try.func68, Try.ntmps68
  go_wp2
  go_ret
  exact ⟨rfl, HB.out⟩
end
end Go.Proofs.Ytbdjgaagafnfaaa
