/-
  Nine chunks of stone: some of their cells are open at seed 1; the chapter's examples. Walk of CavesSeeds.
-/
import Derived.Test.YtajjaeaknonmfaaVlaw
import Derived.Test.YtajjaeaknonmfaaVcarve
import Derived.Test.YtajjaeaknonmfaaHsince
import Derived.Test.YtajjaeaknonmfaaCPures
import Derived.Deep.QuietTactic
set_option maxRecDepth 20000
namespace Go.Proofs.Ytajjaeaknonmfaa
open C Go.RowKit

theorem some_nil (w : World) (b n c : Nat) : (binOp .eql 32 (.slice (some ⟨b, 0, none⟩) n c) (.slice none 0 0)).run Try.prog w = .ok (.bool false) w := by kernel_rfl
/-! ### plain -/
def stoneN : List (List Int) := (List.range 9).map fun _ => List.replicate 32768 1
def fitY : Fld := fun _ y _ => decide (6 ≤ y ∧ y ≤ 29)
theorem ex_open : stepF fitY (stepF fitY (fun x y z => fitY x y z && sdN 1 x y z)) 6 7 1 = true := by decide +kernel
theorem stone_at (i : Nat) (h : i < 9) : stoneN.getD i [] = List.replicate 32768 1 := by
  unfold stoneN
  rw [List.getD_eq_getElem?_getD, List.getElem?_map, List.getElem?_range h]
  rfl
theorem stone_fit {x y z : Int} (hx : -16 ≤ x ∧ x ≤ 31) (hz : -16 ≤ z ∧ z ≤ 31) : fitN stoneN x y z = fitY x y z := by
  unfold fitN fitY
  by_cases hy : 6 ≤ y ∧ y ≤ 29
  · rw [decide_eq_true hy, Bool.true_and]
    unfold cellN
    rw [stone_at _ (by omega), getD_replicate _ _ _ (by omega)]
    rfl
  · rw [decide_eq_false hy]
    rfl
theorem stone_open : open2 1 0 0 stoneN 6 7 1 = true := by
  rw [← ex_open]
  refine step_congr (stone_fit (by omega) (by omega)) (fun a b c a1 a2 b1 b2 c1 c2 => ?_)
  refine step_congr (stone_fit (by omega) (by omega)) (fun a' b' c' a3 a4 b3 b4 c3 c4 => ?_)
  unfold open0
  rw [stone_fit (by omega) (by omega), Int.zero_mul, Int.zero_add, Int.zero_add]
theorem stone_cell : (carveN 1 0 0 stoneN).getD 1814 0 = 5 := by
  rw [carveN_at 1 0 0 stoneN 1814 (by omega), carv_open (by
    show open2 1 0 0 stoneN ((1814 : Nat) % 16 : Int) ((1814 : Nat) / 256 : Int) ((1814 : Nat) / 16 % 16 : Int) = true
    rw [show ((1814 : Nat) : Int) % 16 = 6 by decide, show ((1814 : Nat) : Int) / 256 = 7 by decide, show ((1814 : Nat) : Int) / 16 % 16 = 1 by decide]
    exact stone_open)]
  rfl
theorem carve_kinds {S : Nat} {cx cz : Int} {css : List (List Int)} (hk : Kinds (css.getD 4 [])) : Kinds (carveN S cx cz css) := fun x hx => by
  unfold carveN at hx
  obtain ⟨i, hi, rfl⟩ := List.mem_map.1 hx
  rcases carv_says S cx cz css i (List.mem_range.1 hi) with h | ⟨_, _, _, h | h⟩
  · rw [h]; exact hk.at i
  · rw [h.2]; omega
  · rw [h.2]; omega
theorem cnt_pos (cs : List Int) (j : Int) (n : Nat) : 0 ≤ cnt cs j n := by
  induction n with
  | zero => exact Int.le_refl _
  | succ n ih => unfold cnt; split <;> omega
theorem cnt_some (cs : List Int) (j : Int) {k n : Nat} (h : k < n) (hk : cs.getD k 0 = j) : 0 < cnt cs j n := by
  induction n with
  | zero => omega
  | succ n ih =>
    unfold cnt
    have := cnt_pos cs j n
    by_cases e : k = n
    · subst e; rw [if_pos hk]; omega
    · have := ih (by omega); split <;> omega
theorem cnt_three (cs : List Int) (n : Nat) (h : ∀ k, k < n → cs.getD k 0 = 0 ∨ cs.getD k 0 = 1 ∨ cs.getD k 0 = 5) : cnt cs 0 n + cnt cs 5 n + cnt cs 1 n = n := by
  induction n with
  | zero => rfl
  | succ n ih =>
    have := ih (fun k hk => h k (by omega))
    unfold cnt
    rcases h n (by omega) with e | e | e <;> rw [e] <;> simp <;> omega
theorem stone_three : ∀ k, k < 32768 → (carveN 1 0 0 stoneN).getD k 0 = 0 ∨ (carveN 1 0 0 stoneN).getD k 0 = 1 ∨ (carveN 1 0 0 stoneN).getD k 0 = 5 := fun k hk => by
  rw [carveN_at 1 0 0 stoneN k hk]
  have h1 : (stoneN.getD 4 []).getD k 0 = 1 := by rw [stone_at 4 (by omega), getD_replicate _ _ _ hk]
  rcases carv_says 1 0 0 stoneN k hk with h | ⟨_, _, _, h | h⟩
  · rw [h, h1]; simp
  · rw [h.2]; simp
  · rw [h.2]; simp
theorem stone_kinds : Kinds (carveN 1 0 0 stoneN) := carve_kinds (by
  rw [stone_at 4 (by omega)]
  intro x hx
  rw [List.eq_of_mem_replicate hx]
  omega)
theorem stone_counts : 0 < (cntTo (carveN 1 0 0 stoneN) 32768).getD 0 0 + (cntTo (carveN 1 0 0 stoneN) 32768).getD 5 0 ∧ (cntTo (carveN 1 0 0 stoneN) 32768).getD 0 0 + (cntTo (carveN 1 0 0 stoneN) 32768).getD 5 0 + (cntTo (carveN 1 0 0 stoneN) 32768).getD 1 0 = 32768 := by
  rw [cntTo_cnt _ stone_kinds 0 (by omega), cntTo_cnt _ stone_kinds 5 (by omega), cntTo_cnt _ stone_kinds 1 (by omega)]
  have h1 := cnt_pos (carveN 1 0 0 stoneN) ((0 : Nat) : Int) 32768
  have h2 := cnt_some (carveN 1 0 0 stoneN) ((5 : Nat) : Int) (k := 1814) (n := 32768) (by omega) stone_cell
  have h3 := cnt_three (carveN 1 0 0 stoneN) 32768 stone_three
  exact ⟨by omega, h3⟩
theorem cntTo_bd (cs : List Int) (j : Nat) (hj : j < 17) : 0 ≤ (cntTo cs 32768).getD j 0 ∧ (cntTo cs 32768).getD j 0 ≤ 32768 := by
  have := cntTo_at cs 32768 j hj
  omega
set_option maxRecDepth 100000 in
set_option maxHeartbeats 2000000 in
theorem awake_c (J : VSpec) (w : World) (hG : J.G w) : Calls Try.prog 8 #[] w fun e w' => e = .returned (.bool true) ∧ Below w.heap.size w w' := by
  have HG : Hid (J.G w) := hG
  clear hG
  go_enter Try.func8, Try.ntmps8
  go_wp2
  go_loopw [1, 2] (fun vo vi wr => ∃ (i : Nat) (av : Option Addr) (cv : Nat) (gs : List Nat), vi = .int .i64 (i : Int) ∧ vo = .slice av i cv ∧ i ≤ 9 ∧ Hid (Many w 38 5 slV (fun _ => List.replicate 32768 1) i av cv gs wr)) (fun _ vi _ => 9 - (intOf vi).toNat)
  case atStart => exact ⟨0, none, 0, [], rfl, rfl, by omega, Many.init⟩
  case round =>
    obtain ⟨i, av, cv, gs, rfl, rfl, hi, HM⟩ := hrel
    by_cases hlt : i < 9
    case pos =>
      have hlt' : (i : Int) < 9 := by omega
      go_wp2_with fail
      refine (rnew_c 1 (by omega) (by omega) wr).mono ?_
      rintro _ w1 ⟨rfl, hG1, hb1⟩
      have HM1 : Hid (Many w 38 5 slV (fun _ => List.replicate 32768 1) i av cv gs (w1.alloc (.cells #[slV wr.heap.size] 38))) := (HM.out.on hb1).on ((Below.refl _ _).alloc (Nat.le_refl _) _)
      have Hnew : Hid (wr.heap.size ∉ gs ∧ w.heap.size ≤ wr.heap.size) := ⟨fun hm => by have := HM.out.lt _ hm; omega, HM.out.bel.size⟩
      have HG1 : Hid (Blk (w1.alloc (.cells #[slV wr.heap.size] 38)) wr.heap.size 5 (List.replicate 32768 1)) := hG1.below ((Below.refl _ _).alloc (Nat.le_refl _) _) hG1.lt
      clear hb1 hG1 HM
      generalize wr.heap.size = gw at *
      go_wp2_with (at_builtin; refine wpList_append_val 30 38 (.slice none 0 0) 24 Try.underlying30 info38 rfl (by omega) rfl _ _ rfl w.heap.size av i cv (gs.map slV) rfl HM1.out.own ⟨w1.heap.size, 0, none⟩ (slV gw) rfl (cell_new _ _ _) rfl (by omega) HM1.out.bel.size ?_; intro a3 c3 w3 hO3 hgr3; have HM3 : Hid (Many w 38 5 slV (fun _ => List.replicate 32768 1) (i + 1) a3 c3 (gs ++ [gw]) w3) := HM1.out.add (by decide) HG1.out Hnew.out.2 Hnew.out.1 hO3 hgr3; clear hO3 hgr3 HM1)
      exact ⟨⟨i + 1, a3, c3, gs ++ [gw], by simp, rfl, by omega, HM3⟩, by simp [intOf]; omega⟩
    have hge : ¬ (i : Int) < 9 := by omega
    obtain rfl : i = 9 := by omega
    obtain ⟨b, rfl, hB9, _, _⟩ := HM.out.b9 (fun i _ => by simp) (fun i _ x hx => by rw [List.eq_of_mem_replicate hx]; omega)
    have Hb1 : Hid (Below w.heap.size w wr) := HM.out.bel
    have hch := chunks_c b cv _ _ _ wr hB9
    clear hB9 HM
    go_wp2_with fail
    refine hch.mono ?_
    clear hch
    rintro _ w2 ⟨hb2, b', c', g', rfl, hN9⟩
    have Hb2 : Hid (Below w.heap.size w w2) := Hb1.out.trans (hb2.mono Hb1.out.size)
    have hnil := some_nil w2 b' 9 c'
    have hc := J.carve_ 1 0 0 (some ⟨b', 0, none⟩) c' g' stoneN w2 (by omega) (by unfold Far; omega) (by unfold Far; omega) hN9 (J.on HG.out Hb2.out)
    clear hb2 hN9 Hb1
    go_wp2_with fail
    refine hc.mono ?_
    clear hc
    rintro _ w3 ⟨hb3, g3, rfl, hG3⟩
    have Hb3 : Hid (Below w.heap.size w w3) := Hb2.out.trans (hb3.mono Hb2.out.size)
    have hco := counts_c g3 (carveN 1 0 0 stoneN) w3 hG3 (carveN_len _ _ _ _) stone_kinds
    have Hst := stone_counts
    have Hc0 := cntTo_bd (carveN 1 0 0 stoneN) 0 (by omega)
    have Hc5 := cntTo_bd (carveN 1 0 0 stoneN) 5 (by omega)
    have Hc1 := cntTo_bd (carveN 1 0 0 stoneN) 1 (by omega)
    have Hlen := cntTo_length (carveN 1 0 0 stoneN) 32768
    clear hb3 hG3 Hb2
    generalize cntTo (carveN 1 0 0 stoneN) 32768 = L at *
    go_wp2_with fail
    refine hco.mono ?_
    clear hco
    rintro _ w4 ⟨rfl, hL4, hb4⟩
    have Hb4 : Hid (Below w.heap.size w w4) := Hb3.out.trans (hb4.mono Hb3.out.size)
    have k0 := hL4.cell (k := 0) (by omega)
    have k5 := hL4.cell (k := 5) (by omega)
    have k1 := hL4.cell (k := 1) (by omega)
    clear hb4 hL4 Hb3 Hlen
    generalize L.getD 0 0 = n0 at *
    generalize L.getD 5 0 = n5 at *
    generalize L.getD 1 0 = n1 at *
    obtain ⟨s1, s2⟩ := Hst
    obtain ⟨a0, a1⟩ := Hc0
    obtain ⟨a2, a3⟩ := Hc5
    obtain ⟨a4, a5⟩ := Hc1
    generalize w3.heap.size = gL at *
    go_wp2_with fail
    go_quiet (fail)
    go_wp2
    go_ret
    exact ⟨rfl, below_drewN Hb4.out _⟩
/-! ### CavesSeeds -/
set_option maxHeartbeats 1000000 in
theorem cavesSeeds_walk (J : VSpec) (S : Nat) (X Y Z : Int) (w : World) (hS : S < 18446744073709551616) (hX : I64 X) (hY : I64 Y) (hZ : I64 Z) (hG : J.G w) :
    Calls Try.prog 3 #[.int .u64 S, .agg #[.int .i64 X, .int .i64 Y, .int .i64 Z]] w fun e w' => e = .returned (.bool true) ∧ Below w.heap.size w w' := by
  go_enter Try.func3, Try.ntmps3
  go_wp2_with fail
  refine (awake_c J _ (J.on hG ((Below.refl _ _).alloc (Nat.le_refl _) _))).mono ?_
  rintro _ w1 ⟨rfl, hw1⟩
  have HB1 : Hid (Below w.heap.size w w1) := ((Below.refl _ w).alloc (Nat.le_refl _) _).trans (hw1.mono (by simp))
  have hX1 := (hw1.block w.heap.size (by simp)).trans (heap_alloc_new w _)
  have hsome := since_some w1
  have k0 : ∀ s : Since w1, s.w.cell? ⟨w.heap.size, 0, none⟩ = some (.int .i64 X) := fun s => s.cell ((cell_of_row w1 w.heap.size 0 _ 24 (0, 0) hX1).trans rfl)
  have k1 : ∀ s : Since w1, s.w.cell? ⟨w.heap.size, 1, none⟩ = some (.int .i64 Y) := fun s => s.cell ((cell_of_row w1 w.heap.size 1 _ 24 (0, 0) hX1).trans rfl)
  have k2 : ∀ s : Since w1, s.w.cell? ⟨w.heap.size, 2, none⟩ = some (.int .i64 Z) := fun s => s.cell ((cell_of_row w1 w.heap.size 2 _ 24 (0, 0) hX1).trans rfl)
  have h1 : ∀ s : Since w1, Calls Try.prog 9 #[.int .u64 S, .agg #[.int .i64 X, .int .i64 Y, .int .i64 Z]] s.w fun e w' => e = .returned (.bool (sdN S X Y Z)) ∧ Below s.w.heap.size s.w w' := fun s => J.seed_ S X Y Z s.w hS hX hY hZ (J.on (J.on hG HB1.out) s.bel)
  have h2 : ∀ s : Since w1, Calls Try.prog 10 #[.int .u64 S, .agg #[.int .i64 X, .int .i64 Y, .int .i64 Z]] s.w fun e w' => e = .returned (.bool (sdN S X Y Z)) ∧ Below s.w.heap.size s.w w' := fun s => rseed_c S X Y Z s.w hS
  generalize sdN S X Y Z = v at *
  clear hw1 hX1
  go_wp2_with fail
  refine wp_region_since (by kernel_rfl) (by kernel_rfl) ?_
  repeat (go_big_quiet_step (first | (go_at_call 9; exact Calls.since (h1 _)) | (go_at_call 10; exact Calls.since (h2 _))))
  refine wpQuiet_nil ?_
  rintro _ ⟨s, rfl⟩
  have R := HB1.out.trans (s.bel.mono HB1.out.size)
  clear h1 h2 k0 k1 k2
  go_wp2
  go_ret
  exact ⟨by simp, R⟩
end Go.Proofs.Ytajjaeaknonmfaa