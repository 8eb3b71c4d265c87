/-
  What is asked of a veins' package, as a structure: the laws are walked over it. The chapter's examples; walk of VeinsOf.
-/
import Derived.Test.YtbcadklodjdokaaWapply
import Derived.Test.YtbcadklodjdokaaCGiven
set_option maxRecDepth 20000
namespace Go.Proofs.Ytbcadklodjdokaa
open C Go.RowKit

/-! ### what is asked -/
structure WSpec where
  G : World → Prop
  on : ∀ {w w' : World}, G w → Below w.heap.size w w' → G w'
  of_ : ∀ (S : Nat) (x y z : Int) (w : World), S < 18446744073709551616 → Far 1099511627776 x → Far 1099511627776 y → Far 1099511627776 z → G w →
    Calls Try.prog 9 #[.int .u64 S, .agg #[.int .i64 x, .int .i64 y, .int .i64 z]] w fun e w' => e = .returned (.int .i64 (ofN S x y z)) ∧ Below w.heap.size w w'
  apply_ : ∀ (S : Nat) (cx cz : Int) (g : Nat) (cs : List Int) (w : World), S < 18446744073709551616 → Far 1073741824 cx → Far 1073741824 cz → Blk w g 68 cs → cs.length = 32768 → Kinds cs → G w →
    Calls Try.prog 13 #[.int .u64 S, .agg #[.int .i64 cx, .int .i64 cz], .pointer (some ⟨g, 0, none⟩)] w fun e w' => Below w.heap.size w w' ∧ ∃ g', e = .returned (.tuple #[.pointer (some ⟨g', 0, none⟩), .int .i64 0]) ∧ Blk w' g' 68 (applyN S cx cz cs)
  no_ : ∀ (S : Nat) (cx cz : Int) (w : World), S < 18446744073709551616 → Far 1073741824 cx → Far 1073741824 cz → G w →
    Calls Try.prog 13 #[.int .u64 S, .agg #[.int .i64 cx, .int .i64 cz], .pointer none] w fun e w' => e = .returned (.tuple #[.pointer none, .int .i64 1]) ∧ Below w.heap.size w w'

/-! ### plain -/
theorem rep_getD (m j : Nat) (k : Int) (h : j < m) : (List.replicate m k).getD j 0 = k := getD_replicate m j k h
theorem apply_air : applyN 1 0 0 (List.replicate 32768 0) = List.replicate 32768 0 := by
  refine C.getD_ext (by rw [applyN_len, List.length_replicate]) fun j hj => ?_
  rw [applyN_len] at hj
  rw [applyN_at _ _ _ _ _ hj]
  unfold applyAt
  rw [if_neg]
  rintro ⟨h, _⟩
  rw [rep_getD _ _ _ hj] at h
  cases h
theorem ex_coal : oreAt 1 0 0 977 = 7 := by decide +kernel
def st1 : List Int := applyN 1 0 0 (List.replicate 32768 1)
theorem st1_len : st1.length = 32768 := applyN_len _ _ _ _
theorem st1_kinds : Kinds st1 := apply_kinds fun x hx => by rw [List.eq_of_mem_replicate hx]; omega
theorem st1_at (j : Nat) (hj : j < 32768) : st1.getD j 0 = if oreAt 1 0 0 j ≠ 0 then oreAt 1 0 0 j else 1 := by
  unfold st1
  rw [applyN_at _ _ _ _ _ hj]
  unfold applyAt
  rw [rep_getD _ _ _ hj]
  by_cases h : oreAt 1 0 0 j = 0
  · rw [if_neg (fun x => x.2 h), if_neg (fun x => x h)]
  · rw [if_pos ⟨rfl, h⟩, if_pos h]
theorem cnt_pos (cs : List Int) (j : Int) (n : Nat) : 0 ≤ cnt cs j n := by
  induction n with
  | zero => exact Int.le_refl _
  | succ n ih => unfold cnt; split <;> omega
theorem cnt_some (cs : List Int) (j : Int) {k n : Nat} (h : k < n) (hk : cs.getD k 0 = j) : 0 < cnt cs j n := by
  induction n with
  | zero => omega
  | succ n ih =>
    unfold cnt
    have := cnt_pos cs j n
    by_cases e : k = n
    · subst e; rw [if_pos hk]; omega
    · have := ih (by omega); split <;> omega
theorem st1_coal : 0 < (cntTo st1 32768).getD 7 0 := by
  rw [cntTo_cnt _ st1_kinds 7 (by omega)]
  refine cnt_some st1 _ (k := 977) (by omega) ?_
  rw [st1_at 977 (by omega), ex_coal]
  rfl
theorem st1_stone : 20000 < (cntTo st1 32768).getD 1 0 := by
  rw [cntTo_cnt _ st1_kinds 1 (by omega)]
  have h := cnt_hits st1 1 (reachL 1) 32768 (fun k hk => by
    by_cases e : oreAt 1 0 0 k = 0
    · exact .inl (by rw [st1_at k hk, if_neg (fun x => x e)])
    · exact .inr (reach_of hk e)) 32768 (Nat.le_refl _)
  have h2 := hits_le (reachL 1) 32768
  rw [reachL_len] at h2
  show 20000 < cnt st1 1 32768
  generalize cnt st1 1 32768 = a at *
  generalize hits (reachL 1) 32768 = b at *
  omega
theorem air_count : (cntTo (List.replicate 32768 0) 32768).getD 0 0 = 32768 := by
  rw [cntTo_cnt _ (fun x hx => by rw [List.eq_of_mem_replicate hx]; omega) 0 (by omega), cnt_replicate 32768 0 _ 32768 (Nat.le_refl _)]
  rfl
theorem cntTo_bd (cs : List Int) (j : Nat) (hj : j < 17) : 0 ≤ (cntTo cs 32768).getD j 0 ∧ (cntTo cs 32768).getD j 0 ≤ 32768 := by
  have := cntTo_at cs 32768 j hj
  omega
theorem b64_on {w w' : World} {b : Nat} {l : List Int} (h : B64k w b 3 l) (hb : Below w.heap.size w w') : B64k w' b 3 l := (hb.block b (Array.getElem?_eq_some_iff.1 h).1).trans h
/-! ### the chapter's examples -/
set_option maxRecDepth 100000 in
set_option maxHeartbeats 2000000 in
theorem awake_c (J : WSpec) (w : World) (hG : J.G w) : Calls Try.prog 7 #[] w fun e w' => e = .returned (.bool true) ∧ Below w.heap.size w w' := by
  have HG : Hid (J.G w) := hG
  clear hG
  have hnew := new_c w
  have HA : Hid (applyN 1 0 0 (List.replicate 32768 0) = List.replicate 32768 0 ∧ (List.replicate 32768 (0 : Int)).length = 32768 ∧ Kinds (List.replicate 32768 (0 : Int)) ∧ (cntTo (List.replicate 32768 0) 32768).getD 0 0 = 32768) := ⟨apply_air, List.length_replicate, fun x hx => by rw [List.eq_of_mem_replicate hx]; omega, air_count⟩
  generalize List.replicate 32768 (0 : Int) = Z at *
  go_enter Try.func7, Try.ntmps7
  go_wp2_with fail
  refine hnew.mono ?_
  clear hnew
  rintro _ w1 ⟨rfl, hw1⟩
  have hZ1 : Blk w1 w.heap.size 68 Z := by rw [hw1]; exact Blk.new w 68 Z
  have HB1 : Hid (Below w.heap.size w w1) := by rw [hw1]; exact (Below.refl _ w).alloc (Nat.le_refl _) _
  have hap := J.apply_ 1 0 0 w.heap.size Z w1 (by omega) (by unfold Far; omega) (by unfold Far; omega) hZ1 HA.out.2.1 HA.out.2.2.1 (J.on HG.out HB1.out)
  rw [HA.out.1] at hap
  clear hw1 hZ1
  go_wp2_with fail
  refine hap.mono ?_
  clear hap
  rintro _ w2 ⟨hb2, g2, rfl, hA2⟩
  have HB2 : Hid (Below w.heap.size w w2) := HB1.out.trans (hb2.mono HB1.out.size)
  have HA2 : Hid (Blk w2 g2 68 Z) := hA2
  clear hb2 HB1 hA2
  have hfull := full_yes 1 (by omega) w2
  have HS : Hid (List.replicate 32768 (1 : Int) = List.replicate 32768 1 ∧ (List.replicate 32768 (1 : Int)).length = 32768 ∧ Kinds (List.replicate 32768 (1 : Int)) ∧ applyN 1 0 0 (List.replicate 32768 1) = st1) := ⟨rfl, List.length_replicate, fun x hx => by rw [List.eq_of_mem_replicate hx]; omega, rfl⟩
  generalize List.replicate 32768 (1 : Int) = O at *
  go_wp2_with fail
  refine hfull.mono ?_
  clear hfull
  rintro _ w3 ⟨rfl, hO3, hb3⟩
  have HB3 : Hid (Below w.heap.size w w3) := HB2.out.trans (hb3.mono HB2.out.size)
  have HA3 : Hid (Blk w3 g2 68 Z) := HA2.out.below hb3 HA2.out.lt
  have hap := J.apply_ 1 0 0 w2.heap.size O w3 (by omega) (by unfold Far; omega) (by unfold Far; omega) hO3 HS.out.2.1 HS.out.2.2.1 (J.on HG.out HB3.out)
  rw [HS.out.2.2.2] at hap
  clear hb3 hO3 HB2 HA2 HS
  go_wp2_with fail
  refine hap.mono ?_
  clear hap
  rintro _ w4 ⟨hb4, g4, rfl, hS4⟩
  have HB4 : Hid (Below w.heap.size w w4) := HB3.out.trans (hb4.mono HB3.out.size)
  have HA4 : Hid (Blk w4 g2 68 Z) := HA3.out.below hb4 HA3.out.lt
  have HS4 : Hid (Blk w4 g4 68 st1) := hS4
  have hno := J.no_ 1 0 0 w4 (by omega) (by unfold Far; omega) (by unfold Far; omega) (J.on HG.out HB4.out)
  clear hb4 hS4 HB3 HA3
  go_wp2_with fail
  refine hno.mono ?_
  clear hno
  rintro _ w5 ⟨rfl, hb5⟩
  have HB5 : Hid (Below w.heap.size w w5) := HB4.out.trans (hb5.mono HB4.out.size)
  have hA5 : Blk w5 g2 68 Z := HA4.out.below hb5 HA4.out.lt
  have HS5 : Hid (Blk w5 g4 68 st1) := HS4.out.below hb5 HS4.out.lt
  have hco := counts_c g2 Z w5 hA5 HA.out.2.1 HA.out.2.2.1
  have hz0 := HA.out.2.2.2
  have Hl0 := cntTo_length Z 32768
  clear hb5 HB4 HA4 HS4 hA5 HA
  generalize cntTo Z 32768 = L0 at *
  go_wp2_with fail
  refine hco.mono ?_
  clear hco
  rintro _ w6 ⟨rfl, hL6, hb6⟩
  have HB6 : Hid (Below w.heap.size w w6) := HB5.out.trans (hb6.mono HB5.out.size)
  have HL6 : Hid (B64k w6 w5.heap.size 3 L0) := hL6
  have hS6 : Blk w6 g4 68 st1 := HS5.out.below hb6 HS5.out.lt
  have hco := counts_c g4 st1 w6 hS6 st1_len st1_kinds
  have s1 := st1_coal
  have s2 := st1_stone
  have Hl1 := cntTo_length st1 32768
  clear hb6 hL6 HB5 HS5 hS6
  generalize cntTo st1 32768 = L1 at *
  generalize w5.heap.size = gA at *
  go_wp2_with fail
  refine hco.mono ?_
  clear hco
  rintro _ w7 ⟨rfl, hL7, hb7⟩
  have HB7 : Hid (Below w.heap.size w w7) := HB6.out.trans (hb7.mono HB6.out.size)
  have k0 := (b64_on HL6.out hb7).cell (k := 0) (by omega)
  have k7 := hL7.cell (k := 7) (by omega)
  have k1 := hL7.cell (k := 1) (by omega)
  rw [hz0] at k0
  clear hb7 hL7 HB6 HL6 Hl0 Hl1 hz0
  generalize L1.getD 7 0 = n7 at *
  generalize L1.getD 1 0 = n1 at *
  generalize w6.heap.size = gB at *
  go_wp2
  go_ret
  exact ⟨rfl, HB7.out⟩

/-! ### VeinsOf -/
theorem far_in {x y z : Int} (hx : Far 1099511627776 x) (hy : Far 1099511627776 y) (hz : Far 1099511627776 z) (w : World) : Calls Try.prog 8 #[.agg #[.int .i64 x, .int .i64 y, .int .i64 z]] w fun e w' => e = .returned (.bool false) ∧ Below w.heap.size w w' := by
  obtain ⟨x0, x1⟩ := hx
  obtain ⟨y0, y1⟩ := hy
  obtain ⟨z0, z1⟩ := hz
  have a0 : ¬ x < -1099511627776 := by omega
  have a1 : ¬ 1099511627776 < x := by omega
  have a2 : ¬ y < -1099511627776 := by omega
  have a3 : ¬ 1099511627776 < y := by omega
  have a4 : ¬ z < -1099511627776 := by omega
  have a5 : ¬ 1099511627776 < z := by omega
  go_enter Try.func8, Try.ntmps8
  go_wp2
  go_ret
  exact ⟨rfl, (Below.refl _ _).alloc (Nat.le_refl _) _⟩
set_option maxHeartbeats 1000000 in
theorem far_out {x y z : Int} (h : ¬ (Far 1099511627776 x ∧ Far 1099511627776 y ∧ Far 1099511627776 z)) (w : World) : Calls Try.prog 8 #[.agg #[.int .i64 x, .int .i64 y, .int .i64 z]] w fun e w' => e = .returned (.bool true) ∧ Below w.heap.size w w' := by
  unfold Far at h
  by_cases a0 : x < -1099511627776
  · clear h
    go_enter Try.func8, Try.ntmps8
    go_wp2
    go_ret
    exact ⟨rfl, (Below.refl _ _).alloc (Nat.le_refl _) _⟩
  by_cases a1 : 1099511627776 < x
  · clear h
    go_enter Try.func8, Try.ntmps8
    go_wp2
    go_ret
    exact ⟨rfl, (Below.refl _ _).alloc (Nat.le_refl _) _⟩
  by_cases a2 : y < -1099511627776
  · clear h
    go_enter Try.func8, Try.ntmps8
    go_wp2
    go_ret
    exact ⟨rfl, (Below.refl _ _).alloc (Nat.le_refl _) _⟩
  by_cases a3 : 1099511627776 < y
  · clear h
    go_enter Try.func8, Try.ntmps8
    go_wp2
    go_ret
    exact ⟨rfl, (Below.refl _ _).alloc (Nat.le_refl _) _⟩
  by_cases a4 : z < -1099511627776
  · clear h
    go_enter Try.func8, Try.ntmps8
    go_wp2
    go_ret
    exact ⟨rfl, (Below.refl _ _).alloc (Nat.le_refl _) _⟩
  by_cases a5 : 1099511627776 < z
  · clear h
    go_enter Try.func8, Try.ntmps8
    go_wp2
    go_ret
    exact ⟨rfl, (Below.refl _ _).alloc (Nat.le_refl _) _⟩
  exact absurd ⟨by omega, by omega, by omega⟩ h
set_option maxHeartbeats 1000000 in
theorem veinsOf_walk (J : WSpec) (S : Nat) (x y z : Int) (w : World) (hS : S < 18446744073709551616) (hG : J.G w) :
    Calls Try.prog 3 #[.int .u64 S, .agg #[.int .i64 x, .int .i64 y, .int .i64 z]] w fun e w' => e = .returned (.bool true) ∧ Below w.heap.size w w' := by
  have HG : Hid (J.G w) := hG
  clear hG
  go_enter Try.func3, Try.ntmps3
  go_wp2_with fail
  refine (awake_c J _ (J.on HG.out ((Below.refl _ _).alloc (Nat.le_refl _) _))).mono ?_
  rintro _ w1 ⟨rfl, hw1⟩
  have HB1 : Hid (Below w.heap.size w w1) := ((Below.refl _ w).alloc (Nat.le_refl _) _).trans (hw1.mono (by simp))
  have HX1 : Hid (w1.heap[w.heap.size]? = some (.cells #[.int .i64 x, .int .i64 y, .int .i64 z] 24 (0, 0))) := (hw1.block w.heap.size (by simp)).trans (heap_alloc_new w _)
  have k0 : w1.cell? ⟨w.heap.size, 0, none⟩ = some (.int .i64 x) := (cell_of_row w1 w.heap.size 0 _ 24 (0, 0) HX1.out).trans rfl
  have k1 : w1.cell? ⟨w.heap.size, 1, none⟩ = some (.int .i64 y) := (cell_of_row w1 w.heap.size 1 _ 24 (0, 0) HX1.out).trans rfl
  have k2 : w1.cell? ⟨w.heap.size, 2, none⟩ = some (.int .i64 z) := (cell_of_row w1 w.heap.size 2 _ 24 (0, 0) HX1.out).trans rfl
  clear hw1
  by_cases hf : Far 1099511627776 x ∧ Far 1099511627776 y ∧ Far 1099511627776 z
  case neg =>
    have hfar := far_out hf w1
    go_wp2_with fail
    refine hfar.mono ?_
    clear hfar
    rintro _ w2 ⟨rfl, hb2⟩
    have HB2 : Hid (Below w.heap.size w w2) := HB1.out.trans (hb2.mono HB1.out.size)
    clear k0 k1 k2 hb2 HX1
    go_wp2
    go_ret
    exact ⟨rfl, HB2.out⟩
  have hfar := far_in hf.1 hf.2.1 hf.2.2 w1
  go_wp2_with fail
  refine hfar.mono ?_
  clear hfar k0 k1 k2
  rintro _ w2 ⟨rfl, hb2⟩
  have HB2 : Hid (Below w.heap.size w w2) := HB1.out.trans (hb2.mono HB1.out.size)
  have HX2 : Hid (w2.heap[w.heap.size]? = some (.cells #[.int .i64 x, .int .i64 y, .int .i64 z] 24 (0, 0))) := (hb2.block w.heap.size (Array.getElem?_eq_some_iff.1 HX1.out).1).trans HX1.out
  have k0 : w2.cell? ⟨w.heap.size, 0, none⟩ = some (.int .i64 x) := (cell_of_row w2 w.heap.size 0 _ 24 (0, 0) HX2.out).trans rfl
  have k1 : w2.cell? ⟨w.heap.size, 1, none⟩ = some (.int .i64 y) := (cell_of_row w2 w.heap.size 1 _ 24 (0, 0) HX2.out).trans rfl
  have k2 : w2.cell? ⟨w.heap.size, 2, none⟩ = some (.int .i64 z) := (cell_of_row w2 w.heap.size 2 _ 24 (0, 0) HX2.out).trans rfl
  have hof := J.of_ S x y z w2 hS hf.1 hf.2.1 hf.2.2 (J.on HG.out HB2.out)
  clear hb2 HB1 HX1
  go_wp2_with fail
  refine hof.mono ?_
  clear hof k0 k1 k2
  rintro _ w3 ⟨rfl, hb3⟩
  have HB3 : Hid (Below w.heap.size w w3) := HB2.out.trans (hb3.mono HB2.out.size)
  have hX3 : w3.heap[w.heap.size]? = some (.cells #[.int .i64 x, .int .i64 y, .int .i64 z] 24 (0, 0)) := (hb3.block w.heap.size (Array.getElem?_eq_some_iff.1 HX2.out).1).trans HX2.out
  have k0 : w3.cell? ⟨w.heap.size, 0, none⟩ = some (.int .i64 x) := (cell_of_row w3 w.heap.size 0 _ 24 (0, 0) hX3).trans rfl
  have k1 : w3.cell? ⟨w.heap.size, 1, none⟩ = some (.int .i64 y) := (cell_of_row w3 w.heap.size 1 _ 24 (0, 0) hX3).trans rfl
  have k2 : w3.cell? ⟨w.heap.size, 2, none⟩ = some (.int .i64 z) := (cell_of_row w3 w.heap.size 2 _ 24 (0, 0) hX3).trans rfl
  have hrof := rof_c S x y z w3 hS hf.1 hf.2.1 hf.2.2
  have hbd := ofN_bd S x y z
  generalize ofN S x y z = v at *
  clear hb3 HB2 HX2 hX3 hf
  go_wp2_with fail
  refine hrof.mono ?_
  clear hrof k0 k1 k2
  rintro _ w4 ⟨rfl, hb4⟩
  have HB4 : Hid (Below w.heap.size w w4) := HB3.out.trans (hb4.mono HB3.out.size)
  clear hb4 HB3
  rcases hbd with rfl | ⟨v0, v1⟩
  · go_wp2
    go_ret
    exact ⟨rfl, HB4.out⟩
  · have vz : (v == 0) = false := by simp; omega
    have v7 : 7 ≤ v := v0
    have v9 : v ≤ 9 := v1
    go_wp2
    go_ret
    exact ⟨by simp, HB4.out⟩
end Go.Proofs.Ytbcadklodjdokaa