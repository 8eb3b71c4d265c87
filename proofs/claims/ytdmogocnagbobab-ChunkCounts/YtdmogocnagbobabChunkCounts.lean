/-
  ChunkCountsSaid is proved: for every slice of calls and all integers the statement ChunkCounts returns true, without any condition.
-/
import Derived.Test.YtdmogocnagbobabMores
namespace Go.Proofs.Ytdmogocnagbobab
open Go.ChangeShapes Go.WideShapes Go.ChangeAt Go.RowKit

/-- The sum of the first m numbers. -/
def sumL (N : List Int) : Nat → Int
  | 0 => 0
  | m + 1 => sumL N m + N.getD m 0
theorem sumL_in {N : List Int} (h : ∀ j, j < 17 → 0 ≤ N.getD j 0 ∧ N.getD j 0 ≤ 32768) : ∀ m, m ≤ 17 → 0 ≤ sumL N m ∧ sumL N m ≤ m * 32768
  | 0, _ => by simp [sumL]
  | m + 1, hm => by
    have := sumL_in h m (by omega)
    have := h m (by omega)
    unfold sumL
    omega
/-- How many of the first n cells are of a kind below m. -/
def cntB (cs : List Int) (m : Nat) : Nat → Int
  | 0 => 0
  | n + 1 => cntB cs m n + if 0 ≤ cs.getD n 0 ∧ cs.getD n 0 < m then 1 else 0
theorem cntB_zero (cs : List Int) : ∀ n, cntB cs 0 n = 0
  | 0 => rfl
  | n + 1 => by unfold cntB; rw [cntB_zero cs n, if_neg (by omega)]; rfl
theorem cntB_succ (cs : List Int) (m : Nat) : ∀ n, cntB cs (m + 1) n = cntB cs m n + cnt cs m n
  | 0 => by simp [cntB, cnt]
  | n + 1 => by
    unfold cntB cnt
    rw [cntB_succ cs m n]
    generalize cs.getD n 0 = v
    by_cases h1 : 0 ≤ v ∧ v < m
    · rw [if_pos (by omega), if_pos h1, if_neg (by omega)]; omega
    · by_cases h2 : v = m
      · rw [if_pos (by omega), if_neg h1, if_pos h2]; omega
      · rw [if_neg (by omega), if_neg h1, if_neg h2]; omega
theorem cntB_all {cs : List Int} (h : Kinds cs) : ∀ n, cntB cs 17 n = n
  | 0 => rfl
  | n + 1 => by
    have := h.at n
    unfold cntB
    rw [cntB_all h n, if_pos (by omega)]
    omega
theorem sumL_cnt {cs : List Int} (h : Kinds cs) : ∀ m, m ≤ 17 → sumL (cntTo cs 32768) m = cntB cs m 32768
  | 0, _ => by rw [cntB_zero]; rfl
  | m + 1, hm => by
    rw [cntB_succ, ← sumL_cnt h m (by omega), ← cntTo_cnt cs h m (by omega)]
    rfl
theorem sumL_all {cs : List Int} (h : Kinds cs) : sumL (cntTo cs 32768) 17 = 32768 := by
  rw [sumL_cnt h 17 (by omega), cntB_all h]
  rfl

set_option maxRecDepth 100000 in
set_option maxHeartbeats 4000000 in
theorem chunkCounts_no (p : Option Addr) (n cap : Nat) (l : List Op4) (i k : Int) (w : World) (hO : Ops w p n l) (hok : ¬ (0 ≤ i ∧ i < 32768 ∧ 0 ≤ k ∧ k ≤ 16)) :
    Calls Try.prog 3 #[.slice p n cap, .int .i64 i, .int .i64 k] w fun e w' => e = .returned (.bool true) ∧ Below w.heap.size w w' := by
  go_enter Try.func3, Try.ntmps3
  go_wp2_with fail
  refine (awake_c w).mono ?_
  rintro _ w1 ⟨rfl, hb1⟩
  go_wp2_with fail
  refine (plays_c p n cap l w1 (hO.on hb1)).mono ?_
  rintro _ w2 ⟨rfl, hC, hR, hb2⟩
  have R2 := hb1.trans (hb2.mono hb1.size)
  have hlen := playTo_length l (min n 400)
  have hkin := playTo_kinds l (min n 400)
  have hg : w.heap.size ≤ w1.heap.size := hb1.size
  have hgl : w1.heap.size < w2.heap.size := hC.lt
  have hrl : w1.heap.size + 1 < w2.heap.size := hR.lt
  generalize playTo l (min n 400) = cs at *
  clear hb1 hb2
  generalize w1.heap.size = g at *
  go_wp2_with fail
  refine (counts_c g cs _ hC hlen hkin).mono ?_
  rintro _ w3 ⟨rfl, hA3, hb3⟩
  have hC3 := hC.below hb3 hgl
  have R3 := R2.trans (hb3.mono R2.size)
  have ha3 := hA3.lt
  clear hb3 hC hR R2
  generalize w2.heap.size = b1 at *
  go_wp2_with fail
  refine (get_c g cs i _ hC3 hlen hkin).mono ?_
  rintro _ w4 ⟨rfl, hw⟩
  rw [hw]
  clear hw w4
  go_wp2_with fail
  refine (set_c g cs i k _ hC3 hlen).mono ?_
  rw [(okSet_no hok cs).1, (okSet_no hok cs).2]
  rintro _ w4 ⟨rfl, hC4, ho4⟩
  have hA4 := hA3.only ho4 (by omega)
  have R4 := R3.trans (ho4.below hg)
  have ha4 : b1 < w4.heap.size := hA4.lt
  clear hA3 hC3 ho4 R3 ha3
  go_wp2_with fail
  refine (counts_c g cs _ hC4 hlen hkin).mono ?_
  rintro _ w5 ⟨rfl, hB5, hb5⟩
  have hA5 := hA4.below hb5 ha4
  have R5 := R4.trans (hb5.mono R4.size)
  clear hA4 hb5 R4 hC4
  have H17 : Hid (sumL (cntTo cs 32768) 17 = 32768) := sumL_all hkin
  have Hin2 : Hid (∀ j, j < 17 → 0 ≤ (cntTo cs 32768).getD j 0 ∧ (cntTo cs 32768).getD j 0 ≤ 32768) := fun j hj => cntTo_at cs 32768 j hj
  have Hsum : Hid (∀ m, m ≤ 17 → 0 ≤ sumL (cntTo cs 32768) m ∧ sumL (cntTo cs 32768) m ≤ m * 32768) := sumL_in Hin2.out
  have hl2 := cntTo_length cs 32768
  generalize getC cs i = W at *
  generalize cntTo cs 32768 = N2 at *
  generalize w4.heap.size = b2 at *
  go_wp2
  go_loop [15, 16] (fun s j => ∃ m : Nat, m ≤ 17 ∧ j = .int .i64 (m : Int) ∧ s = .int .i64 (sumL N2 m)) (fun _ j => 17 - (intOf j).toNat)
  case atStart => exact ⟨0, by omega, rfl, rfl⟩
  case round =>
    obtain ⟨m, hm, rfl, rfl⟩ := hrel
    by_cases hlt : m < 17
    · have hlt' : (m : Int) < 17 := by omega
      have c1 := hA5.cell (k := m) (by omega)
      have c2 := hB5.cell (k := m) (by omega)
      have HS : Hid (sumL N2 (m + 1) = sumL N2 m + N2.getD m 0) := rfl
      obtain ⟨y0, y1⟩ := Hin2.out m hlt
      obtain ⟨s0, s1⟩ := Hsum.out m hm
      generalize N2.getD m 0 = y at *
      generalize sumL N2 m = s at *
      go_wp2
      go_round
      case rel => exact ⟨m + 1, by omega, by go_num, by rw [HS.out]; first | done | (congr 1; omega)⟩
      case measure => simp [intOf]; omega
    · obtain rfl : m = 17 := by omega
      rw [H17.out]
      go_wp2
      go_ret
      exact ⟨rfl, R5⟩

set_option maxRecDepth 100000 in
set_option maxHeartbeats 4000000 in
theorem chunkCounts_yes (p : Option Addr) (n cap : Nat) (l : List Op4) (i k : Int) (w : World) (hO : Ops w p n l) (hok : 0 ≤ i ∧ i < 32768 ∧ 0 ≤ k ∧ k ≤ 16) :
    Calls Try.prog 3 #[.slice p n cap, .int .i64 i, .int .i64 k] w fun e w' => e = .returned (.bool true) ∧ Below w.heap.size w w' := by
  go_enter Try.func3, Try.ntmps3
  go_wp2_with fail
  refine (awake_c w).mono ?_
  rintro _ w1 ⟨rfl, hb1⟩
  go_wp2_with fail
  refine (plays_c p n cap l w1 (hO.on hb1)).mono ?_
  rintro _ w2 ⟨rfl, hC, hR, hb2⟩
  have R2 := hb1.trans (hb2.mono hb1.size)
  have hlen := playTo_length l (min n 400)
  have hkin := playTo_kinds l (min n 400)
  have hg : w.heap.size ≤ w1.heap.size := hb1.size
  have hgl : w1.heap.size < w2.heap.size := hC.lt
  have hrl : w1.heap.size + 1 < w2.heap.size := hR.lt
  generalize playTo l (min n 400) = cs at *
  clear hb1 hb2
  generalize w1.heap.size = g at *
  go_wp2_with fail
  refine (counts_c g cs _ hC hlen hkin).mono ?_
  rintro _ w3 ⟨rfl, hA3, hb3⟩
  have hC3 := hC.below hb3 hgl
  have R3 := R2.trans (hb3.mono R2.size)
  have ha3 := hA3.lt
  clear hb3 hC hR R2
  generalize w2.heap.size = b1 at *
  go_wp2_with fail
  refine (get_c g cs i _ hC3 hlen hkin).mono ?_
  rintro _ w4 ⟨rfl, hw⟩
  rw [hw]
  clear hw w4
  go_wp2_with fail
  refine (set_c g cs i k _ hC3 hlen).mono ?_
  rw [(okSet_yes hok cs).1, (okSet_yes hok cs).2]
  rintro _ w4 ⟨rfl, hC4, ho4⟩
  have hA4 := hA3.only ho4 (by omega)
  have R4 := R3.trans (ho4.below hg)
  have ha4 : b1 < w4.heap.size := hA4.lt
  have hlen2 : (cs.set i.toNat k).length = 32768 := by rw [List.length_set, hlen]
  have hkin2 : Kinds (cs.set i.toNat k) := hkin.set _ hok.2.2.1 hok.2.2.2
  clear hA3 hC3 ho4 R3 ha3
  go_wp2_with fail
  refine (counts_c g _ _ hC4 hlen2 hkin2).mono ?_
  rintro _ w5 ⟨rfl, hB5, hb5⟩
  have hA5 := hA4.below hb5 ha4
  have R5 := R4.trans (hb5.mono R4.size)
  clear hA4 hb5 R4 hC4
  have H17 : Hid (sumL (cntTo (cs.set i.toNat k) 32768) 17 = 32768) := sumL_all hkin2
  have Hin1 : Hid (∀ j, j < 17 → 0 ≤ (cntTo cs 32768).getD j 0 ∧ (cntTo cs 32768).getD j 0 ≤ 32768) := fun j hj => cntTo_at cs 32768 j hj
  have Hin2 : Hid (∀ j, j < 17 → 0 ≤ (cntTo (cs.set i.toNat k) 32768).getD j 0 ∧ (cntTo (cs.set i.toNat k) 32768).getD j 0 ≤ 32768) := fun j hj => cntTo_at _ 32768 j hj
  have Hsum : Hid (∀ m, m ≤ 17 → 0 ≤ sumL (cntTo (cs.set i.toNat k) 32768) m ∧ sumL (cntTo (cs.set i.toNat k) 32768) m ≤ m * 32768) := sumL_in Hin2.out
  have Hd : Hid (∀ j : Nat, j < 17 → (cntTo (cs.set i.toNat k) 32768).getD j 0 = (cntTo cs 32768).getD j 0 - (if getC cs i = (j : Int) then 1 else 0) + (if k = (j : Int) then 1 else 0)) := fun j hj => by
    rw [cntTo_cnt _ hkin2 j hj, cntTo_cnt cs hkin j hj, cnt_set cs i.toNat k j (by omega) 32768 (by omega)]
    unfold getC
    rw [if_pos (show 0 ≤ i ∧ i < 32768 by omega)]
  have hl1 := cntTo_length cs 32768
  have hl2 := cntTo_length (cs.set i.toNat k) 32768
  generalize getC cs i = W at *
  generalize cntTo (cs.set i.toNat k) 32768 = N2 at *
  generalize cntTo cs 32768 = N1 at *
  generalize w4.heap.size = b2 at *
  go_wp2
  go_loop [15, 16] (fun s j => ∃ m : Nat, m ≤ 17 ∧ j = .int .i64 (m : Int) ∧ s = .int .i64 (sumL N2 m)) (fun _ j => 17 - (intOf j).toNat)
  case atStart => exact ⟨0, by omega, rfl, rfl⟩
  case round =>
    obtain ⟨m, hm, rfl, rfl⟩ := hrel
    by_cases hlt : m < 17
    · have hlt' : (m : Int) < 17 := by omega
      have c1 := hA5.cell (k := m) (by omega)
      have c2 := hB5.cell (k := m) (by omega)
      have HS : Hid (sumL N2 (m + 1) = sumL N2 m + N2.getD m 0) := rfl
      obtain ⟨y0, y1⟩ := Hin2.out m hlt
      obtain ⟨s0, s1⟩ := Hsum.out m hm
      have HD : Hid (N2.getD m 0 = N1.getD m 0 - (if W = (m : Int) then 1 else 0) + (if k = (m : Int) then 1 else 0)) := Hd.out m hlt
      obtain ⟨x0, x1⟩ := Hin1.out m hlt
      generalize N2.getD m 0 = y at *
      generalize N1.getD m 0 = x at *
      generalize sumL N2 m = s at *
      by_cases e1 : (m : Int) = W
      · by_cases e2 : (m : Int) = k
        · have f1 : ((m : Int) == W) = true := by simp [e1]
          have f2 : ((m : Int) == k) = true := by simp [e2]
          have ey : y = x - 1 + 1 := by rw [HD.out, if_pos e1.symm, if_pos e2.symm]
          clear e1 e2 HD
          subst ey
          go_wp2
          go_round
          case rel => exact ⟨m + 1, by omega, by go_num, by rw [HS.out]; first | done | (congr 1; omega)⟩
          case measure => simp [intOf]; omega
        · have f1 : ((m : Int) == W) = true := by simp [e1]
          have f2 : ((m : Int) == k) = false := by simp [e2]
          have ey : y = x - 1 := by rw [HD.out, if_pos e1.symm, if_neg (Ne.symm e2)]; omega
          clear e1 e2 HD
          subst ey
          go_wp2
          go_round
          case rel => exact ⟨m + 1, by omega, by go_num, by rw [HS.out]; first | done | (congr 1; omega)⟩
          case measure => simp [intOf]; omega
      · by_cases e2 : (m : Int) = k
        · have f1 : ((m : Int) == W) = false := by simp [e1]
          have f2 : ((m : Int) == k) = true := by simp [e2]
          have ey : y = x + 1 := by rw [HD.out, if_neg (Ne.symm e1), if_pos e2.symm]; omega
          clear e1 e2 HD
          subst ey
          go_wp2
          go_round
          case rel => exact ⟨m + 1, by omega, by go_num, by rw [HS.out]; first | done | (congr 1; omega)⟩
          case measure => simp [intOf]; omega
        · have f1 : ((m : Int) == W) = false := by simp [e1]
          have f2 : ((m : Int) == k) = false := by simp [e2]
          have ey : y = x := by rw [HD.out, if_neg (Ne.symm e1), if_neg (Ne.symm e2)]; omega
          clear e1 e2 HD
          subst ey
          go_wp2
          go_round
          case rel => exact ⟨m + 1, by omega, by go_num, by rw [HS.out]; first | done | (congr 1; omega)⟩
          case measure => simp [intOf]; omega
    · obtain rfl : m = 17 := by omega
      rw [H17.out]
      go_wp2
      go_ret
      exact ⟨rfl, R5⟩
theorem chunkCounts_walk (p : Option Addr) (n cap : Nat) (l : List Op4) (i k : Int) (w : World) (hO : Ops w p n l) :
    Calls Try.prog 3 #[.slice p n cap, .int .i64 i, .int .i64 k] w fun e w' => e = .returned (.bool true) ∧ Below w.heap.size w w' := by
  by_cases hok : 0 ≤ i ∧ i < 32768 ∧ 0 ≤ k ∧ k ≤ 16
  · exact chunkCounts_yes p n cap l i k w hO hok
  · exact chunkCounts_no p n cap l i k w hO hok

set_option maxRecDepth 100000 in
theorem chunkCounts_lifted (os : Os) (started : os.Started) (H : Type) (enc : TypeId × Value → H) :
    ReturnsInHanded {} Try.checked os 3 .any (Rows.chunkCountsSpec.pre6 enc Try.prog Try.f3 Rows.chunkCountsRow.domain false) (Rows.chunkCountsSpec.post enc Try.prog Try.f3 false true false false) := by
  refine returnsInHanded_of_change (C := Try.checked) own started (by kernel_rfl) Try.func3
    (ChangeSpec.witness6 (enc := enc) (C := Try.checked) false ⟨#[], #[.slice none 0 0, .int .i64 0, .int .i64 0], []⟩ 8 (by kernel_rfl) (by kernel_rfl) (by kernel_rfl) (by kernel_rfl)) ?_
  intro W base args ds gs before hval0 hW _ _
  have hval : ∀ (j : Nat) t v, Try.f3.params[j]? = some t → args[j]? = some v → Value.okWide Try.prog W .any base t v := hval0
  have hW' := hW
  obtain ⟨p, q, hA0, hV, rfl, hfz, hnd⟩ := hW
  have hA : DataW.TrodAll enc Try.prog W 0 (fun _ => true) true Try.f3.params.toList args.toList ds p := hA0
  rw [Try.params3] at hA hval
  obtain ⟨v0, vs0, d0, ds0, p0, q0, hargs, rfl, rfl, h0, r0⟩ := trodAll_cons hA
  obtain ⟨v1, vs1, d1, ds1, p1, q1, rfl, rfl, rfl, h1, r1⟩ := trodAll_cons r0
  obtain ⟨v2, vs2, d2, ds2, p2, q2, rfl, rfl, rfl, h2, r2⟩ := trodAll_cons r1
  obtain ⟨rfl, rfl, rfl⟩ := trodAll_nil r2
  obtain rfl : args = #[v0, v1, v2] := by cases args; simp_all
  obtain ⟨rfl, rfl⟩ := trodVars_none hV
  obtain ⟨a_l, len_l, cap_l, rfl⟩ := okWide_slice Try.underlying22 (hval 0 22 v0 rfl rfl)
  have lt0 : ∀ x ∈ p0, x.block < W.heap.size := by obtain ⟨m, hm⟩ := h0; exact DataW.trod_lt m _ _ _ hm
  obtain ⟨l_l, O_l⟩ := open_ops h0
  obtain ⟨i, rfl, rfl, rfl, w_i⟩ := open_int Try.underlying3 (hval 1 3 v1 rfl rfl) h1
  obtain ⟨k, rfl, rfl, rfl, w_k⟩ := open_int Try.underlying3 (hval 2 3 v2 rfl rfl) h2
  clear hA0 hval0
  refine (chunkCounts_walk a_l len_l cap_l l_l i k W O_l).mono fun e W' ⟨he, bel⟩ => ?_
  subst he
  exact ⟨_, rfl, _, _, _, [], _, [], hW', trodAll_mk1 (shut_bool Try.underlying4 _), (trodAll_cons_mk (Below.trod laidOut (by kernel_rfl) (of_decide_eq_true (by kernel_rfl)) h0 bel lt0) (trodAll_cons_mk (shut_int Try.underlying3 w_i) (trodAll_cons_mk (shut_int Try.underlying3 w_k) trodAll_mk0))), rfl, bel.frame _, fun h => by cases h⟩

theorem chunkCounts_holds : Rows.ChunkCountsSaid :=
  OpenClaim.holds_of_wide 3 Try.f3 rfl rfl rfl rfl rfl rfl rfl ⟨rfl, rfl, rfl, rfl, rfl⟩ rfl rfl rfl rfl rfl (by kernel_rfl) Try.func3 (by kernel_rfl)
    (of_decide_eq_true (by kernel_rfl)) (by unfold Func.isWrapper; rw [if_neg (of_decide_eq_false (by kernel_rfl))]; exact ⟨rfl, rfl⟩)
    (fun os started H enc _ => chunkCounts_lifted os started H enc)
#print axioms chunkCounts_holds
end Go.Proofs.Ytdmogocnagbobab
