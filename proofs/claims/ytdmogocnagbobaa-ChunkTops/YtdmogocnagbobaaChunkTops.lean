/-
  ChunkTopsSaid is proved: for every slice of calls and all integers the statement ChunkTops returns true, without any condition.
-/
import Derived.Test.YtdmogocnagbobaaFrame
namespace Go.Proofs.Ytdmogocnagbobaa
open Go.ChangeShapes Go.WideShapes Go.ChangeAt Go.RowKit

set_option maxRecDepth 100000 in
set_option maxHeartbeats 1000000 in
theorem chunkTops_in (p : Option Addr) (n cap : Nat) (l : List Op4) (X Z : Nat) (hx : X ≤ 15) (hz : Z ≤ 15) (w : World) (hO : Ops w p n l) :
    Calls Try.prog 8 #[.slice p n cap, .int .i64 (X : Int), .int .i64 (Z : Int)] w fun e w' => e = .returned (.bool true) ∧ Below w.heap.size w w' := by
  have n0 : ¬ (X : Int) < 0 := by omega
  have n1 : ¬ (15 < (X : Int)) := by omega
  have n2 : ¬ (Z : Int) < 0 := by omega
  have n3 : ¬ (15 < (Z : Int)) := by omega
  go_enter Try.func8, Try.ntmps8
  go_wp2_with fail
  refine (awake_c w).mono ?_
  rintro _ w1 ⟨rfl, hb1⟩
  go_wp2_with fail
  refine (plays_c p n cap l w1 (hO.on hb1)).mono ?_
  rintro _ w2 ⟨rfl, hC, hR, hb2⟩
  have R2 := hb1.trans (hb2.mono hb1.size)
  have hlen := playTo_length l (min n 400)
  have hkin := playTo_kinds l (min n 400)
  have hg : w.heap.size ≤ w1.heap.size := hb1.size
  have hgl : w1.heap.size < w2.heap.size := hC.lt
  have hrl : w1.heap.size + 1 < w2.heap.size := hR.lt
  generalize playTo l (min n 400) = cs at *
  clear hb1 hb2
  generalize w1.heap.size = g at *
  obtain ⟨t0, t1⟩ := topTo_lo cs (Z * 16 + X) 128
  have HA : Hid (∀ m : Nat, topTo cs (Z * 16 + X) 128 < m → m < 128 → cs.getD (m * 256 + (Z * 16 + X)) 0 = 0 ∨ cs.getD (m * 256 + (Z * 16 + X)) 0 = 16) := topTo_above cs (Z * 16 + X) 128
  have HT : Hid (∀ t : Nat, topTo cs (Z * 16 + X) 128 = t → ¬ (cs.getD (t * 256 + (Z * 16 + X)) 0 = 0 ∨ cs.getD (t * 256 + (Z * 16 + X)) 0 = 16)) := topTo_at cs (Z * 16 + X) 128
  have htop := top_c g cs X Z w2 hC hlen
  rw [topC_yes ⟨hx, hz⟩ cs] at htop
  generalize topTo cs (Z * 16 + X) 128 = T at *
  have t1' : T < 128 := by omega
  have t2' : ¬ T < -1 := by omega
  have t3' : ¬ 128 ≤ T := by omega
  go_wp2_with fail
  refine htop.mono ?_
  clear htop
  rintro _ w3 ⟨rfl, hw⟩
  rw [hw]
  clear hw w3
  go_wp2
  go_loop [12] (fun y => ∃ m : Nat, T < m ∧ m ≤ 128 ∧ y = .int .i64 m) (fun y => 128 - (intOf y).toNat)
  case atStart => exact ⟨(T + 1).toNat, by omega, by omega, by rw [Int.toNat_of_nonneg (by omega)]⟩
  case round =>
    obtain ⟨m, hm, hm2, rfl⟩ := hrel
    by_cases hlt : m < 128
    · have hlt' : (m : Int) < 128 := by omega
      obtain ⟨J, hJ⟩ : ∃ J : Nat, J = m * 256 + (Z * 16 + X) := ⟨_, rfl⟩
      have hJ' : (m : Int) * 256 + (Z : Int) * 16 + X = J := by omega
      have hv := HA.out m hm hlt
      rw [← hJ] at hv
      have hget := get_c g cs J w2 hC hlen hkin
      unfold getC at hget
      rw [if_pos (by omega), Int.toNat_natCast] at hget
      generalize cs.getD J 0 = v at hget hv
      clear HA HT hJ
      rcases hv with rfl | rfl
      · go_wp2_with fail
        refine hget.mono ?_
        clear hget
        rintro _ w3 ⟨rfl, hw⟩
        rw [hw]
        clear hw w3
        go_wp2
        go_round
        case rel => exact ⟨m + 1, by omega, by omega, by go_num⟩
        case measure => simp [intOf]; omega
      · go_wp2_with fail
        refine hget.mono ?_
        clear hget
        rintro _ w3 ⟨rfl, hw⟩
        rw [hw]
        clear hw w3
        go_wp2
        go_round
        case rel => exact ⟨m + 1, by omega, by omega, by go_num⟩
        case measure => simp [intOf]; omega
    · obtain rfl : m = 128 := by omega
      by_cases hT : T = -1
      · subst hT
        have hJ' : (-1 : Int) * 256 + (Z : Int) * 16 + X = (Z : Int) * 16 + X - 256 := by omega
        have hget := get_c g cs ((Z : Int) * 16 + X - 256) w2 hC hlen hkin
        unfold getC at hget
        rw [if_neg (by omega)] at hget
        clear HA HT
        go_wp2_with fail
        rw [show (-256 : Int) + (Z : Int) * 16 + X = (Z : Int) * 16 + X - 256 by omega]
        refine hget.mono ?_
        clear hget
        rintro _ w3 ⟨rfl, hw⟩
        rw [hw]
        clear hw w3
        go_wp2
        go_ret
        exact ⟨rfl, R2⟩
      · obtain ⟨t, rfl⟩ := Int.eq_ofNat_of_zero_le (show 0 ≤ T by omega)
        obtain ⟨J, hJ⟩ : ∃ J : Nat, J = t * 256 + (Z * 16 + X) := ⟨_, rfl⟩
        have hJ' : (t : Int) * 256 + (Z : Int) * 16 + X = J := by omega
        have hv := HT.out t rfl
        rw [← hJ] at hv
        have hget := get_c g cs J w2 hC hlen hkin
        unfold getC at hget
        rw [if_pos (by omega), Int.toNat_natCast] at hget
        generalize cs.getD J 0 = v at hget hv
        have b0 : (v != 0) = true := by simp; omega
        have b1 : (v != 16) = true := by simp; omega
        have b2 : ((t : Int) == -1) = false := by simp
        clear HA HT hv hT hJ
        go_wp2_with fail
        refine hget.mono ?_
        clear hget
        rintro _ w3 ⟨rfl, hw⟩
        rw [hw]
        clear hw w3
        go_wp2
        go_ret
        exact ⟨rfl, R2⟩

set_option maxRecDepth 100000 in
set_option maxHeartbeats 1000000 in
theorem chunkTops_walk (p : Option Addr) (n cap : Nat) (l : List Op4) (x z : Int) (w : World) (hO : Ops w p n l) :
    Calls Try.prog 8 #[.slice p n cap, .int .i64 x, .int .i64 z] w fun e w' => e = .returned (.bool true) ∧ Below w.heap.size w w' := by
  by_cases x0 : x < 0
  · go_enter Try.func8, Try.ntmps8
    go_wp2_with fail
    refine (awake_c w).mono ?_
    rintro _ w1 ⟨rfl, hb1⟩
    go_wp2_with fail
    refine (plays_c p n cap l w1 (hO.on hb1)).mono ?_
    rintro _ w2 ⟨rfl, hC, hR, hb2⟩
    have R2 := hb1.trans (hb2.mono hb1.size)
    have hlen := playTo_length l (min n 400)
    have hkin := playTo_kinds l (min n 400)
    have hg : w.heap.size ≤ w1.heap.size := hb1.size
    have hgl : w1.heap.size < w2.heap.size := hC.lt
    have hrl : w1.heap.size + 1 < w2.heap.size := hR.lt
    generalize playTo l (min n 400) = cs at *
    clear hb1 hb2
    generalize w1.heap.size = g at *
    go_wp2_with fail
    refine (top_c g cs x z _ hC hlen).mono ?_
    rw [topC_no (by omega) cs]
    rintro _ w3 ⟨rfl, hw⟩
    rw [hw]
    clear hw w3
    go_wp2
    go_ret
    exact ⟨rfl, R2⟩
  · by_cases x1 : 15 < x
    · go_enter Try.func8, Try.ntmps8
      go_wp2_with fail
      refine (awake_c w).mono ?_
      rintro _ w1 ⟨rfl, hb1⟩
      go_wp2_with fail
      refine (plays_c p n cap l w1 (hO.on hb1)).mono ?_
      rintro _ w2 ⟨rfl, hC, hR, hb2⟩
      have R2 := hb1.trans (hb2.mono hb1.size)
      have hlen := playTo_length l (min n 400)
      have hkin := playTo_kinds l (min n 400)
      have hg : w.heap.size ≤ w1.heap.size := hb1.size
      have hgl : w1.heap.size < w2.heap.size := hC.lt
      have hrl : w1.heap.size + 1 < w2.heap.size := hR.lt
      generalize playTo l (min n 400) = cs at *
      clear hb1 hb2
      generalize w1.heap.size = g at *
      go_wp2_with fail
      refine (top_c g cs x z _ hC hlen).mono ?_
      rw [topC_no (by omega) cs]
      rintro _ w3 ⟨rfl, hw⟩
      rw [hw]
      clear hw w3
      go_wp2
      go_ret
      exact ⟨rfl, R2⟩
    · by_cases z0 : z < 0
      · go_enter Try.func8, Try.ntmps8
        go_wp2_with fail
        refine (awake_c w).mono ?_
        rintro _ w1 ⟨rfl, hb1⟩
        go_wp2_with fail
        refine (plays_c p n cap l w1 (hO.on hb1)).mono ?_
        rintro _ w2 ⟨rfl, hC, hR, hb2⟩
        have R2 := hb1.trans (hb2.mono hb1.size)
        have hlen := playTo_length l (min n 400)
        have hkin := playTo_kinds l (min n 400)
        have hg : w.heap.size ≤ w1.heap.size := hb1.size
        have hgl : w1.heap.size < w2.heap.size := hC.lt
        have hrl : w1.heap.size + 1 < w2.heap.size := hR.lt
        generalize playTo l (min n 400) = cs at *
        clear hb1 hb2
        generalize w1.heap.size = g at *
        go_wp2_with fail
        refine (top_c g cs x z _ hC hlen).mono ?_
        rw [topC_no (by omega) cs]
        rintro _ w3 ⟨rfl, hw⟩
        rw [hw]
        clear hw w3
        go_wp2
        go_ret
        exact ⟨rfl, R2⟩
      · by_cases z1 : 15 < z
        · go_enter Try.func8, Try.ntmps8
          go_wp2_with fail
          refine (awake_c w).mono ?_
          rintro _ w1 ⟨rfl, hb1⟩
          go_wp2_with fail
          refine (plays_c p n cap l w1 (hO.on hb1)).mono ?_
          rintro _ w2 ⟨rfl, hC, hR, hb2⟩
          have R2 := hb1.trans (hb2.mono hb1.size)
          have hlen := playTo_length l (min n 400)
          have hkin := playTo_kinds l (min n 400)
          have hg : w.heap.size ≤ w1.heap.size := hb1.size
          have hgl : w1.heap.size < w2.heap.size := hC.lt
          have hrl : w1.heap.size + 1 < w2.heap.size := hR.lt
          generalize playTo l (min n 400) = cs at *
          clear hb1 hb2
          generalize w1.heap.size = g at *
          go_wp2_with fail
          refine (top_c g cs x z _ hC hlen).mono ?_
          rw [topC_no (by omega) cs]
          rintro _ w3 ⟨rfl, hw⟩
          rw [hw]
          clear hw w3
          go_wp2
          go_ret
          exact ⟨rfl, R2⟩
        · obtain ⟨X, rfl⟩ := Int.eq_ofNat_of_zero_le (show 0 ≤ x by omega)
          obtain ⟨Z, rfl⟩ := Int.eq_ofNat_of_zero_le (show 0 ≤ z by omega)
          exact chunkTops_in p n cap l X Z (by omega) (by omega) w hO

set_option maxRecDepth 100000 in
theorem chunkTops_lifted (os : Os) (started : os.Started) (H : Type) (enc : TypeId × Value → H) :
    ReturnsInHanded {} Try.checked os 8 .any (Rows.chunkTopsSpec.pre6 enc Try.prog Try.f8 Rows.chunkTopsRow.domain false) (Rows.chunkTopsSpec.post enc Try.prog Try.f8 false true false false) := by
  refine returnsInHanded_of_change (C := Try.checked) own started (by kernel_rfl) Try.func8
    (ChangeSpec.witness6 (enc := enc) (C := Try.checked) false ⟨#[], #[.slice none 0 0, .int .i64 0, .int .i64 0], []⟩ 8 (by kernel_rfl) (by kernel_rfl) (by kernel_rfl) (by kernel_rfl)) ?_
  intro W base args ds gs before hval0 hW _ _
  have hval : ∀ (j : Nat) t v, Try.f8.params[j]? = some t → args[j]? = some v → Value.okWide Try.prog W .any base t v := hval0
  have hW' := hW
  obtain ⟨p, q, hA0, hV, rfl, hfz, hnd⟩ := hW
  have hA : DataW.TrodAll enc Try.prog W 0 (fun _ => true) true Try.f8.params.toList args.toList ds p := hA0
  rw [Try.params8] at hA hval
  obtain ⟨v0, vs0, d0, ds0, p0, q0, hargs, rfl, rfl, h0, r0⟩ := trodAll_cons hA
  obtain ⟨v1, vs1, d1, ds1, p1, q1, rfl, rfl, rfl, h1, r1⟩ := trodAll_cons r0
  obtain ⟨v2, vs2, d2, ds2, p2, q2, rfl, rfl, rfl, h2, r2⟩ := trodAll_cons r1
  obtain ⟨rfl, rfl, rfl⟩ := trodAll_nil r2
  obtain rfl : args = #[v0, v1, v2] := by cases args; simp_all
  obtain ⟨rfl, rfl⟩ := trodVars_none hV
  obtain ⟨a_l, len_l, cap_l, rfl⟩ := okWide_slice Try.underlying22 (hval 0 22 v0 rfl rfl)
  have lt0 : ∀ x ∈ p0, x.block < W.heap.size := by obtain ⟨m, hm⟩ := h0; exact DataW.trod_lt m _ _ _ hm
  obtain ⟨l_l, O_l⟩ := open_ops h0
  obtain ⟨x, rfl, rfl, rfl, w_x⟩ := open_int Try.underlying3 (hval 1 3 v1 rfl rfl) h1
  obtain ⟨z, rfl, rfl, rfl, w_z⟩ := open_int Try.underlying3 (hval 2 3 v2 rfl rfl) h2
  clear hA0 hval0
  refine (chunkTops_walk a_l len_l cap_l l_l x z W O_l).mono fun e W' ⟨he, bel⟩ => ?_
  subst he
  exact ⟨_, rfl, _, _, _, [], _, [], hW', trodAll_mk1 (shut_bool Try.underlying4 _), (trodAll_cons_mk (Below.trod laidOut (by kernel_rfl) (of_decide_eq_true (by kernel_rfl)) h0 bel lt0) (trodAll_cons_mk (shut_int Try.underlying3 w_x) (trodAll_cons_mk (shut_int Try.underlying3 w_z) trodAll_mk0))), rfl, bel.frame _, fun h => by cases h⟩

theorem chunkTops_holds : Rows.ChunkTopsSaid :=
  OpenClaim.holds_of_wide 8 Try.f8 rfl rfl rfl rfl rfl rfl rfl ⟨rfl, rfl, rfl, rfl, rfl⟩ rfl rfl rfl rfl rfl (by kernel_rfl) Try.func8 (by kernel_rfl)
    (of_decide_eq_true (by kernel_rfl)) (by unfold Func.isWrapper; rw [if_neg (of_decide_eq_false (by kernel_rfl))]; exact ⟨rfl, rfl⟩)
    (fun os started H enc _ => chunkTops_lifted os started H enc)
#print axioms chunkTops_holds
end Go.Proofs.Ytdmogocnagbobaa
