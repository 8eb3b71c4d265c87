/-
  GridRings: the chunks near one are all that are so near, each once.
-/
import Derived.Test.YtbodopfghejoiabFrame
namespace Go.Proofs.Ytbodopfghejoiab
open Go.ChangeShapes Go.WideShapes Go.ChangeAt Go.RowKit Go.BigFrame

theorem near_at (r : Int) (S M I : Nat) (hI : I < S) (hM : M < S) : cellAt (-r) 0 (-r) S S (M * S + I) = ⟨-r + I, 0, -r + M⟩ := by
  have := cellAt_of (-r) 0 (-r) S S I M 0 hI hM
  simpa using this
theorem nearL_eq (r : Int) (h0 : 0 ≤ r) (h8 : r ≤ 8) : nearL r = upto (-r) 0 (-r) (2 * r + 1).toNat (2 * r + 1).toNat ((2 * r + 1).toNat * (2 * r + 1).toNat) := by
  have e : sideN (-r) r = (((2 * r + 1).toNat : Nat) : Int) := by unfold sideN; rw [if_pos (by omega)]; omega
  unfold nearL boxL
  rw [show boxN (-r) 0 (-r) r 0 r = nearN r from rfl, (near_count r h0 h8).2.1, e, Int.toNat_natCast]
theorem upto_get (a1 a2 a3 : Int) (S1 S3 n k : Nat) (h : k < n) : (upto a1 a2 a3 S1 S3 n)[k]? = some (cellAt a1 a2 a3 S1 S3 k) := by
  unfold upto
  rw [List.getElem?_map, List.getElem?_range h]
  rfl
theorem flatN_get (cx cz : Int) : ∀ (l : List P3) (k : Nat) (p : P3), l[k]? = some p → (flatN cx cz l)[k * 2]? = some (.int .i64 (wrap64 (cx + p.x))) ∧ (flatN cx cz l)[k * 2 + 1]? = some (.int .i64 (wrap64 (cz + p.z)))
  | [], k, p, h => by simp at h
  | q :: l, 0, p, h => by
    simp at h
    subst h
    exact ⟨rfl, rfl⟩
  | q :: l, k + 1, p, h => by
    have := flatN_get cx cz l k p (by simpa using h)
    have e : flatN cx cz (q :: l) = .int .i64 (wrap64 (cx + q.x)) :: .int .i64 (wrap64 (cz + q.z)) :: flatN cx cz l := by simp [flatN]
    rw [e, show (k + 1) * 2 = k * 2 + 1 + 1 by omega]
    simpa using this
/-- A step's place in the list: there is just one if the step is short enough, and else none. -/
theorem ring_place (r : Int) (h0 : 0 ≤ r) (h8 : r ≤ 8) (K : Nat) (hK : K < nearN r) :
    ∃ p, (nearL r)[K]? = some p ∧ (-8 ≤ p.x ∧ p.x ≤ 8) ∧ (-8 ≤ p.z ∧ p.z ≤ 8) ∧ (-r ≤ p.x ∧ p.x ≤ r) ∧ (-r ≤ p.z ∧ p.z ≤ r) ∧ (K : Int) = (p.z + r) * (2 * r + 1) + (p.x + r) := by
  rw [(near_count r h0 h8).2.1] at hK
  rw [nearL_eq r h0 h8]
  generalize hS0 : (2 * r + 1).toNat = S at hK ⊢
  have hS : (S : Int) = 2 * r + 1 := by omega
  obtain ⟨M, I, hM, hI, rfl⟩ : ∃ M I, M < S ∧ I < S ∧ K = M * S + I :=
    ⟨K / S, K % S, Nat.div_lt_of_lt_mul hK, Nat.mod_lt _ (by omega), by rw [Nat.mul_comm]; exact (Nat.div_add_mod K S).symm⟩
  refine ⟨_, upto_get _ _ _ _ _ _ _ hK, ?_⟩
  rw [near_at r S _ _ hI hM]
  simp only
  refine ⟨by omega, by omega, by omega, by omega, ?_⟩
  rw [show -r + (M : Int) + r = M by omega, show -r + (I : Int) + r = I by omega, ← hS]
  simp
theorem wrap_near {n d : Int} (h : -1099511627776 ≤ n ∧ n ≤ 1099511627776) (hd : -8 ≤ d ∧ d ≤ 8) : wrap64 (n + d) = n + d := by unfold wrap64; omega
theorem ownsRow_len {W : World} {b e size k : Nat} {v : Value} {xs : List Value} (h : W.ownsRow b e size v k xs) (hk : 0 < k) : ∃ g cap, v = .slice (some ⟨g, 0, none⟩) k cap := by
  rcases h.2 with ⟨_, h0⟩ | ⟨g, cap, _, rfl, _⟩
  · omega
  · exact ⟨g, cap, rfl⟩
/-- What a row holds is there in every later world. -/
theorem ownsRow_below {W W' : World} {b e size k : Nat} {v : Value} {xs : List Value} (h : W.ownsRow b e size v k xs) (hB : Below W.heap.size W W') : W'.ownsRow b e size v k xs := by
  refine ⟨h.1, ?_⟩
  rcases h.2 with h0 | ⟨g, cap, cur, hv, hg, hb, rest⟩
  · exact .inl h0
  · exact .inr ⟨g, cap, cur, hv, hg, (hB.block g (Array.getElem?_eq_some_iff.1 hb).1).trans hb, rest⟩
theorem place_inj {S m i m' i' : Int} (h : 0 ≤ i ∧ i < S) (h' : 0 ≤ i' ∧ i' < S) (e : m * S + i = m' * S + i') : m = m' ∧ i = i' := by
  have k : ∀ a b c d : Int, 0 ≤ c → c < S → 0 ≤ d → d < S → a * S + c = b * S + d → ¬ a < b := fun a b c d _ hc _ _ he hl => by
    have : (a + 1) * S ≤ b * S := Int.mul_le_mul_of_nonneg_right (by omega) (by omega)
    rw [Int.add_mul] at this
    omega
  have h1 := k m m' i i' h.1 h.2 h'.1 h'.2 e
  have h2 := k m' m i' i h'.1 h'.2 h.1 h.2 e.symm
  have h3 : m = m' := by omega
  subst h3
  exact ⟨rfl, by omega⟩
def ring (x z r : Int) : Prop := -r ≤ x ∧ x ≤ r ∧ -r ≤ z ∧ z ≤ r
instance (x z r : Int) : Decidable (ring x z r) := by unfold ring; infer_instance
/-- How often a step is among the first K. -/
def cntR (x z r : Int) (K : Nat) : Int := if ring x z r ∧ (z + r) * (2 * r + 1) + (x + r) < K then 1 else 0
theorem cnt_zero (x z r : Int) (h0 : 0 ≤ r) : cntR x z r 0 = 0 := by
  unfold cntR
  refine if_neg fun h => ?_
  have hr := h.1
  unfold ring at hr
  have : 0 ≤ (z + r) * (2 * r + 1) := Int.mul_nonneg (by omega) (by omega)
  omega
theorem cnt_hit (x z r : Int) (K : Nat) (hx : -r ≤ x ∧ x ≤ r) (hz : -r ≤ z ∧ z ≤ r) (e : (K : Int) = (z + r) * (2 * r + 1) + (x + r)) : cntR x z r K = 0 ∧ cntR x z r (K + 1) = 1 := by
  unfold cntR
  exact ⟨if_neg fun h => by omega, if_pos ⟨⟨hx.1, hx.2, hz.1, hz.2⟩, by omega⟩⟩
theorem cnt_miss (x z r px pz : Int) (K : Nat) (hx : -r ≤ px ∧ px ≤ r) (e : (K : Int) = (pz + r) * (2 * r + 1) + (px + r)) (h : ¬ (px = x ∧ pz = z)) : cntR x z r (K + 1) = cntR x z r K := by
  unfold cntR
  by_cases hr : ring x z r
  · have hn : (z + r) * (2 * r + 1) + (x + r) ≠ K := fun e' => by
      have hr' := hr
      unfold ring at hr'
      have := place_inj (S := 2 * r + 1) (m := z + r) (i := x + r) (m' := pz + r) (i' := px + r) (by omega) (by omega) (by omega)
      exact h (by omega)
    by_cases hl : (z + r) * (2 * r + 1) + (x + r) < (K : Int)
    · rw [if_pos ⟨hr, by omega⟩, if_pos ⟨hr, hl⟩]
    · rw [if_neg (fun h => by omega), if_neg (fun h => by omega)]
  · rw [if_neg (fun h => hr h.1), if_neg (fun h => hr h.1)]
theorem cnt_end (x z r : Int) (N : Nat) (hN : (N : Int) = (2 * r + 1) * (2 * r + 1)) (h0 : 0 ≤ r) : cntR x z r N = if ring x z r then 1 else 0 := by
  unfold cntR
  by_cases hr : ring x z r
  · rw [if_pos hr]
    refine if_pos ⟨hr, ?_⟩
    unfold ring at hr
    have : (z + r + 1) * (2 * r + 1) ≤ (2 * r + 1) * (2 * r + 1) := Int.mul_le_mul_of_nonneg_right (by omega) (by omega)
    rw [Int.add_mul (z + r) 1] at this
    omega
  · rw [if_neg hr]
    exact if_neg fun h => hr h.1

set_option maxRecDepth 100000 in
set_option maxHeartbeats 8000000 in
theorem gridRings_any (cx cz r x z : Int) (w : World) : Calls Try.prog 4 #[.agg #[.int .i64 cx, .int .i64 cz], .int .i64 r, .int .i64 x, .int .i64 z] w fun e w' => e = .returned (.bool true) ∧ Below w.heap.size w w' := by
  by_cases c0 : 0 ≤ r
  case neg =>
    go_enter Try.func4, Try.ntmps4
    go_wp2_with fail
    refine (awake_c _).mono ?_
    rintro e w1 ⟨rfl, hw1⟩
    have HB1 : Hid (Below w.heap.size w w1) := ((Below.refl _ w).alloc (Nat.le_refl _) _).trans (hw1.mono (by simp))
    have hX1 := (hw1.block w.heap.size (by simp)).trans (heap_alloc_new w _)
    have k0 := (cell_of_row w1 w.heap.size 0 _ 32 (0, 0) hX1).trans rfl
    have k1 := (cell_of_row w1 w.heap.size 1 _ 32 (0, 0) hX1).trans rfl
    clear hw1
    go_wp2
    go_ret
    exact ⟨rfl, HB1.out⟩
  by_cases c1 : r ≤ 8
  case neg =>
    go_enter Try.func4, Try.ntmps4
    go_wp2_with fail
    refine (awake_c _).mono ?_
    rintro e w1 ⟨rfl, hw1⟩
    have HB1 : Hid (Below w.heap.size w w1) := ((Below.refl _ w).alloc (Nat.le_refl _) _).trans (hw1.mono (by simp))
    have hX1 := (hw1.block w.heap.size (by simp)).trans (heap_alloc_new w _)
    have k0 := (cell_of_row w1 w.heap.size 0 _ 32 (0, 0) hX1).trans rfl
    have k1 := (cell_of_row w1 w.heap.size 1 _ 32 (0, 0) hX1).trans rfl
    clear hw1
    go_wp2
    go_ret
    exact ⟨rfl, HB1.out⟩
  by_cases c2 : -1099511627776 ≤ cx
  case neg =>
    go_enter Try.func4, Try.ntmps4
    go_wp2_with fail
    refine (awake_c _).mono ?_
    rintro e w1 ⟨rfl, hw1⟩
    have HB1 : Hid (Below w.heap.size w w1) := ((Below.refl _ w).alloc (Nat.le_refl _) _).trans (hw1.mono (by simp))
    have hX1 := (hw1.block w.heap.size (by simp)).trans (heap_alloc_new w _)
    have k0 := (cell_of_row w1 w.heap.size 0 _ 32 (0, 0) hX1).trans rfl
    have k1 := (cell_of_row w1 w.heap.size 1 _ 32 (0, 0) hX1).trans rfl
    clear hw1
    go_wp2
    go_ret
    exact ⟨rfl, HB1.out⟩
  by_cases c3 : cx ≤ 1099511627776
  case neg =>
    go_enter Try.func4, Try.ntmps4
    go_wp2_with fail
    refine (awake_c _).mono ?_
    rintro e w1 ⟨rfl, hw1⟩
    have HB1 : Hid (Below w.heap.size w w1) := ((Below.refl _ w).alloc (Nat.le_refl _) _).trans (hw1.mono (by simp))
    have hX1 := (hw1.block w.heap.size (by simp)).trans (heap_alloc_new w _)
    have k0 := (cell_of_row w1 w.heap.size 0 _ 32 (0, 0) hX1).trans rfl
    have k1 := (cell_of_row w1 w.heap.size 1 _ 32 (0, 0) hX1).trans rfl
    clear hw1
    go_wp2
    go_ret
    exact ⟨rfl, HB1.out⟩
  by_cases c4 : -1099511627776 ≤ cz
  case neg =>
    go_enter Try.func4, Try.ntmps4
    go_wp2_with fail
    refine (awake_c _).mono ?_
    rintro e w1 ⟨rfl, hw1⟩
    have HB1 : Hid (Below w.heap.size w w1) := ((Below.refl _ w).alloc (Nat.le_refl _) _).trans (hw1.mono (by simp))
    have hX1 := (hw1.block w.heap.size (by simp)).trans (heap_alloc_new w _)
    have k0 := (cell_of_row w1 w.heap.size 0 _ 32 (0, 0) hX1).trans rfl
    have k1 := (cell_of_row w1 w.heap.size 1 _ 32 (0, 0) hX1).trans rfl
    clear hw1
    go_wp2
    go_ret
    exact ⟨rfl, HB1.out⟩
  by_cases c5 : cz ≤ 1099511627776
  case neg =>
    go_enter Try.func4, Try.ntmps4
    go_wp2_with fail
    refine (awake_c _).mono ?_
    rintro e w1 ⟨rfl, hw1⟩
    have HB1 : Hid (Below w.heap.size w w1) := ((Below.refl _ w).alloc (Nat.le_refl _) _).trans (hw1.mono (by simp))
    have hX1 := (hw1.block w.heap.size (by simp)).trans (heap_alloc_new w _)
    have k0 := (cell_of_row w1 w.heap.size 0 _ 32 (0, 0) hX1).trans rfl
    have k1 := (cell_of_row w1 w.heap.size 1 _ 32 (0, 0) hX1).trans rfl
    clear hw1
    go_wp2
    go_ret
    exact ⟨rfl, HB1.out⟩
  by_cases c6 : -20 ≤ x
  case neg =>
    go_enter Try.func4, Try.ntmps4
    go_wp2_with fail
    refine (awake_c _).mono ?_
    rintro e w1 ⟨rfl, hw1⟩
    have HB1 : Hid (Below w.heap.size w w1) := ((Below.refl _ w).alloc (Nat.le_refl _) _).trans (hw1.mono (by simp))
    have hX1 := (hw1.block w.heap.size (by simp)).trans (heap_alloc_new w _)
    have k0 := (cell_of_row w1 w.heap.size 0 _ 32 (0, 0) hX1).trans rfl
    have k1 := (cell_of_row w1 w.heap.size 1 _ 32 (0, 0) hX1).trans rfl
    clear hw1
    go_wp2
    go_ret
    exact ⟨rfl, HB1.out⟩
  by_cases c7 : x ≤ 20
  case neg =>
    go_enter Try.func4, Try.ntmps4
    go_wp2_with fail
    refine (awake_c _).mono ?_
    rintro e w1 ⟨rfl, hw1⟩
    have HB1 : Hid (Below w.heap.size w w1) := ((Below.refl _ w).alloc (Nat.le_refl _) _).trans (hw1.mono (by simp))
    have hX1 := (hw1.block w.heap.size (by simp)).trans (heap_alloc_new w _)
    have k0 := (cell_of_row w1 w.heap.size 0 _ 32 (0, 0) hX1).trans rfl
    have k1 := (cell_of_row w1 w.heap.size 1 _ 32 (0, 0) hX1).trans rfl
    clear hw1
    go_wp2
    go_ret
    exact ⟨rfl, HB1.out⟩
  by_cases c8 : -20 ≤ z
  case neg =>
    go_enter Try.func4, Try.ntmps4
    go_wp2_with fail
    refine (awake_c _).mono ?_
    rintro e w1 ⟨rfl, hw1⟩
    have HB1 : Hid (Below w.heap.size w w1) := ((Below.refl _ w).alloc (Nat.le_refl _) _).trans (hw1.mono (by simp))
    have hX1 := (hw1.block w.heap.size (by simp)).trans (heap_alloc_new w _)
    have k0 := (cell_of_row w1 w.heap.size 0 _ 32 (0, 0) hX1).trans rfl
    have k1 := (cell_of_row w1 w.heap.size 1 _ 32 (0, 0) hX1).trans rfl
    clear hw1
    go_wp2
    go_ret
    exact ⟨rfl, HB1.out⟩
  by_cases c9 : z ≤ 20
  case neg =>
    go_enter Try.func4, Try.ntmps4
    go_wp2_with fail
    refine (awake_c _).mono ?_
    rintro e w1 ⟨rfl, hw1⟩
    have HB1 : Hid (Below w.heap.size w w1) := ((Below.refl _ w).alloc (Nat.le_refl _) _).trans (hw1.mono (by simp))
    have hX1 := (hw1.block w.heap.size (by simp)).trans (heap_alloc_new w _)
    have k0 := (cell_of_row w1 w.heap.size 0 _ 32 (0, 0) hX1).trans rfl
    have k1 := (cell_of_row w1 w.heap.size 1 _ 32 (0, 0) hX1).trans rfl
    clear hw1
    go_wp2
    go_ret
    exact ⟨rfl, HB1.out⟩
  go_enter Try.func4, Try.ntmps4
  go_wp2_with fail
  refine (awake_c _).mono ?_
  rintro e w1 ⟨rfl, hw1⟩
  have HB1 : Hid (Below w.heap.size w w1) := ((Below.refl _ w).alloc (Nat.le_refl _) _).trans (hw1.mono (by simp))
  have hX1 := (hw1.block w.heap.size (by simp)).trans (heap_alloc_new w _)
  have k0 := (cell_of_row w1 w.heap.size 0 _ 32 (0, 0) hX1).trans rfl
  have k1 := (cell_of_row w1 w.heap.size 1 _ 32 (0, 0) hX1).trans rfl
  clear hw1
  go_wp2_with fail
  refine (near_c _ _ _ c0 c1 _).mono ?_
  rintro e w2 ⟨v2, rfl, hrow2, hw2⟩
  have HB2 : Hid (Below w.heap.size w w2) := HB1.out.trans (hw2.mono HB1.out.size)
  have hX2 := (hw2.block _ (Array.getElem?_eq_some_iff.1 hX1).1).trans hX1
  have l0 := (cell_of_row w2 w.heap.size 0 _ 32 (0, 0) hX2).trans rfl
  have l1 := (cell_of_row w2 w.heap.size 1 _ 32 (0, 0) hX2).trans rfl
  obtain ⟨_, hN2, hN3⟩ := near_count r c0 c1
  have hN1 : 0 < nearN r := by rw [hN2]; exact Nat.mul_pos (by omega) (by omega)
  have hmul : (2 * r + 1) * (2 * r + 1) = (nearN r : Int) := by rw [hN2, Int.natCast_mul, Int.toNat_of_nonneg (by omega)]
  have hplace := ring_place r c0 c1
  have HE : Hid _ := cnt_end x z r (nearN r) hmul.symm c0
  clear hN2 k0 k1 hX1 hw2
  generalize hNN : nearN r = N at *
  obtain ⟨g2, cap2, rfl⟩ := ownsRow_len hrow2 hN1
  have hD := heap_alloc_new w2 (.cells #[.int .i64 (cx + x), .int .i64 (cz + z)] 32)
  have d0 := (cell_of_row _ w2.heap.size 0 _ 32 (0, 0) hD).trans rfl
  have d1 := (cell_of_row _ w2.heap.size 1 _ 32 (0, 0) hD).trans rfl
  have hr2 := hrow2.alloc (.cells #[.int .i64 (cx + x), .int .i64 (cz + z)] 32)
  have HB3 : Hid (Below w.heap.size w (w2.alloc (.cells #[.int .i64 (cx + x), .int .i64 (cz + z)] 32))) := HB2.out.alloc HB2.out.size _
  go_wp2_with fail
  go_loopw [12, 13] (fun n i wr => ∃ K q : Nat, n = .int .i64 (cntR x z r K) ∧ i = .int .i64 (K : Int) ∧ K ≤ N ∧ wr = (w2.alloc (.cells #[.int .i64 (cx + x), .int .i64 (cz + z)] 32)).drewN q) (fun _ i _ => N - (intOf i).toNat)
  case atStart => exact ⟨0, 0, by rw [cnt_zero x z r c0], by simp, by omega, rfl⟩
  case round =>
    obtain ⟨K, q, rfl, rfl, hK, rfl⟩ := hrel
    by_cases hk : K = N
    · have hk' : ¬ (K : Int) < (N : Int) := by omega
      rw [hk, HE.out]
      by_cases e0 : -r ≤ x
      case neg =>
        rw [if_neg (fun h => e0 h.1)]
        go_wp2
        go_ret
        exact ⟨rfl, below_drewN HB3.out q⟩
      by_cases e1 : x ≤ r
      case neg =>
        rw [if_neg (fun h => e1 h.2.1)]
        go_wp2
        go_ret
        exact ⟨rfl, below_drewN HB3.out q⟩
      by_cases e2 : -r ≤ z
      case neg =>
        rw [if_neg (fun h => e2 h.2.2.1)]
        go_wp2
        go_ret
        exact ⟨rfl, below_drewN HB3.out q⟩
      by_cases e3 : z ≤ r
      case neg =>
        rw [if_neg (fun h => e3 h.2.2.2)]
        go_wp2
        go_ret
        exact ⟨rfl, below_drewN HB3.out q⟩
      rw [if_pos ⟨e0, e1, e2, e3⟩]
      go_wp2
      go_ret
      exact ⟨rfl, below_drewN HB3.out q⟩
    · have hk' : (K : Int) < (N : Int) := by omega
      have hk0 : (0 : Int) ≤ (K : Int) := by omega
      obtain ⟨p, hp, bp1, bp2, rp1, rp2, ep⟩ := hplace K (by omega)
      obtain ⟨m1, m2⟩ := flatN_get cx cz (nearL r) K p hp
      rw [wrap_near ⟨c2, c3⟩ bp1] at m1
      rw [wrap_near ⟨c4, c5⟩ bp2] at m2
      have y0 := (ownsRow_cell hr2 (K * 2) (by omega)).trans m1
      have y1 := (ownsRow_cell hr2 (K * 2 + 1) (by omega)).trans m2
      have HP : Hid ((K : Int) = (p.z + r) * (2 * r + 1) + (p.x + r)) := ep
      clear m1 m2 ep hp
      obtain ⟨px, py, pz⟩ := p
      dsimp only at bp1 bp2 rp1 rp2 y0 y1 HP
      by_cases u0 : px = x
      case neg =>
        have HM : Hid (cntR x z r (K + 1) = cntR x z r K) := cnt_miss x z r px pz K rp1 HP.out (fun h => u0 h.1)
        generalize cntR x z r K = f at *
        go_wp2_with fail
        go_quiet (fail)
        go_wp2
        exact ⟨⟨K + 1, q + nq, by rw [HM.out], by simp, by omega, rfl⟩, by simp [intOf]; omega⟩
      by_cases v0 : pz = z
      case neg =>
        have HM : Hid (cntR x z r (K + 1) = cntR x z r K) := cnt_miss x z r px pz K rp1 HP.out (fun h => v0 h.2)
        generalize cntR x z r K = f at *
        subst u0
        go_wp2_with fail
        go_quiet (fail)
        go_wp2
        exact ⟨⟨K + 1, q + nq, by rw [HM.out], by simp, by omega, rfl⟩, by simp [intOf]; omega⟩
      subst u0
      subst v0
      have HM : Hid _ := cnt_hit px pz r K rp1 rp2 HP.out
      rw [HM.out.1]
      go_wp2_with fail
      go_quiet (fail)
      go_wp2
      exact ⟨⟨K + 1, q + nq, by rw [HM.out.2], by simp, by omega, rfl⟩, by simp [intOf]; omega⟩

set_option maxRecDepth 100000 in
theorem gridRings_lifted (os : Os) (started : os.Started) (H : Type) (enc : TypeId × Value → H) :
    ReturnsInHanded {} Try.checked os 4 .any (Rows.gridRingsSpec.pre6 enc Try.prog Try.f4 Rows.gridRingsRow.domain false) (Rows.gridRingsSpec.post enc Try.prog Try.f4 false true false false) := by
  refine returnsInHanded_of_change (C := Try.checked) own started (by kernel_rfl) Try.func4
    (ChangeSpec.witness6 (enc := enc) (C := Try.checked) false ⟨#[], #[.agg #[.int .i64 0, .int .i64 0], .int .i64 0, .int .i64 0, .int .i64 0], []⟩ 8 (by kernel_rfl) (by kernel_rfl) (by kernel_rfl) (by kernel_rfl)) ?_
  intro W base args ds gs before hval0 hW _ _
  have hval : ∀ (j : Nat) t v, Try.f4.params[j]? = some t → args[j]? = some v → Value.okWide Try.prog W .any base t v := hval0
  have hW' := hW
  obtain ⟨p, q, hA0, hV, rfl, hfz, hnd⟩ := hW
  have hA : DataW.TrodAll enc Try.prog W 0 (fun _ => true) true Try.f4.params.toList args.toList ds p := hA0
  rw [Try.params4] at hA hval
  obtain ⟨v0, vs0, d0, ds0, p0, q0, hargs, rfl, rfl, h0, r0⟩ := trodAll_cons hA
  obtain ⟨v1, vs1, d1, ds1, p1, q1, rfl, rfl, rfl, h1, r1⟩ := trodAll_cons r0
  obtain ⟨v2, vs2, d2, ds2, p2, q2, rfl, rfl, rfl, h2, r2⟩ := trodAll_cons r1
  obtain ⟨v3, vs3, d3, ds3, p3, q3, rfl, rfl, rfl, h3, r3⟩ := trodAll_cons r2
  obtain ⟨rfl, rfl, rfl⟩ := trodAll_nil r3
  obtain rfl : args = #[v0, v1, v2, v3] := by cases args; simp_all
  obtain ⟨rfl, rfl⟩ := trodVars_none hV
  have lt0 : ∀ x ∈ p0, x.block < W.heap.size := by obtain ⟨m, hm⟩ := h0; exact DataW.trod_lt m _ _ _ hm
  obtain ⟨cx, cz, rfl, B_cx, B_cz⟩ := open_at (hval 0 32 v0 rfl rfl) h0
  obtain ⟨r, rfl, rfl, rfl, w1⟩ := open_int Try.underlying3 (hval 1 3 v1 rfl rfl) h1
  have B_r := bd64 w1
  obtain ⟨x, rfl, rfl, rfl, w2⟩ := open_int Try.underlying3 (hval 2 3 v2 rfl rfl) h2
  have B_x := bd64 w2
  obtain ⟨z, rfl, rfl, rfl, w3⟩ := open_int Try.underlying3 (hval 3 3 v3 rfl rfl) h3
  have B_z := bd64 w3
  clear hA0 hval0
  refine (gridRings_any cx cz r x z W).mono fun e W' ⟨he, bel⟩ => ?_
  subst he
  exact ⟨_, rfl, _, _, _, [], _, [], hW', trodAll_mk1 (shut_bool Try.underlying4 _), (trodAll_cons_mk (Below.trod laidOut (by kernel_rfl) (of_decide_eq_true (by kernel_rfl)) h0 bel lt0) (trodAll_cons_mk (shut_int Try.underlying3 w1) (trodAll_cons_mk (shut_int Try.underlying3 w2) (trodAll_cons_mk (shut_int Try.underlying3 w3) trodAll_mk0)))), rfl, bel.frame _, fun h => by cases h⟩

theorem gridRings_holds : Rows.GridRingsSaid :=
  OpenClaim.holds_of_wide 4 Try.f4 rfl rfl rfl rfl rfl rfl rfl ⟨rfl, rfl, rfl, rfl, rfl⟩ rfl rfl rfl rfl rfl (by kernel_rfl) Try.func4 (by kernel_rfl)
    (of_decide_eq_true (by kernel_rfl)) (by unfold Func.isWrapper; rw [if_neg (of_decide_eq_false (by kernel_rfl))]; exact ⟨rfl, rfl⟩)
    (fun os started H enc _ => gridRings_lifted os started H enc)
#print axioms gridRings_holds
end Go.Proofs.Ytbodopfghejoiab
