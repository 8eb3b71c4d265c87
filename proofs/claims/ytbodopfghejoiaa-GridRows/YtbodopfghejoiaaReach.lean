/-
  The document's Each: the first so many cells of a box, as a new slice; whatever lay is as it lay.
-/
import Derived.Test.YtbodopfghejoiaaRnear
import Derived.Test.YtbodopfghejoiaaRboxes
namespace Go.Proofs.Ytbodopfghejoiaa
open Go.RowKit Go.Shelf

attribute [local go_sem] Oper.semAt_some

theorem info23 : (Try.prog.info? 23).map (fun i => (i.zero, i.size, i.bytes)) = some (some (.agg #[.int .i64 0, .int .i64 0, .int .i64 0]), 3, 24) := by kernel_rfl
theorem cell_three_new (W : World) (T : TypeId) (u v x : Value) : ∀ (j : Nat) (y : Value), [u, v, x][j]? = some y → (W.alloc (.cells #[u, v, x] T)).cell? (Addr.add ⟨W.heap.size, 0, none⟩ j) = some y := by
  intro j y h
  have e := cell_of_row (W.alloc (.cells #[u, v, x] T)) W.heap.size j _ T (0, 0) (heap_alloc_new W _)
  match j with
  | 0 => simpa [Addr.add] using e.trans h
  | 1 => simpa [Addr.add] using e.trans h
  | 2 => simpa [Addr.add] using e.trans h
  | j + 3 => simp at h

/-- Cells as a row. -/
def flatP (l : List P3) : List Value := l.flatMap fun p => [.int .i64 p.x, .int .i64 p.y, .int .i64 p.z]
theorem flatP_snoc (l : List P3) (p : P3) : flatP (l ++ [p]) = flatP l ++ [.int .i64 p.x, .int .i64 p.y, .int .i64 p.z] := by simp [flatP]
theorem flatP_get : ∀ (l : List P3) (k : Nat) (p : P3), l[k]? = some p → (flatP l)[k * 3]? = some (.int .i64 p.x) ∧ (flatP l)[k * 3 + 1]? = some (.int .i64 p.y) ∧ (flatP l)[k * 3 + 2]? = some (.int .i64 p.z)
  | [], k, p, h => by simp at h
  | q :: l, 0, p, h => by
    simp at h
    subst h
    exact ⟨rfl, rfl, rfl⟩
  | q :: l, k + 1, p, h => by
    have := flatP_get l k p (by simpa using h)
    have e : flatP (q :: l) = .int .i64 q.x :: .int .i64 q.y :: .int .i64 q.z :: flatP l := by simp [flatP]
    rw [e, show (k + 1) * 3 = k * 3 + 1 + 1 + 1 by omega]
    simpa using this

/-- From a cell to the next one. -/
theorem cellAt_step (a1 a2 a3 : Int) (S1 S3 I M L : Nat) (hI : I < S1) (hM : M < S3) :
    (I + 1 < S1 → cellAt a1 a2 a3 S1 S3 ((L * S3 + M) * S1 + I + 1) = ⟨a1 + I + 1, a2 + L, a3 + M⟩) ∧
    (I + 1 = S1 → M + 1 < S3 → cellAt a1 a2 a3 S1 S3 ((L * S3 + M) * S1 + I + 1) = ⟨a1, a2 + L, a3 + M + 1⟩) ∧
    (I + 1 = S1 → M + 1 = S3 → cellAt a1 a2 a3 S1 S3 ((L * S3 + M) * S1 + I + 1) = ⟨a1, a2 + L + 1, a3⟩) := by
  refine ⟨fun h => ?_, fun h h' => ?_, fun h h' => ?_⟩
  · rw [Nat.add_assoc, cellAt_of a1 a2 a3 S1 S3 (I + 1) M L h hM]
    congr 1
    omega
  · have e : (L * S3 + M) * S1 + I + 1 = (L * S3 + (M + 1)) * S1 + 0 := by subst h; grind
    rw [e, cellAt_of a1 a2 a3 S1 S3 0 (M + 1) L (by omega) h']
    congr 1
    · simp
    · omega
  · have e : (L * S3 + M) * S1 + I + 1 = ((L + 1) * S3 + 0) * S1 + 0 := by subst h; subst h'; grind
    rw [e, cellAt_of a1 a2 a3 S1 S3 0 0 (L + 1) (by omega) (by omega)]
    congr 1
    · simp
    · omega
    · simp
theorem cellAt_next (S1 S3 k : Nat) (h1 : 1 ≤ S1) (h3 : 1 ≤ S3) : ∃ I M L : Nat, I < S1 ∧ M < S3 ∧ k = (L * S3 + M) * S1 + I := by
  refine ⟨k % S1, k / S1 % S3, k / S1 / S3, Nat.mod_lt _ h1, Nat.mod_lt _ h3, ?_⟩
  rw [Nat.mul_comm (k / S1 / S3), Nat.div_add_mod, Nat.mul_comm, Nat.div_add_mod]

/-- How many cells are told of a box that is left behind 'most' cells. -/
def eachN (a1 a2 a3 b1 b2 b3 most : Int) : Nat := min (boxN a1 a2 a3 b1 b2 b3) most.toNat
theorem count_box (a1 a2 a3 b1 b2 b3 : Int) : countN a1 a2 a3 b1 b2 b3 = min ((boxN a1 a2 a3 b1 b2 b3 : Nat) : Int) 2147483648 := by
  have h1 := (sideN_bd a1 b1).1
  have h2 := (sideN_bd a2 b2).1
  have h3 := (sideN_bd a3 b3).1
  unfold countN boxN
  rw [Int.natCast_mul, Int.natCast_mul, Int.toNat_of_nonneg h1, Int.toNat_of_nonneg h2, Int.toNat_of_nonneg h3]
  congr 1
  grind
theorem each_len (a1 a2 a3 b1 b2 b3 most : Int) (h1 : 1 ≤ most) (h5 : most ≤ 5000) : (if most < countN a1 a2 a3 b1 b2 b3 then most else countN a1 a2 a3 b1 b2 b3) = ((eachN a1 a2 a3 b1 b2 b3 most : Nat) : Int) := by
  rw [count_box]
  unfold eachN
  split <;> omega

theorem box_pos (a1 a2 a3 b1 b2 b3 : Int) (h : 0 < boxN a1 a2 a3 b1 b2 b3) : ∃ S2 : Nat, boxN a1 a2 a3 b1 b2 b3 = S2 * (sideN a3 b3).toNat * (sideN a1 b1).toNat ∧ (1 ≤ (sideN a1 b1).toNat ∧ a1 + ((sideN a1 b1).toNat : Int) = b1 + 1 ∧ -1099511627776 ≤ a1 ∧ b1 ≤ 1099511627776) ∧
    (1 ≤ S2 ∧ a2 + (S2 : Int) = b2 + 1 ∧ -1099511627776 ≤ a2 ∧ b2 ≤ 1099511627776) ∧ (1 ≤ (sideN a3 b3).toNat ∧ a3 + ((sideN a3 b3).toNat : Int) = b3 + 1 ∧ -1099511627776 ≤ a3 ∧ b3 ≤ 1099511627776) := by
  refine ⟨(sideN a2 b2).toNat, rfl, ?_⟩
  rcases sideN_cases a1 b1 with h1 | ⟨S1, p1, r1, e1, q1⟩
  · rw [(boxN_zero a1 a2 a3 b1 b2 b3 (.inl h1)).1] at h; omega
  rcases sideN_cases a2 b2 with h2 | ⟨S2, p2, r2, e2, q2⟩
  · rw [(boxN_zero a1 a2 a3 b1 b2 b3 (.inr (.inl h2))).1] at h; omega
  rcases sideN_cases a3 b3 with h3 | ⟨S3, p3, r3, e3, q3⟩
  · rw [(boxN_zero a1 a2 a3 b1 b2 b3 (.inr (.inr h3))).1] at h; omega
  rw [r1, r2, r3]
  simp only [Int.toNat_natCast]
  exact ⟨⟨p1, e1, q1⟩, ⟨p2, e2, q2⟩, ⟨p3, e3, q3⟩⟩
theorem layer_lt {S1 S2 S3 I M L : Nat} (h : (L * S3 + M) * S1 + I < S2 * S3 * S1) : L < S2 := by
  refine Nat.lt_of_not_le fun hl => ?_
  have h1 : S2 * S3 ≤ L * S3 + M := Nat.le_trans (Nat.mul_le_mul_right _ hl) (Nat.le_add_right _ _)
  have h2 : S2 * S3 * S1 ≤ (L * S3 + M) * S1 := Nat.mul_le_mul_right _ h1
  omega
theorem own_set {W : World} {b base e size k j : Nat} {v u : Value} {xs : List Value} (h : W.ownsRow base e size v k xs) (hb : b < base) : (W.setCell ⟨b, j, none⟩ u).ownsRow base e size v k xs := by
  refine ⟨h.1, ?_⟩
  rcases h.2 with h0 | ⟨g, cap, cur, hv, hg, hbl, rest⟩
  · exact .inl h0
  · exact .inr ⟨g, cap, cur, hv, hg, (Below.heap_setCell W ⟨b, j, none⟩ u g (fun e' => by simp at e'; omega)).trans hbl, rest⟩
theorem take_upto (a1 a2 a3 : Int) (S1 S3 : Nat) {m n : Nat} (h : m ≤ n) : (upto a1 a2 a3 S1 S3 n).take m = upto a1 a2 a3 S1 S3 m := by
  have := (List.prefix_iff_eq_take.1 (upto_prefix a1 a2 a3 S1 S3 h)).symm
  rwa [upto_length] at this
def lenOf : Value → Nat | .slice _ n _ => n | _ => 0
theorem lenOf_row {W : World} {b e size k : Nat} {v : Value} {xs : List Value} (h : W.ownsRow b e size v k xs) : ∃ a cap, v = .slice a k cap := by
  rcases h.2 with ⟨rfl, h0⟩ | ⟨g, cap, _, rfl, _⟩
  · exact ⟨none, 0, by rw [h0]⟩
  · exact ⟨_, cap, rfl⟩

set_option maxRecDepth 100000 in
set_option maxHeartbeats 2000000 in
theorem reach_c (a1 a2 a3 b1 b2 b3 most : Int) (h1 : 1 ≤ most) (h5 : most ≤ 5000) (w : World) : Calls Try.prog 22 #[.agg #[.int .i64 a1, .int .i64 a2, .int .i64 a3, .int .i64 b1, .int .i64 b2, .int .i64 b3], .int .i64 most] w fun e w' =>
    ∃ v, e = .returned v ∧ w'.ownsRow w.heap.size 23 3 v (eachN a1 a2 a3 b1 b2 b3 most) (flatP ((boxL a1 a2 a3 b1 b2 b3).take (eachN a1 a2 a3 b1 b2 b3 most))) ∧ Below w.heap.size w w' := by
  obtain ⟨i0, hi, hz0, hz1, hz2⟩ := info_parts info23
  have HT : Hid _ := each_len a1 a2 a3 b1 b2 b3 most h1 h5
  have hS0 := Six.new w a1 a2 a3 b1 b2 b3
  refine (callsIn_wide (n := 6)).1 ?_
  refine callsIn_of_wp Try.func22 rfl trivial ?_ rfl
  simp only [Try.ntmps22, List.size_toArray, List.length_cons, List.length_nil, Nat.reduceAdd, Nat.reduceSub, Array.replicate_succ, Array.replicate_zero, List.push_toArray, List.append_toArray, List.nil_append, List.cons_append]
  gi_wp2_with (fail)
  refine ⟨trivial, ?_⟩
  refine (callsIn_wide.2 (rcount_c _ _ _ _ _ _ _)).mono ?_
  rintro e w1 ⟨rfl, hw1⟩
  have HB1 : Hid (Below w.heap.size w w1) := ((Below.refl _ w).alloc (Nat.le_refl _) _).trans (hw1.mono (by simp))
  have hS1 : Six w1 w.heap.size a1 a2 a3 b1 b2 b3 := hS0.on hw1 (by simp)
  obtain ⟨k0, k1, k2, k3, k4, k5⟩ := hS1.cells
  generalize hc0 : countN a1 a2 a3 b1 b2 b3 = c at HT ⊢
  generalize hT0 : eachN a1 a2 a3 b1 b2 b3 most = T at HT ⊢
  have hS3 : Hid (boxL a1 a2 a3 b1 b2 b3 = upto a1 a2 a3 (sideN a1 b1).toNat (sideN a3 b3).toNat (boxN a1 a2 a3 b1 b2 b3)) := rfl
  have HF : Hid (0 < boxN a1 a2 a3 b1 b2 b3 → _) := box_pos a1 a2 a3 b1 b2 b3
  have HT2 : Hid (T ≤ boxN a1 a2 a3 b1 b2 b3) := by show _ ≤ _; rw [← hT0]; unfold eachN; omega
  generalize (sideN a1 b1).toNat = S1 at hS3 HF
  generalize (sideN a3 b3).toNat = S3 at hS3 HF
  generalize boxN a1 a2 a3 b1 b2 b3 = N at hS3 HF HT2
  by_cases hcm : most < c
  · have hT : most = (T : Int) := by have := HT.out; rwa [if_pos hcm] at this
    clear HT
    subst hT
    gi_wp2
    gi_loopw [5] (fun v wr => ∃ k : Nat, k ≤ T ∧ wr.ownsRow (w1.heap.size + 1) 23 3 v k (flatP (upto a1 a2 a3 S1 S3 k)) ∧ wr.heap[w1.heap.size]? = some (.cells #[.int .i64 (cellAt a1 a2 a3 S1 S3 k).x, .int .i64 (cellAt a1 a2 a3 S1 S3 k).y, .int .i64 (cellAt a1 a2 a3 S1 S3 k).z] 23 (0, 0)) ∧ Below w1.heap.size w1 wr) (fun v _ => T - lenOf v)
    case atStart => exact ⟨0, by omega, by rw [upto_zero]; exact World.ownsRow_nil _ _ _ _, by have := heap_alloc_new w1 (.cells #[.int .i64 a1, .int .i64 a2, .int .i64 a3] 23); simpa [cellAt] using this, (Below.refl _ w1).alloc (Nat.le_refl _) _⟩
    case round =>
      obtain ⟨k, hk, hrow, hP, hB⟩ := hrel
      obtain ⟨ad, cap, rfl⟩ := lenOf_row hrow
      by_cases hkT : k = T
      · gi_wp2
        go_ret
        refine ⟨_, rfl, ?_, HB1.out.trans (hB.mono HB1.out.size)⟩
        have hT3 := HT2.out
        rw [hS3.out, hT0, take_upto _ _ _ _ _ hT3, ← hkT]
        exact ownsRow_base hrow (by have := HB1.out.size; omega)
      · have hkT' : (k : Int) < (T : Int) := by omega
        have hT3 := HT2.out
        obtain ⟨S2, eN, ⟨p1, e1, q1, q1'⟩, ⟨p2, e2, q2, q2'⟩, p3, e3, q3, q3'⟩ := HF.out (by omega)
        obtain ⟨I, M, Lr, hI, hM, ek⟩ := cellAt_next S1 S3 k p1 p3
        subst ek
        have hLr : Lr < S2 := layer_lt (by omega : (Lr * S3 + M) * S1 + I < S2 * S3 * S1)
        have HC : Hid (cellAt a1 a2 a3 S1 S3 ((Lr * S3 + M) * S1 + I) = ⟨a1 + I, a2 + Lr, a3 + M⟩) := cellAt_of a1 a2 a3 S1 S3 I M Lr hI hM
        rw [HC.out] at hP
        dsimp only at hP
        have HX : Hid _ := cellAt_step a1 a2 a3 S1 S3 I M Lr hI hM
        have hsz : w1.heap.size + 1 ≤ wr.heap.size := (Array.getElem?_eq_some_iff.1 hP).1
        have hS4 : Six wr w.heap.size a1 a2 a3 b1 b2 b3 := hS1.on hB (Array.getElem?_eq_some_iff.1 hS1).1
        have hlt1 := (Array.getElem?_eq_some_iff.1 hS1).1
        have c0 := (cell_of_row wr w1.heap.size 0 _ 23 (0, 0) hP).trans rfl
        have c1 := (cell_of_row wr w1.heap.size 1 _ 23 (0, 0) hP).trans rfl
        have c2 := (cell_of_row wr w1.heap.size 2 _ 23 (0, 0) hP).trans rfl
        generalize hKK : (Lr * S3 + M) * S1 + I = kk at hrow hk hkT hkT' HC HX
        clear eN
        by_cases g1 : I + 1 < S1
        case pos =>
          have g1' : a1 + (I : Int) + 1 ≤ b1 := by omega
          gi_wp2_with (gi_at_builtin; refine wpListIn_append_own _ rfl _ _ 36 rfl (w1.heap.size + 1) 23 i0 (.agg #[.int .i64 0, .int .i64 0, .int .i64 0]) 3 24 Try.underlying36 hi hz0 hz1 hz2 rfl (by decide) _ _ _ rfl (hrow.alloc _) ⟨wr.heap.size, 0, none⟩ 1 1 [.int .i64 (a1 + I), .int .i64 (a2 + Lr), .int .i64 (a3 + M)] rfl rfl (cell_three_new _ _ _ _ _) (by simp [Value.oneCell']) (by simp [maxLen]; omega) (by omega) (by simp; omega) ?_; intro v' w3 hown' hgrow _; obtain ⟨g', cap', rfl⟩ := ownsRow_succ hown'; have hB3 := below_append hrow hsz hgrow; have hP3 := (hB3.block w1.heap.size (by omega)).trans hP; have x0 := (cell_of_row w3 w1.heap.size 0 _ 23 (0, 0) hP3).trans rfl; have x1 := (cell_of_row w3 w1.heap.size 1 _ 23 (0, 0) hP3).trans rfl; have x2 := (cell_of_row w3 w1.heap.size 2 _ 23 (0, 0) hP3).trans rfl; have f0 := frozen_of_row w3 w1.heap.size 0 _ 23 hP3; have f1 := frozen_of_row w3 w1.heap.size 1 _ 23 hP3; have f2 := frozen_of_row w3 w1.heap.size 2 _ 23 hP3; obtain ⟨s0, s1, s2, s3, s4, s5⟩ := (hS4.on hB3 (by omega)).cells)
          refine ⟨⟨kk + 1, by omega, ?_, ?_, ((hB.trans (hB3.mono (by omega))).setCell (p := ⟨w1.heap.size, 0, none⟩) (Nat.le_refl _) _)⟩, by simp [lenOf]; omega⟩
          · rw [upto_succ, flatP_snoc, HC.out]
            exact (own_set hown' (Nat.lt_succ_self _))
          · rw [(HX.out.1 g1)]
            exact (heap_setCell_same _ _ 0 _ 23 _ hP3).trans rfl
        have g1' : b1 < a1 + (I : Int) + 1 := by omega
        have g1e : I + 1 = S1 := by omega
        by_cases g2 : M + 1 < S3
        case pos =>
          have g2' : a3 + (M : Int) + 1 ≤ b3 := by omega
          gi_wp2_with (gi_at_builtin; refine wpListIn_append_own _ rfl _ _ 36 rfl (w1.heap.size + 1) 23 i0 (.agg #[.int .i64 0, .int .i64 0, .int .i64 0]) 3 24 Try.underlying36 hi hz0 hz1 hz2 rfl (by decide) _ _ _ rfl (hrow.alloc _) ⟨wr.heap.size, 0, none⟩ 1 1 [.int .i64 (a1 + I), .int .i64 (a2 + Lr), .int .i64 (a3 + M)] rfl rfl (cell_three_new _ _ _ _ _) (by simp [Value.oneCell']) (by simp [maxLen]; omega) (by omega) (by simp; omega) ?_; intro v' w3 hown' hgrow _; obtain ⟨g', cap', rfl⟩ := ownsRow_succ hown'; have hB3 := below_append hrow hsz hgrow; have hP3 := (hB3.block w1.heap.size (by omega)).trans hP; have x0 := (cell_of_row w3 w1.heap.size 0 _ 23 (0, 0) hP3).trans rfl; have x1 := (cell_of_row w3 w1.heap.size 1 _ 23 (0, 0) hP3).trans rfl; have x2 := (cell_of_row w3 w1.heap.size 2 _ 23 (0, 0) hP3).trans rfl; have f0 := frozen_of_row w3 w1.heap.size 0 _ 23 hP3; have f1 := frozen_of_row w3 w1.heap.size 1 _ 23 hP3; have f2 := frozen_of_row w3 w1.heap.size 2 _ 23 hP3; obtain ⟨s0, s1, s2, s3, s4, s5⟩ := (hS4.on hB3 (by omega)).cells)
          refine ⟨⟨kk + 1, by omega, ?_, ?_, ((((hB.trans (hB3.mono (by omega))).setCell (p := ⟨w1.heap.size, 0, none⟩) (Nat.le_refl _) _).setCell (p := ⟨w1.heap.size, 0, none⟩) (Nat.le_refl _) _).setCell (p := ⟨w1.heap.size, 2, none⟩) (Nat.le_refl _) _)⟩, by simp [lenOf]; omega⟩
          · rw [upto_succ, flatP_snoc, HC.out]
            exact (own_set (own_set (own_set hown' (Nat.lt_succ_self _)) (Nat.lt_succ_self _)) (Nat.lt_succ_self _))
          · rw [(HX.out.2.1 g1e g2)]
            exact (heap_setCell_same _ _ 2 _ 23 _ (heap_setCell_same _ _ 0 _ 23 _ (heap_setCell_same _ _ 0 _ 23 _ hP3))).trans rfl
        have g2' : b3 < a3 + (M : Int) + 1 := by omega
        have g2e : M + 1 = S3 := by omega
        gi_wp2_with (gi_at_builtin; refine wpListIn_append_own _ rfl _ _ 36 rfl (w1.heap.size + 1) 23 i0 (.agg #[.int .i64 0, .int .i64 0, .int .i64 0]) 3 24 Try.underlying36 hi hz0 hz1 hz2 rfl (by decide) _ _ _ rfl (hrow.alloc _) ⟨wr.heap.size, 0, none⟩ 1 1 [.int .i64 (a1 + I), .int .i64 (a2 + Lr), .int .i64 (a3 + M)] rfl rfl (cell_three_new _ _ _ _ _) (by simp [Value.oneCell']) (by simp [maxLen]; omega) (by omega) (by simp; omega) ?_; intro v' w3 hown' hgrow _; obtain ⟨g', cap', rfl⟩ := ownsRow_succ hown'; have hB3 := below_append hrow hsz hgrow; have hP3 := (hB3.block w1.heap.size (by omega)).trans hP; have x0 := (cell_of_row w3 w1.heap.size 0 _ 23 (0, 0) hP3).trans rfl; have x1 := (cell_of_row w3 w1.heap.size 1 _ 23 (0, 0) hP3).trans rfl; have x2 := (cell_of_row w3 w1.heap.size 2 _ 23 (0, 0) hP3).trans rfl; have f0 := frozen_of_row w3 w1.heap.size 0 _ 23 hP3; have f1 := frozen_of_row w3 w1.heap.size 1 _ 23 hP3; have f2 := frozen_of_row w3 w1.heap.size 2 _ 23 hP3; obtain ⟨s0, s1, s2, s3, s4, s5⟩ := (hS4.on hB3 (by omega)).cells)
        refine ⟨⟨kk + 1, by omega, ?_, ?_, ((((((hB.trans (hB3.mono (by omega))).setCell (p := ⟨w1.heap.size, 0, none⟩) (Nat.le_refl _) _).setCell (p := ⟨w1.heap.size, 0, none⟩) (Nat.le_refl _) _).setCell (p := ⟨w1.heap.size, 2, none⟩) (Nat.le_refl _) _).setCell (p := ⟨w1.heap.size, 2, none⟩) (Nat.le_refl _) _).setCell (p := ⟨w1.heap.size, 1, none⟩) (Nat.le_refl _) _)⟩, by simp [lenOf]; omega⟩
        · rw [upto_succ, flatP_snoc, HC.out]
          exact (own_set (own_set (own_set (own_set (own_set hown' (Nat.lt_succ_self _)) (Nat.lt_succ_self _)) (Nat.lt_succ_self _)) (Nat.lt_succ_self _)) (Nat.lt_succ_self _))
        · rw [(HX.out.2.2 g1e g2e)]
          exact (heap_setCell_same _ _ 1 _ 23 _ (heap_setCell_same _ _ 2 _ 23 _ (heap_setCell_same _ _ 2 _ 23 _ (heap_setCell_same _ _ 0 _ 23 _ (heap_setCell_same _ _ 0 _ 23 _ hP3))))).trans rfl
  · have hT : c = (T : Int) := by have := HT.out; rwa [if_neg hcm] at this
    clear HT
    subst hT
    have hcm' : (T : Int) ≤ most := by omega
    gi_wp2
    gi_loopw [5] (fun v wr => ∃ k : Nat, k ≤ T ∧ wr.ownsRow (w1.heap.size + 1) 23 3 v k (flatP (upto a1 a2 a3 S1 S3 k)) ∧ wr.heap[w1.heap.size]? = some (.cells #[.int .i64 (cellAt a1 a2 a3 S1 S3 k).x, .int .i64 (cellAt a1 a2 a3 S1 S3 k).y, .int .i64 (cellAt a1 a2 a3 S1 S3 k).z] 23 (0, 0)) ∧ Below w1.heap.size w1 wr) (fun v _ => T - lenOf v)
    case atStart => exact ⟨0, by omega, by rw [upto_zero]; exact World.ownsRow_nil _ _ _ _, by have := heap_alloc_new w1 (.cells #[.int .i64 a1, .int .i64 a2, .int .i64 a3] 23); simpa [cellAt] using this, (Below.refl _ w1).alloc (Nat.le_refl _) _⟩
    case round =>
      obtain ⟨k, hk, hrow, hP, hB⟩ := hrel
      obtain ⟨ad, cap, rfl⟩ := lenOf_row hrow
      by_cases hkT : k = T
      · gi_wp2
        go_ret
        refine ⟨_, rfl, ?_, HB1.out.trans (hB.mono HB1.out.size)⟩
        have hT3 := HT2.out
        rw [hS3.out, hT0, take_upto _ _ _ _ _ hT3, ← hkT]
        exact ownsRow_base hrow (by have := HB1.out.size; omega)
      · have hkT' : (k : Int) < (T : Int) := by omega
        have hT3 := HT2.out
        obtain ⟨S2, eN, ⟨p1, e1, q1, q1'⟩, ⟨p2, e2, q2, q2'⟩, p3, e3, q3, q3'⟩ := HF.out (by omega)
        obtain ⟨I, M, Lr, hI, hM, ek⟩ := cellAt_next S1 S3 k p1 p3
        subst ek
        have hLr : Lr < S2 := layer_lt (by omega : (Lr * S3 + M) * S1 + I < S2 * S3 * S1)
        have HC : Hid (cellAt a1 a2 a3 S1 S3 ((Lr * S3 + M) * S1 + I) = ⟨a1 + I, a2 + Lr, a3 + M⟩) := cellAt_of a1 a2 a3 S1 S3 I M Lr hI hM
        rw [HC.out] at hP
        dsimp only at hP
        have HX : Hid _ := cellAt_step a1 a2 a3 S1 S3 I M Lr hI hM
        have hsz : w1.heap.size + 1 ≤ wr.heap.size := (Array.getElem?_eq_some_iff.1 hP).1
        have hS4 : Six wr w.heap.size a1 a2 a3 b1 b2 b3 := hS1.on hB (Array.getElem?_eq_some_iff.1 hS1).1
        have hlt1 := (Array.getElem?_eq_some_iff.1 hS1).1
        have c0 := (cell_of_row wr w1.heap.size 0 _ 23 (0, 0) hP).trans rfl
        have c1 := (cell_of_row wr w1.heap.size 1 _ 23 (0, 0) hP).trans rfl
        have c2 := (cell_of_row wr w1.heap.size 2 _ 23 (0, 0) hP).trans rfl
        generalize hKK : (Lr * S3 + M) * S1 + I = kk at hrow hk hkT hkT' HC HX
        clear eN
        by_cases g1 : I + 1 < S1
        case pos =>
          have g1' : a1 + (I : Int) + 1 ≤ b1 := by omega
          gi_wp2_with (gi_at_builtin; refine wpListIn_append_own _ rfl _ _ 36 rfl (w1.heap.size + 1) 23 i0 (.agg #[.int .i64 0, .int .i64 0, .int .i64 0]) 3 24 Try.underlying36 hi hz0 hz1 hz2 rfl (by decide) _ _ _ rfl (hrow.alloc _) ⟨wr.heap.size, 0, none⟩ 1 1 [.int .i64 (a1 + I), .int .i64 (a2 + Lr), .int .i64 (a3 + M)] rfl rfl (cell_three_new _ _ _ _ _) (by simp [Value.oneCell']) (by simp [maxLen]; omega) (by omega) (by simp; omega) ?_; intro v' w3 hown' hgrow _; obtain ⟨g', cap', rfl⟩ := ownsRow_succ hown'; have hB3 := below_append hrow hsz hgrow; have hP3 := (hB3.block w1.heap.size (by omega)).trans hP; have x0 := (cell_of_row w3 w1.heap.size 0 _ 23 (0, 0) hP3).trans rfl; have x1 := (cell_of_row w3 w1.heap.size 1 _ 23 (0, 0) hP3).trans rfl; have x2 := (cell_of_row w3 w1.heap.size 2 _ 23 (0, 0) hP3).trans rfl; have f0 := frozen_of_row w3 w1.heap.size 0 _ 23 hP3; have f1 := frozen_of_row w3 w1.heap.size 1 _ 23 hP3; have f2 := frozen_of_row w3 w1.heap.size 2 _ 23 hP3; obtain ⟨s0, s1, s2, s3, s4, s5⟩ := (hS4.on hB3 (by omega)).cells)
          refine ⟨⟨kk + 1, by omega, ?_, ?_, ((hB.trans (hB3.mono (by omega))).setCell (p := ⟨w1.heap.size, 0, none⟩) (Nat.le_refl _) _)⟩, by simp [lenOf]; omega⟩
          · rw [upto_succ, flatP_snoc, HC.out]
            exact (own_set hown' (Nat.lt_succ_self _))
          · rw [(HX.out.1 g1)]
            exact (heap_setCell_same _ _ 0 _ 23 _ hP3).trans rfl
        have g1' : b1 < a1 + (I : Int) + 1 := by omega
        have g1e : I + 1 = S1 := by omega
        by_cases g2 : M + 1 < S3
        case pos =>
          have g2' : a3 + (M : Int) + 1 ≤ b3 := by omega
          gi_wp2_with (gi_at_builtin; refine wpListIn_append_own _ rfl _ _ 36 rfl (w1.heap.size + 1) 23 i0 (.agg #[.int .i64 0, .int .i64 0, .int .i64 0]) 3 24 Try.underlying36 hi hz0 hz1 hz2 rfl (by decide) _ _ _ rfl (hrow.alloc _) ⟨wr.heap.size, 0, none⟩ 1 1 [.int .i64 (a1 + I), .int .i64 (a2 + Lr), .int .i64 (a3 + M)] rfl rfl (cell_three_new _ _ _ _ _) (by simp [Value.oneCell']) (by simp [maxLen]; omega) (by omega) (by simp; omega) ?_; intro v' w3 hown' hgrow _; obtain ⟨g', cap', rfl⟩ := ownsRow_succ hown'; have hB3 := below_append hrow hsz hgrow; have hP3 := (hB3.block w1.heap.size (by omega)).trans hP; have x0 := (cell_of_row w3 w1.heap.size 0 _ 23 (0, 0) hP3).trans rfl; have x1 := (cell_of_row w3 w1.heap.size 1 _ 23 (0, 0) hP3).trans rfl; have x2 := (cell_of_row w3 w1.heap.size 2 _ 23 (0, 0) hP3).trans rfl; have f0 := frozen_of_row w3 w1.heap.size 0 _ 23 hP3; have f1 := frozen_of_row w3 w1.heap.size 1 _ 23 hP3; have f2 := frozen_of_row w3 w1.heap.size 2 _ 23 hP3; obtain ⟨s0, s1, s2, s3, s4, s5⟩ := (hS4.on hB3 (by omega)).cells)
          refine ⟨⟨kk + 1, by omega, ?_, ?_, ((((hB.trans (hB3.mono (by omega))).setCell (p := ⟨w1.heap.size, 0, none⟩) (Nat.le_refl _) _).setCell (p := ⟨w1.heap.size, 0, none⟩) (Nat.le_refl _) _).setCell (p := ⟨w1.heap.size, 2, none⟩) (Nat.le_refl _) _)⟩, by simp [lenOf]; omega⟩
          · rw [upto_succ, flatP_snoc, HC.out]
            exact (own_set (own_set (own_set hown' (Nat.lt_succ_self _)) (Nat.lt_succ_self _)) (Nat.lt_succ_self _))
          · rw [(HX.out.2.1 g1e g2)]
            exact (heap_setCell_same _ _ 2 _ 23 _ (heap_setCell_same _ _ 0 _ 23 _ (heap_setCell_same _ _ 0 _ 23 _ hP3))).trans rfl
        have g2' : b3 < a3 + (M : Int) + 1 := by omega
        have g2e : M + 1 = S3 := by omega
        gi_wp2_with (gi_at_builtin; refine wpListIn_append_own _ rfl _ _ 36 rfl (w1.heap.size + 1) 23 i0 (.agg #[.int .i64 0, .int .i64 0, .int .i64 0]) 3 24 Try.underlying36 hi hz0 hz1 hz2 rfl (by decide) _ _ _ rfl (hrow.alloc _) ⟨wr.heap.size, 0, none⟩ 1 1 [.int .i64 (a1 + I), .int .i64 (a2 + Lr), .int .i64 (a3 + M)] rfl rfl (cell_three_new _ _ _ _ _) (by simp [Value.oneCell']) (by simp [maxLen]; omega) (by omega) (by simp; omega) ?_; intro v' w3 hown' hgrow _; obtain ⟨g', cap', rfl⟩ := ownsRow_succ hown'; have hB3 := below_append hrow hsz hgrow; have hP3 := (hB3.block w1.heap.size (by omega)).trans hP; have x0 := (cell_of_row w3 w1.heap.size 0 _ 23 (0, 0) hP3).trans rfl; have x1 := (cell_of_row w3 w1.heap.size 1 _ 23 (0, 0) hP3).trans rfl; have x2 := (cell_of_row w3 w1.heap.size 2 _ 23 (0, 0) hP3).trans rfl; have f0 := frozen_of_row w3 w1.heap.size 0 _ 23 hP3; have f1 := frozen_of_row w3 w1.heap.size 1 _ 23 hP3; have f2 := frozen_of_row w3 w1.heap.size 2 _ 23 hP3; obtain ⟨s0, s1, s2, s3, s4, s5⟩ := (hS4.on hB3 (by omega)).cells)
        refine ⟨⟨kk + 1, by omega, ?_, ?_, ((((((hB.trans (hB3.mono (by omega))).setCell (p := ⟨w1.heap.size, 0, none⟩) (Nat.le_refl _) _).setCell (p := ⟨w1.heap.size, 0, none⟩) (Nat.le_refl _) _).setCell (p := ⟨w1.heap.size, 2, none⟩) (Nat.le_refl _) _).setCell (p := ⟨w1.heap.size, 2, none⟩) (Nat.le_refl _) _).setCell (p := ⟨w1.heap.size, 1, none⟩) (Nat.le_refl _) _)⟩, by simp [lenOf]; omega⟩
        · rw [upto_succ, flatP_snoc, HC.out]
          exact (own_set (own_set (own_set (own_set (own_set hown' (Nat.lt_succ_self _)) (Nat.lt_succ_self _)) (Nat.lt_succ_self _)) (Nat.lt_succ_self _)) (Nat.lt_succ_self _))
        · rw [(HX.out.2.2 g1e g2e)]
          exact (heap_setCell_same _ _ 1 _ 23 _ (heap_setCell_same _ _ 2 _ 23 _ (heap_setCell_same _ _ 2 _ 23 _ (heap_setCell_same _ _ 0 _ 23 _ (heap_setCell_same _ _ 0 _ 23 _ hP3))))).trans rfl
end Go.Proofs.Ytbodopfghejoiaa
