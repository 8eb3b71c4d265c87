/-
  Cuts in memory; the statements' own reduced and spoilt.
-/
import Derived.Test.YtajjaeaknonmfaaVbase
set_option maxRecDepth 20000
namespace Go.Proofs.Ytajjaeaknonmfaa
open C Go.RowKit

structure Cut where
  n : Int
  f : Int
  m : Int
  k : Int
def cut0 : Cut := ⟨0, 0, 0, 0⟩
/-- Cuts that a slice shows, in blocks below B. -/
structure CutsAt (w : World) (B : Nat) (p : Option Addr) (n : Nat) (l : List Cut) : Prop where
  len : l.length = n
  cells : ∀ i, i < n → ∃ b o, p = some ⟨b, o, none⟩ ∧ b < B ∧ w.cell? ⟨b, o + i * 4, none⟩ = some (.int .i64 (l.getD i cut0).n) ∧ w.cell? ⟨b, o + i * 4 + 1, none⟩ = some (.int .i64 (l.getD i cut0).f) ∧ w.cell? ⟨b, o + i * 4 + 2, none⟩ = some (.int .i64 (l.getD i cut0).m) ∧ w.cell? ⟨b, o + i * 4 + 3, none⟩ = some (.int .i64 (l.getD i cut0).k)
  bd : ∀ i, i < n → I64 (l.getD i cut0).n ∧ I64 (l.getD i cut0).f ∧ I64 (l.getD i cut0).m ∧ I64 (l.getD i cut0).k
theorem cell_low {w w' : World} {b j B : Nat} {v : Value} (hv : w.cell? ⟨b, j, none⟩ = some v) (hb : Below B w w') (hB : b < B) : w'.cell? ⟨b, j, none⟩ = some v :=
  (hb.cell (p := ⟨b, j, none⟩) hB).trans hv
theorem CutsAt.on {w w' : World} {B : Nat} {p : Option Addr} {n : Nat} {l : List Cut} (h : CutsAt w B p n l) (hb : Below B w w') : CutsAt w' B p n l :=
  ⟨h.len, fun i hi => by
    obtain ⟨b, o, e, hB, c0, c1, c2, c3⟩ := h.cells i hi
    exact ⟨b, o, e, hB, cell_low c0 hb hB, cell_low c1 hb hB, cell_low c2 hb hB, cell_low c3 hb hB⟩, h.bd⟩
theorem CutsAt.up {w : World} {B B' : Nat} {p : Option Addr} {n : Nat} {l : List Cut} (h : CutsAt w B p n l) (hB : B ≤ B') : CutsAt w B' p n l :=
  ⟨h.len, fun i hi => by
    obtain ⟨b, o, e, h1, c⟩ := h.cells i hi
    exact ⟨b, o, e, by omega, c⟩, h.bd⟩
theorem reduced_c (v m : Int) (w : World) (hv : I64 v) (h1 : 0 < m) (h2 : m ≤ 40000) : Calls Try.prog 37 #[.int .i64 v, .int .i64 m] w fun e w' => e = .returned (.int .i64 (v % m)) ∧ w' = w := by
  obtain ⟨v0, v1⟩ := hv
  have hb1 := Int.emod_nonneg v (show m ≠ 0 by omega)
  have hb2 := Int.emod_lt_of_pos v h1
  obtain ⟨t, ht⟩ : ∃ t, Int.tmod v m = t := ⟨_, rfl⟩
  have ht1 : -m < t ∧ t < m := by
    rw [← ht]
    exact ⟨by have := Int.lt_tmod_of_pos v h1; omega, Int.tmod_lt_of_pos v h1⟩
  have ht2 : Int.tmod (t + m) m = v % m := by
    rw [Int.tmod_eq_emod_of_nonneg (by omega), Int.add_emod_right, ← ht, Int.tmod_def]
    exact Int.sub_mul_emod_self_left v m (v.tdiv m)
  have Ht2 : Hid (Int.tmod (t + m) m = v % m) := ht2
  have hm0 : m ≠ 0 := by omega
  clear ht2
  generalize v % m = r at *
  have ht2 := Ht2.out
  go_enter Try.func37, Try.ntmps37
  go_wp2
  go_ret
  exact ⟨rfl, rfl⟩
/-! ### plain -/
def cutN (css : List (List Int)) (q : Cut) : List (List Int) :=
  css.set (q.n % 9).toNat (filTo (css.getD (q.n % 9).toNat []) (q.f % 32768).toNat (q.k % 17) (min (q.m % 5000).toNat (32768 - (q.f % 32768).toNat)))
def spoilN (css : List (List Int)) (l : List Cut) : Nat → List (List Int)
  | 0 => css
  | i + 1 => cutN (spoilN css l i) (l.getD i cut0)
/-! ### nine lists that lie apart -/
def Apart9 (g : Nat → Nat) : Prop := ∀ i j, i < 9 → j < 9 → i ≠ j → g i ≠ g j
theorem getD_setL (css : List (List Int)) (i j : Nat) (v : List Int) (hi : i < css.length) : (css.set i v).getD j [] = if i = j then v else css.getD j [] := by
  rw [List.getD_eq_getElem?_getD, List.getD_eq_getElem?_getD, List.getElem?_set]
  by_cases h : i = j
  · rw [if_pos h, if_pos h, if_pos hi]
    rfl
  · rw [if_neg h, if_neg h]
theorem set_same (css : List (List Int)) (i : Nat) (hi : i < css.length) : css.set i (css.getD i []) = css := by
  rw [List.getD_eq_getElem?_getD, List.getElem?_eq_getElem hi]
  exact List.set_getElem_self hi
theorem kinds_set {cs : List Int} (h : Kinds cs) (i : Nat) (v : Int) (hv : 0 ≤ v ∧ v ≤ 16) : Kinds (cs.set i v) := fun x hx => by
  rcases List.mem_or_eq_of_mem_set hx with h1 | h1
  · exact h x h1
  · rw [h1]; exact hv
theorem B9.set {w : World} {b : Nat} {g c : Nat → Nat} {css : List (List Int)} (h : B9 w b g c css) (hg : Apart9 g) (n i : Nat) (v : Int) (hn : n < 9) (hv : 0 ≤ v ∧ v ≤ 16) :
    B9 (w.setCell ⟨g n, i, none⟩ (.int .u8 v)) b g c (css.set n ((css.getD n []).set i v)) := by
  have hb : b ≠ g n := fun e => by
    have h1 := h.row 0 (by omega)
    have h2 := (h.pre n hn).cell (k := 0) (by rw [h.len n hn]; omega)
    rw [← e, h1] at h2
    cases h2
  refine ⟨by rw [List.length_set]; exact h.n, fun j hj => ?_, fun j hj => ?_, fun j hj => ?_, fun j hj => ?_⟩
  · rw [← h.row j hj]
    exact World.cell?_setCell_other w _ _ _ (fun e => hb (by cases e; rfl))
  · rw [getD_setL css n j _ (by rw [h.n]; exact hn)]
    by_cases e : n = j
    · subst e
      rw [if_pos rfl]
      exact (h.pre n hn).set i v
    · rw [if_neg e]
      exact (h.pre j hj).other (hg j n hj hn (Ne.symm e))
  · rw [getD_setL css n j _ (by rw [h.n]; exact hn)]
    by_cases e : n = j
    · rw [if_pos e, List.length_set]; exact h.len n hn
    · rw [if_neg e]; exact h.len j hj
  · rw [getD_setL css n j _ (by rw [h.n]; exact hn)]
    by_cases e : n = j
    · rw [if_pos e]; exact kinds_set (h.kin n hn) i v hv
    · rw [if_neg e]; exact h.kin j hj
/-- One more cell of a cut. -/
theorem B9.more {w : World} {b : Nat} {g c : Nat → Nat} {css : List (List Int)} {n f k : Nat} {v : Int} (h : B9 w b g c (css.set n (filTo (css.getD n []) f v k))) (hg : Apart9 g) (hn : n < 9) (hv : 0 ≤ v ∧ v ≤ 16) :
    B9 (w.setCell ⟨g n, f + k, none⟩ (.int .u8 v)) b g c (css.set n (filTo (css.getD n []) f v (k + 1))) := by
  have hl : css.length = 9 := by have := h.n; rwa [List.length_set] at this
  have := h.set hg n (f + k) v hn hv
  rw [getD_setL css n n _ (by omega), if_pos rfl, List.set_set] at this
  exact this
set_option maxRecDepth 100000 in
set_option maxHeartbeats 2000000 in
theorem spoilt_c (b cp : Nat) (g c : Nat → Nat) (css : List (List Int)) (B : Nat) (p : Option Addr) (n c' : Nat) (l : List Cut) (w : World) (hN : B9 w b g c css) (hg : Apart9 g) (hB : ∀ i, i < 9 → B ≤ g i) (hl : CutsAt w B p n l) (hn : n ≤ 9223372036854775807) :
    Calls Try.prog 17 #[.slice (some ⟨b, 0, none⟩) 9 cp, .slice p n c'] w fun e w' => e = .returned (.slice (some ⟨b, 0, none⟩) 9 cp) ∧ B9 w' b g c (spoilN css l (min n 100)) ∧ Below B w w' := by
  obtain ⟨Post, hPost⟩ : ∃ Post : Ending → World → Prop, Post = fun e w' => e = .returned (.slice (some ⟨b, 0, none⟩) 9 cp) ∧ B9 w' b g c (spoilN css l (min n 100)) ∧ Below B w w' := ⟨_, rfl⟩
  rw [← hPost]
  have HP : Hid (∀ w', B9 w' b g c (spoilN css l (min n 100)) → Below B w w' → Post (.returned (.slice (some ⟨b, 0, none⟩) 9 cp)) w') := fun w' h1 h2 => by rw [hPost]; exact ⟨rfl, h1, h2⟩
  clear hPost
  have HN : Hid (B9 w b g c css) := hN
  have Hg : Hid (Apart9 g) := hg
  have HB : Hid (∀ i, i < 9 → B ≤ g i) := hB
  have HL : Hid (CutsAt w B p n l) := hl
  clear hN hg hB hl
  go_enter Try.func17, Try.ntmps17
  go_wp2
  go_loopw [5] (fun v wr => ∃ i : Nat, v = .int .i64 (i : Int) ∧ i ≤ n ∧ i ≤ 100 ∧ Hid (B9 wr b g c (spoilN css l i) ∧ Below B w wr)) (fun v _ => 100 - (intOf v).toNat)
  case atStart => exact ⟨0, rfl, by omega, by omega, HN.out, Below.refl _ _⟩
  case round =>
    clear HN
    obtain ⟨i, rfl, hi1, hi2, HI⟩ := hrel
    by_cases hin : i < n
    case neg =>
      have h1 : ¬ (i : Int) < (n : Int) := by omega
      have R := HP.out wr (by rw [show min n 100 = i by omega]; exact HI.out.1) HI.out.2
      clear HP HI
      go_wp2
      exact R
    have hin' : (i : Int) < (n : Int) := by omega
    by_cases hi100 : i < 100
    case neg =>
      have h1 : ¬ (i : Int) < 100 := by omega
      have R := HP.out wr (by rw [show min n 100 = i by omega]; exact HI.out.1) HI.out.2
      clear HP HI
      go_wp2
      exact R
    have hi100' : (i : Int) < 100 := by omega
    obtain ⟨lb, lo, rfl, hlb, c0, c1, c2, c3⟩ := (HL.out.on HI.out.2).cells i hin
    obtain ⟨b0, b1, b2, b3⟩ := HL.out.bd i hin
    have Hc : Hid (spoilN css l (i + 1) = cutN (spoilN css l i) (l.getD i cut0)) := rfl
    have Hq : Hid (∃ q, l.getD i cut0 = q) := ⟨_, rfl⟩
    obtain ⟨q, hq⟩ := Hq.out
    rw [hq] at c0 c1 c2 c3 b0 b1 b2 b3 Hc
    obtain ⟨qn, qf, qm, qk⟩ := q
    have Hq3 : Hid (some (Value.int .i64 (l.getD i cut0).k) = some (.int .i64 qk)) := by show _ = _; rw [hq]
    clear hq Hq
    simp only at c0 c1 c2 c3 b0 b1 b2 b3
    have HI0 : Hid (B9 wr b g c (spoilN css l i) ∧ Below B w wr) := HI
    have d0 := fun w => reduced_c qn 9 w b0 (by omega) (by omega)
    have d1 := fun w => reduced_c qf 32768 w b1 (by omega) (by omega)
    have d2 := fun w => reduced_c qm 5000 w b2 (by omega) (by omega)
    have d3 := fun w => reduced_c qk 17 w b3 (by omega) (by omega)
    have Hcut : Hid (spoilN css l (i + 1) = (spoilN css l i).set (qn % 9).toNat (filTo ((spoilN css l i).getD (qn % 9).toNat []) (qf % 32768).toNat (qk % 17) (min (qm % 5000).toNat (32768 - (qf % 32768).toNat)))) := Hc.out
    obtain ⟨N, hN⟩ : ∃ N : Nat, qn % 9 = (N : Int) := ⟨(qn % 9).toNat, by omega⟩
    obtain ⟨Fm, hFm⟩ : ∃ Fm : Nat, qf % 32768 = (Fm : Int) := ⟨(qf % 32768).toNat, by omega⟩
    obtain ⟨M, hM⟩ : ∃ M : Nat, qm % 5000 = (M : Int) := ⟨(qm % 5000).toNat, by omega⟩
    have hN9 : N < 9 := by omega
    have hF3 : Fm < 32768 := by omega
    have hM5 : M < 5000 := by omega
    obtain ⟨K, hK⟩ : ∃ K : Int, qk % 17 = K := ⟨_, rfl⟩
    have hK17 : 0 ≤ K ∧ K ≤ 16 := by omega
    rw [hN, hFm, hM, hK, Int.toNat_natCast, Int.toNat_natCast, Int.toNat_natCast] at Hcut
    rw [hN] at d0
    rw [hFm] at d1
    rw [hM] at d2
    rw [hK] at d3
    clear hN hFm hM hK Hc b0 b1 b2 b3
    generalize spoilN css l i = css1 at HI HI0 Hcut
    have r0 := HI.out.1.row N hN9
    have hNi : (N : Int) < 9 := by omega
    have HgN : Hid (B ≤ g N) := HB.out N hN9
    obtain ⟨gN, hgN⟩ : ∃ gN, g N = gN := ⟨_, rfl⟩
    have HgE : Hid (g N = gN) := hgN
    rw [hgN] at r0
    clear hgN
    generalize c N = cN at r0
    go_wp2_with fail
    refine (d0 _).mono ?_
    clear d0
    rintro _ w' ⟨rfl, hw⟩
    replace hw := hw.symm
    subst hw
    go_wp2_with fail
    refine (d1 _).mono ?_
    clear d1
    rintro _ w' ⟨rfl, hw⟩
    replace hw := hw.symm
    subst hw
    go_wp2_with fail
    refine (d2 _).mono ?_
    clear d2
    rintro _ w' ⟨rfl, hw⟩
    replace hw := hw.symm
    subst hw
    clear c0 c1 c2 r0
    have HI2 : Hid (B9 wr b g c (css1.set N (filTo (css1.getD N []) Fm K 0)) ∧ Below B w wr) := ⟨by
      rw [show filTo (css1.getD N []) Fm K 0 = css1.getD N [] from rfl, set_same css1 N (by rw [HI.out.1.n]; exact hN9)]
      exact HI.out.1, HI.out.2⟩
    have HcK : Hid (∀ w', Below B w w' → w'.cell? ⟨lb, lo + i * 4 + 3, none⟩ = some (.int .i64 qk)) := fun w' hb => by
      obtain ⟨lb', lo', e, _, _, _, _, c3'⟩ := (HL.out.on hb).cells i hin
      cases e
      rw [c3']
      exact Hq3.out
    clear HI HI0 c3
    go_wp2
    go_loopw [9] (fun v wr => ∃ k : Nat, v = .int .i64 (k : Int) ∧ k ≤ M ∧ Fm + k ≤ 32768 ∧ Hid (B9 wr b g c (css1.set N (filTo (css1.getD N []) Fm K k)) ∧ Below B w wr)) (fun v _ => M - (intOf v).toNat)
    case atStart => exact ⟨0, rfl, by omega, by omega, HI2⟩
    case round =>
      clear HI2
      obtain ⟨k, rfl, hk1, hk2, HI⟩ := hrel
      by_cases hkM : k < M
      case neg =>
        have h1 : ¬ (k : Int) < (M : Int) := by omega
        have HI3 : Hid (B9 wr b g c (spoilN css l (i + 1)) ∧ Below B w wr) := ⟨by rw [Hcut.out, show min M (32768 - Fm) = k by omega]; exact HI.out.1, HI.out.2⟩
        clear HI HP
        go_wp2
        exact ⟨⟨i + 1, by simp, by omega, by omega, HI3⟩, by simp [intOf]; omega⟩
      have hkM' : (k : Int) < (M : Int) := by omega
      by_cases hkF : Fm + k < 32768
      case neg =>
        have h1 : ¬ (Fm : Int) + (k : Int) < 32768 := by omega
        have HI3 : Hid (B9 wr b g c (spoilN css l (i + 1)) ∧ Below B w wr) := ⟨by rw [Hcut.out, show min M (32768 - Fm) = k by omega]; exact HI.out.1, HI.out.2⟩
        clear HI HP
        go_wp2
        exact ⟨⟨i + 1, by simp, by omega, by omega, HI3⟩, by simp [intOf]; omega⟩
      have hkF' : (Fm : Int) + (k : Int) < 32768 := by omega
      have c3 := HcK.out wr HI.out.2
      have hlen : ((css1.set N (filTo (css1.getD N []) Fm K k)).getD N []).length = 32768 := HI.out.1.len N hN9
      have hp := HI.out.1.pre N hN9
      rw [HgE.out] at hp
      have q1 := hp.cell (k := Fm + k) (by rw [hlen]; exact hkF)
      have q2 := hp.free (Fm + k)
      have HI3 : Hid (B9 (wr.setCell ⟨gN, Fm + k, none⟩ (.int .u8 K)) b g c (css1.set N (filTo (css1.getD N []) Fm K (k + 1))) ∧ Below B w (wr.setCell ⟨gN, Fm + k, none⟩ (.int .u8 K))) := by
        have h1 := HI.out.1.more Hg.out hN9 hK17
        rw [HgE.out] at h1
        exact ⟨h1, HI.out.2.setCell (p := ⟨gN, Fm + k, none⟩) (by have := HgN.out; rw [HgE.out] at this; exact this) _⟩
      generalize ((css1.set N (filTo (css1.getD N []) Fm K k)).getD N []).getD (Fm + k) 0 = old at q1
      obtain ⟨K0, K1⟩ := hK17
      clear HI hp hlen HP
      go_wp2_with fail
      refine (d3 _).mono ?_
      rintro _ w' ⟨rfl, hw⟩
      replace hw := hw.symm
      subst hw
      go_wp2
      exact ⟨⟨k + 1, by simp, by omega, by omega, HI3⟩, by simp [intOf]; omega⟩
end Go.Proofs.Ytajjaeaknonmfaa