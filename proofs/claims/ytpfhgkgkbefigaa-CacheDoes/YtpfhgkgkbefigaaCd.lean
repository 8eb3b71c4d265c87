/-
  container/heap over a cache's queue: down.
-/
import Derived.Test.YtpfhgkgkbefigaaCh
set_option maxRecDepth 20000
namespace Go.Proofs.Ytpfhgkgkbefigaa
open Go.RowKit

/-- What down leaves. -/
def DownSay (B : Nat) (w : World) (c : Nat) (h : Hd) (av : Option Addr) (cap : Nat) (D : Nat → It) (q : List Nat) (i0 n : Nat) (e : Ending) (w' : World) : Prop :=
  ∃ (b : Bool) (q' : List Nat), e = .returned (.bool b) ∧ q'.Perm q ∧ (∀ k, n ≤ k → q'.getD k 0 = q.getD k 0) ∧ QH B w' c h av cap D q' ∧ Chg (Qf c av q) w w' ∧ (if b then Heap n (uq D q') else UI n (uq D q') i0)
/-- Where down stands. -/
structure DS (B : Nat) (w : World) (c : Nat) (h : Hd) (av : Option Addr) (cap : Nat) (D : Nat → It) (q : List Nat) (i0 n : Nat) (i : Nat) (q' : List Nat) (wr : World) : Prop where
  perm : q'.Perm q
  tail : ∀ k, n ≤ k → q'.getD k 0 = q.getD k 0
  qh : QH B wr c h av cap D q'
  chg : Chg (Qf c av q) w wr
  di : DI n (uq D q') i
  mv : i = i0 ∨ (i0 < i ∧ uq D q' (par i) ≤ uq D q' i)
section
variable {B : Nat} {w : World} {c : Nat} {h : Hd} {av : Option Addr} {cap : Nat} {D : Nat → It} {q : List Nat} {i0 n : Nat} {i : Nat} {q' : List Nat} {wr : World}
theorem DS.drew (S : DS B w c h av cap D q i0 n i q' wr) {wq : World} (hm : ∃ m, wq = wr.drewN m) : DS B w c h av cap D q i0 n i q' wq := by
  obtain ⟨m, rfl⟩ := hm
  exact ⟨S.perm, S.tail, S.qh.same (fun _ _ => rfl), S.chg.drewN m, S.di, S.mv⟩
theorem DS.ends (S : DS B w c h av cap D q i0 n i q' wr) (hd : ∀ d, 0 < d → d < n → par d = i → uq D q' i ≤ uq D q' d) : DownSay B w c h av cap D q i0 n (.returned (.bool (decide (i0 < i)))) wr := by
  refine ⟨_, q', rfl, S.perm, S.tail, S.qh, S.chg, ?_⟩
  rcases S.mv with rfl | ⟨h1, h2⟩
  · rw [if_neg (by simp)]
    exact S.di.up hd
  · rw [if_pos (by simpa using h1)]
    exact S.di.heap h2 hd
theorem DS.step (S : DS B w c h av cap D q i0 n i q' wr) (hn : n ≤ q'.length) {d : Nat} (hi0 : i0 ≤ i) (d0 : 0 < d) (dn : d < n) (dp : par d = i) (lt : uq D q' d < uq D q' i) (least : ∀ e, 0 < e → e < n → par e = i → uq D q' d ≤ uq D q' e)
    {w' : World} (h1 : QH B w' c h av cap D (swL q' i d)) (h2 : Chg (Qf c av q') wr w') : DS B w c h av cap D q i0 n d (swL q' i d) w' := by
  have hlt := par_lt d0
  have hi : i < q'.length := by omega
  have hd : d < q'.length := by omega
  have hs := S.di.step (fun _ => .inr trivial) d0 dn dp lt least
  refine ⟨(swL_perm hi hd).trans S.perm, fun k hk => ?_, h1, S.chg.trans h2 (fun k hk => .inl (Qf.perm S.perm hk)), ?_, .inr ⟨by omega, ?_⟩⟩
  · rw [swL_o (by omega) (by omega)]; exact S.tail k hk
  · rw [uq, fq_sw hi hd]; exact hs.1
  · rw [uq, fq_sw hi hd]; exact hs.2
end

set_option maxHeartbeats 1000000 in
theorem down_c {B : Nat} {w : World} {c : Nat} {h : Hd} {av : Option Addr} {cap : Nat} {D : Nat → It} {q : List Nat} {i0 n : Nat} (H : QH B w c h av cap D q) (hi : i0 < n) (hnq : n ≤ q.length) (hd : DI n (uq D q) i0) :
    Calls Try.prog 40 #[hv c, .int .i64 (i0 : Int), .int .i64 (n : Int)] w (DownSay B w c h av cap D q i0 n) := by
  obtain ⟨Post, hPost⟩ : ∃ Post : Ending → World → Prop, Post = DownSay B w c h av cap D q i0 n := ⟨_, rfl⟩
  rw [← hPost]
  have HP : Hid (∀ e w', DownSay B w c h av cap D q i0 n e w' → Post e w') := fun e w' h1 => by rw [hPost]; exact h1
  clear hPost
  have hL : ∀ W, (method 281 58 (.pointer (some ⟨c, 3, none⟩)) "Less").run Try.prog W = .ok (81, .pointer (some ⟨c, 3, none⟩)) W := fun _ => by kernel_rfl
  have hS : ∀ W, (method 281 58 (.pointer (some ⟨c, 3, none⟩)) "Swap").run Try.prog W = .ok (84, .pointer (some ⟨c, 3, none⟩)) W := fun _ => by kernel_rfl
  have H0 : Hid (DS B w c h av cap D q i0 n i0 q w) := ⟨List.Perm.refl _, fun _ _ => rfl, H, Chg.refl _ _, hd, .inl rfl⟩
  have hn := H.sz
  have hnn : n ≤ 1000 := by omega
  clear H hd
  go_enter Try.func40, Try.ntmps40
  go_wp2
  go_loopw [7, 8, 9, 10] (fun vi _ _ _ wr => ∃ (i : Nat) (q' : List Nat), vi = .int .i64 (i : Int) ∧ i0 ≤ i ∧ i < n ∧ q'.length = q.length ∧ Hid (DS B w c h av cap D q i0 n i q' wr)) (fun vi _ _ _ _ => n - (intOf vi).toNat)
  case atStart => exact ⟨i0, q, rfl, Nat.le_refl _, hi, rfl, H0⟩
  case round =>
    obtain ⟨i, q', rfl, hi0, hin, hlq, HI⟩ := hrel
    by_cases h1 : n ≤ 2 * i + 1
    · have h1' : (n : Int) ≤ 2 * (i : Int) + 1 := by omega
      have hge : (2 * (i : Int) + 1 ≥ (n : Int)) := h1'
      have R := HP.out _ _ (HI.out.ends (fun d d0 dn dp => by unfold par at dp; omega))
      clear HI H0
      go_wp2
      exact R
    · have h1' : ¬ (n : Int) ≤ 2 * (i : Int) + 1 := by omega
      have h1n : ¬ (2 * (i : Int) + 1 < 0) := by omega
      have hq' : q'.length ≤ 1000 := by omega
      by_cases h2 : 2 * i + 2 < n
      · have h2' : 2 * (i : Int) + 1 + 1 < (n : Int) := by omega
        have hl := less_q (i := 2 * i + 2) (j := 2 * i + 1) HI.out.qh (by omega) (by omega)
        by_cases hlt2 : uq D q' (2 * i + 2) < uq D q' (2 * i + 1)
        · have hd2 : decide ((D (q'.getD (2 * i + 2) 0)).u < (D (q'.getD (2 * i + 1) 0)).u) = true := decide_eq_true hlt2
          rw [hd2] at hl
          have hleast : ∀ e, 0 < e → e < n → par e = i → uq D q' (2 * i + 2) ≤ uq D q' e := fun e e0 en ep => by
            have : e = 2 * i + 1 ∨ e = 2 * i + 2 := by unfold par at ep; omega
            rcases this with rfl | rfl <;> omega
          push_cast at hl
          clear hd2 hlt2
          have HD1 : Hid (∀ wq, (∃ m, wq = wr.drewN m) → DS B w c h av cap D q i0 n i q' wq) := fun wq hw => HI.out.drew hw
          clear HI
          go_wp2_with fail
          refine hl.mono ?_
          clear hl
          rintro _ w2 ⟨rfl, hw2⟩
          have HI : Hid (DS B w c h av cap D q i0 n i q' w2) := HD1.out w2 hw2
          clear HD1 hw2
          have hl2 := less_q (i := 2 * i + 2) (j := i) HI.out.qh (by omega) (by omega)
          by_cases hlt : uq D q' (2 * i + 2) < uq D q' i
          · have hd : decide ((D (q'.getD (2 * i + 2) 0)).u < (D (q'.getD i 0)).u) = true := decide_eq_true hlt
            rw [hd] at hl2
            have HW : Hid (∀ wq, DS B w c h av cap D q i0 n i q' wq → Calls Try.prog 84 #[.pointer (some ⟨c, 3, none⟩), .int .i64 (i : Int), .int .i64 ((2 * i + 2 : Nat) : Int)] wq fun e w' => e = .returned (.tuple #[]) ∧ DS B w c h av cap D q i0 n (2 * i + 2) (swL q' i (2 * i + 2)) w') := fun wq hs => (swap_q hs.qh (by omega) (by omega) (by omega)).mono (fun e w' hh => ⟨hh.1, hs.step (by omega) hi0 (by omega) (by omega) (by unfold par; omega) hlt hleast hh.2.1 hh.2.2⟩)
            clear hlt hd hleast
            have HD : Hid (∀ wq, (∃ m, wq = w2.drewN m) → DS B w c h av cap D q i0 n i q' wq) := fun wq hw => HI.out.drew hw
            clear HI
            push_cast at hl2
            go_wp2_with fail
            refine hl2.mono ?_
            clear hl2
            rintro _ w3 ⟨rfl, hw3⟩
            have hs := HW.out w3 (HD.out w3 hw3)
            clear HW HD hw3
            push_cast at hs
            go_wp2_with fail
            refine hs.mono ?_
            clear hs
            rintro _ w4 ⟨rfl, hS4⟩
            have HS4 : Hid (DS B w c h av cap D q i0 n (2 * i + 2) (swL q' i (2 * i + 2)) w4) := hS4
            clear hS4
            go_wp2
            go_roundw
            case rel => exact ⟨2 * i + 2, _, by go_num, by omega, by omega, by rw [swL_len]; exact hlq, HS4⟩
            case measure => simp [intOf]; omega
          · have hd : decide ((D (q'.getD (2 * i + 2) 0)).u < (D (q'.getD i 0)).u) = false := decide_eq_false hlt
            rw [hd] at hl2
            have HE : Hid (∀ wq, (∃ m, wq = w2.drewN m) → Post (.returned (.bool (decide (i0 < i)))) wq) := fun wq hw => HP.out _ _ ((HI.out.drew hw).ends (fun d d0 dn dp => Nat.le_trans (by omega) (hleast d d0 dn dp)))
            clear hlt hd hleast HI
            push_cast at hl2
            go_wp2_with fail
            refine hl2.mono ?_
            clear hl2
            rintro _ w3 ⟨rfl, hw3⟩
            have R := HE.out w3 hw3
            clear HE hw3
            go_wp2
            exact R
        · have hd2 : decide ((D (q'.getD (2 * i + 2) 0)).u < (D (q'.getD (2 * i + 1) 0)).u) = false := decide_eq_false hlt2
          rw [hd2] at hl
          have hleast : ∀ e, 0 < e → e < n → par e = i → uq D q' (2 * i + 1) ≤ uq D q' e := fun e e0 en ep => by
            have : e = 2 * i + 1 ∨ e = 2 * i + 2 := by unfold par at ep; omega
            rcases this with rfl | rfl <;> omega
          push_cast at hl
          clear hd2 hlt2
          have HD1 : Hid (∀ wq, (∃ m, wq = wr.drewN m) → DS B w c h av cap D q i0 n i q' wq) := fun wq hw => HI.out.drew hw
          clear HI
          go_wp2_with fail
          refine hl.mono ?_
          clear hl
          rintro _ w2 ⟨rfl, hw2⟩
          have HI : Hid (DS B w c h av cap D q i0 n i q' w2) := HD1.out w2 hw2
          clear HD1 hw2
          have hl2 := less_q (i := 2 * i + 1) (j := i) HI.out.qh (by omega) (by omega)
          by_cases hlt : uq D q' (2 * i + 1) < uq D q' i
          · have hd : decide ((D (q'.getD (2 * i + 1) 0)).u < (D (q'.getD i 0)).u) = true := decide_eq_true hlt
            rw [hd] at hl2
            have HW : Hid (∀ wq, DS B w c h av cap D q i0 n i q' wq → Calls Try.prog 84 #[.pointer (some ⟨c, 3, none⟩), .int .i64 (i : Int), .int .i64 ((2 * i + 1 : Nat) : Int)] wq fun e w' => e = .returned (.tuple #[]) ∧ DS B w c h av cap D q i0 n (2 * i + 1) (swL q' i (2 * i + 1)) w') := fun wq hs => (swap_q hs.qh (by omega) (by omega) (by omega)).mono (fun e w' hh => ⟨hh.1, hs.step (by omega) hi0 (by omega) (by omega) (by unfold par; omega) hlt hleast hh.2.1 hh.2.2⟩)
            clear hlt hd hleast
            have HD : Hid (∀ wq, (∃ m, wq = w2.drewN m) → DS B w c h av cap D q i0 n i q' wq) := fun wq hw => HI.out.drew hw
            clear HI
            push_cast at hl2
            go_wp2_with fail
            refine hl2.mono ?_
            clear hl2
            rintro _ w3 ⟨rfl, hw3⟩
            have hs := HW.out w3 (HD.out w3 hw3)
            clear HW HD hw3
            push_cast at hs
            go_wp2_with fail
            refine hs.mono ?_
            clear hs
            rintro _ w4 ⟨rfl, hS4⟩
            have HS4 : Hid (DS B w c h av cap D q i0 n (2 * i + 1) (swL q' i (2 * i + 1)) w4) := hS4
            clear hS4
            go_wp2
            go_roundw
            case rel => exact ⟨2 * i + 1, _, by go_num, by omega, by omega, by rw [swL_len]; exact hlq, HS4⟩
            case measure => simp [intOf]; omega
          · have hd : decide ((D (q'.getD (2 * i + 1) 0)).u < (D (q'.getD i 0)).u) = false := decide_eq_false hlt
            rw [hd] at hl2
            have HE : Hid (∀ wq, (∃ m, wq = w2.drewN m) → Post (.returned (.bool (decide (i0 < i)))) wq) := fun wq hw => HP.out _ _ ((HI.out.drew hw).ends (fun d d0 dn dp => Nat.le_trans (by omega) (hleast d d0 dn dp)))
            clear hlt hd hleast HI
            push_cast at hl2
            go_wp2_with fail
            refine hl2.mono ?_
            clear hl2
            rintro _ w3 ⟨rfl, hw3⟩
            have R := HE.out w3 hw3
            clear HE hw3
            go_wp2
            exact R
      · have h2' : ¬ 2 * (i : Int) + 1 + 1 < (n : Int) := by omega
        have hleast : ∀ e, 0 < e → e < n → par e = i → uq D q' (2 * i + 1) ≤ uq D q' e := fun e e0 en ep => by
          have : e = 2 * i + 1 := by unfold par at ep; omega
          rw [this]
          exact Nat.le_refl _
        have h2d : decide (2 * (i : Int) + 1 + 1 < (n : Int)) = false := decide_eq_false h2'
        go_wp2_with fail
        have hl2 := less_q (i := 2 * i + 1) (j := i) HI.out.qh (by omega) (by omega)
        by_cases hlt : uq D q' (2 * i + 1) < uq D q' i
        · have hd : decide ((D (q'.getD (2 * i + 1) 0)).u < (D (q'.getD i 0)).u) = true := decide_eq_true hlt
          rw [hd] at hl2
          have HW : Hid (∀ wq, DS B w c h av cap D q i0 n i q' wq → Calls Try.prog 84 #[.pointer (some ⟨c, 3, none⟩), .int .i64 (i : Int), .int .i64 ((2 * i + 1 : Nat) : Int)] wq fun e w' => e = .returned (.tuple #[]) ∧ DS B w c h av cap D q i0 n (2 * i + 1) (swL q' i (2 * i + 1)) w') := fun wq hs => (swap_q hs.qh (by omega) (by omega) (by omega)).mono (fun e w' hh => ⟨hh.1, hs.step (by omega) hi0 (by omega) (by omega) (by unfold par; omega) hlt hleast hh.2.1 hh.2.2⟩)
          clear hlt hd hleast
          have HD : Hid (∀ wq, (∃ m, wq = wr.drewN m) → DS B w c h av cap D q i0 n i q' wq) := fun wq hw => HI.out.drew hw
          clear HI
          push_cast at hl2
          go_wp2_with fail
          refine hl2.mono ?_
          clear hl2
          rintro _ w3 ⟨rfl, hw3⟩
          have hs := HW.out w3 (HD.out w3 hw3)
          clear HW HD hw3
          push_cast at hs
          go_wp2_with fail
          refine hs.mono ?_
          clear hs
          rintro _ w4 ⟨rfl, hS4⟩
          have HS4 : Hid (DS B w c h av cap D q i0 n (2 * i + 1) (swL q' i (2 * i + 1)) w4) := hS4
          clear hS4
          go_wp2
          go_roundw
          case rel => exact ⟨2 * i + 1, _, by go_num, by omega, by omega, by rw [swL_len]; exact hlq, HS4⟩
          case measure => simp [intOf]; omega
        · have hd : decide ((D (q'.getD (2 * i + 1) 0)).u < (D (q'.getD i 0)).u) = false := decide_eq_false hlt
          rw [hd] at hl2
          have HE : Hid (∀ wq, (∃ m, wq = wr.drewN m) → Post (.returned (.bool (decide (i0 < i)))) wq) := fun wq hw => HP.out _ _ ((HI.out.drew hw).ends (fun d d0 dn dp => Nat.le_trans (by omega) (hleast d d0 dn dp)))
          clear hlt hd hleast HI
          push_cast at hl2
          go_wp2_with fail
          refine hl2.mono ?_
          clear hl2
          rintro _ w3 ⟨rfl, hw3⟩
          have R := HE.out w3 hw3
          clear HE hw3
          go_wp2
          exact R
end Go.Proofs.Ytpfhgkgkbefigaa
