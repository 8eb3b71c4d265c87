/-
  container/heap over a cache's queue.
-/
import Derived.Test.YtpfhgkgkbefigaaCp
set_option maxRecDepth 20000
namespace Go.Proofs.Ytpfhgkgkbefigaa
open Go.RowKit

/-- The queue as a value behind the interface. -/
abbrev hv (c : Nat) : Value := .iface 58 (.pointer (some ⟨c, 3, none⟩))
/-- What the uses of the items are worth. -/
abbrev uq (D : Nat → It) (q : List Nat) : Nat → Nat := fq (fun b => (D b).u) q
theorem Qf.perm {c : Nat} {av : Option Addr} {q q' : List Nat} (h : q'.Perm q) {k : Nat} (hk : Qf c av q' k) : Qf c av q k := by
  rcases hk with h1 | h1 | h1
  · exact .inl h1
  · exact .inr (.inl h1)
  · exact .inr (.inr (h.mem_iff.1 h1))

/-- Where up stands. -/
structure US (B : Nat) (w : World) (c : Nat) (h : Hd) (av : Option Addr) (cap : Nat) (D : Nat → It) (q : List Nat) (n : Nat) (j : Nat) (q' : List Nat) (wr : World) : Prop where
  perm : q'.Perm q
  qh : QH B wr c h av cap D q'
  ui : UI n (uq D q') j
  chg : Chg (Qf c av q) w wr
  tail : ∀ k, n ≤ k → q'.getD k 0 = q.getD k 0
theorem up_c {B : Nat} {w : World} {c : Nat} {h : Hd} {av : Option Addr} {cap : Nat} {D : Nat → It} {q : List Nat} {j n : Nat} (H : QH B w c h av cap D q) (hj : j < n) (hnq : n ≤ q.length) (hu : UI n (uq D q) j) :
    Calls Try.prog 38 #[hv c, .int .i64 (j : Int)] w fun e w' => e = .returned (.tuple #[]) ∧ ∃ q', q'.Perm q ∧ (∀ k, n ≤ k → q'.getD k 0 = q.getD k 0) ∧ QH B w' c h av cap D q' ∧ Heap n (uq D q') ∧ Chg (Qf c av q) w w' := by
  obtain ⟨Post, hPost⟩ : ∃ Post : Ending → World → Prop, Post = fun e w' => e = .returned (.tuple #[]) ∧ ∃ q', q'.Perm q ∧ (∀ k, n ≤ k → q'.getD k 0 = q.getD k 0) ∧ QH B w' c h av cap D q' ∧ Heap n (uq D q') ∧ Chg (Qf c av q) w w' := ⟨_, rfl⟩
  rw [← hPost]
  have HP : Hid (∀ w' q', q'.Perm q → (∀ k, n ≤ k → q'.getD k 0 = q.getD k 0) → QH B w' c h av cap D q' → Heap n (uq D q') → Chg (Qf c av q) w w' → Post (.returned (.tuple #[])) w') := fun w' q' h1 h5 h2 h3 h4 => by rw [hPost]; exact ⟨rfl, q', h1, h5, h2, h3, h4⟩
  clear hPost
  have hL : ∀ W, (method 281 58 (.pointer (some ⟨c, 3, none⟩)) "Less").run Try.prog W = .ok (81, .pointer (some ⟨c, 3, none⟩)) W := fun _ => by kernel_rfl
  have hS : ∀ W, (method 281 58 (.pointer (some ⟨c, 3, none⟩)) "Swap").run Try.prog W = .ok (84, .pointer (some ⟨c, 3, none⟩)) W := fun _ => by kernel_rfl
  have H0 : Hid (US B w c h av cap D q n j q w) := ⟨List.Perm.refl _, H, hu, Chg.refl _ _, fun _ _ => rfl⟩
  have hn := H.sz
  clear H hu
  go_enter Try.func38, Try.ntmps38
  go_wp2
  go_loopw [1, 4] (fun vj vi wr => ∃ (j : Nat) (q' : List Nat), vj = .int .i64 (j : Int) ∧ j < n ∧ n ≤ q'.length ∧ q'.length ≤ 1000 ∧ Hid (US B w c h av cap D q n j q' wr)) (fun vj _ _ => (intOf vj).toNat)
  case atStart => exact ⟨j, q, rfl, hj, hnq, hn, H0⟩
  case round =>
    obtain ⟨j, q', rfl, hjn, hnq', hn, HI⟩ := hrel
    have hj : j < q'.length := by omega
    by_cases h0 : j = 0
    · subst h0
      have R := HP.out wr q' HI.out.perm HI.out.tail HI.out.qh (HI.out.ui.heap (fun h => absurd h (Nat.lt_irrefl 0))) HI.out.chg
      go_wp2
      go_end0
      exact R
    · have hp := par_lt (by omega : 0 < j)
      have hq : ((j : Int) - 1).tdiv 2 = (par j : Int) := by rw [Int.tdiv_eq_ediv_of_nonneg (by omega)]; unfold par; omega
      have hne : ¬ (par j : Int) = (j : Int) := by omega
      have hl := less_q HI.out.qh hj (Nat.lt_trans hp hj)
      by_cases hlt : uq D q' j < uq D q' (par j)
      · have hd : decide ((D (q'.getD j 0)).u < (D (q'.getD (par j) 0)).u) = true := decide_eq_true hlt
        rw [hd] at hl
        have HR : Hid (∀ wq, (∃ n, wq = wr.drewN n) → QH B wq c h av cap D q') := by rintro _ ⟨n, rfl⟩; exact HI.out.qh.same (fun _ _ => rfl)
        have HC : Hid (∀ wq, (∃ n, wq = wr.drewN n) → Chg (Qf c av q) w wq) := by rintro _ ⟨n, rfl⟩; exact HI.out.chg.drewN n
        have HS : Hid (∀ wq, QH B wq c h av cap D q' → Calls Try.prog 84 #[.pointer (some ⟨c, 3, none⟩), .int .i64 (par j : Int), .int .i64 (j : Int)] wq fun e w' => e = .returned (.tuple #[]) ∧ QH B w' c h av cap D (swL q' (par j) j) ∧ Chg (Qf c av q') wq w') := fun wq hq' => swap_q hq' (Nat.lt_trans hp hj) hj (by omega)
        have HU : Hid (UI n (sw (uq D q') (par j) j) (par j)) := HI.out.ui.step (by omega) hjn hlt
        have HT : Hid (∀ k, n ≤ k → (swL q' (par j) j).getD k 0 = q.getD k 0) := fun k hk => by rw [swL_o (by omega) (by omega)]; exact HI.out.tail k hk
        have HPm : Hid (q'.Perm q) := HI.out.perm
        generalize hpj : par j = pj at *
        clear hlt hd HI
        go_wp2_with fail
        refine hl.mono ?_
        clear hl
        rintro _ w1 ⟨rfl, hw1⟩
        have hQ1 := HR.out w1 hw1
        have HC1 : Hid (Chg (Qf c av q) w w1) := HC.out w1 hw1
        have hs := HS.out w1 hQ1
        clear hw1 HR HC HS hQ1
        go_wp2_with fail
        refine hs.mono ?_
        clear hs
        rintro _ w2 ⟨rfl, hQ2, hC2⟩
        have HF : Hid (US B w c h av cap D q n pj (swL q' pj j) w2) := by
          refine ⟨(swL_perm (Nat.lt_trans hp hj) hj).trans HPm.out, hQ2, ?_, HC1.out.trans hC2 (fun k hk => .inl (Qf.perm HPm.out hk)), HT.out⟩
          rw [uq, fq_sw (Nat.lt_trans hp hj) hj]
          exact HU.out
        clear hQ2 hC2 HC1 HU HPm HT
        go_wp2
        go_roundw
        case rel => exact ⟨pj, _, rfl, by omega, by rw [swL_len]; exact hnq', by rw [swL_len]; exact hn, HF⟩
        case measure => simp [intOf]; omega
      · have hd : decide ((D (q'.getD j 0)).u < (D (q'.getD (par j) 0)).u) = false := decide_eq_false hlt
        rw [hd] at hl
        have HR : Hid (∀ wq, (∃ n, wq = wr.drewN n) → Post (.returned (.tuple #[])) wq) := by
          rintro _ ⟨m, rfl⟩
          exact HP.out _ q' HI.out.perm HI.out.tail (HI.out.qh.same (fun _ _ => rfl)) (HI.out.ui.heap (fun _ => by omega)) (HI.out.chg.drewN m)
        generalize hpj : par j = pj at *
        clear hlt hd HI
        go_wp2_with fail
        refine hl.mono ?_
        clear hl
        rintro _ w1 ⟨rfl, hw1⟩
        have R := HR.out w1 hw1
        clear HR hw1
        go_wp2
        go_end0
        exact R
end Go.Proofs.Ytpfhgkgkbefigaa
