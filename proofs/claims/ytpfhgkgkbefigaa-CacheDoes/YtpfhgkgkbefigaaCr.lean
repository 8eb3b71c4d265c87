/-
  container/heap over a cache's queue: Remove.
-/
import Derived.Test.YtpfhgkgkbefigaaCe
set_option maxRecDepth 20000
namespace Go.Proofs.Ytpfhgkgkbefigaa
open Go.RowKit

theorem take_last {q : List Nat} {n : Nat} (hl : q.length = n + 1) : (q.getD n 0 :: q.take n).Perm q := by
  have e : q = q.take n ++ [q.getD n 0] := by
    have h1 : q = q.take n ++ q.drop n := (List.take_append_drop n q).symm
    have h2 : q.drop n = [q.getD n 0] := by
      rw [List.drop_eq_getElem_cons (by omega), List.drop_eq_nil_of_le (by omega)]
      simp [hl]
    rw [h2] at h1
    exact h1
  conv => rhs; rw [e]
  exact (List.perm_append_comm (l₁ := [q.getD n 0]) (l₂ := q.take n))
theorem uq_take {D : Nat → It} {q : List Nat} {n k : Nat} (hk : k < n) : uq D (q.take n) k = uq D q k := by
  unfold uq fq
  rw [getD_take hk]
/-- What Remove leaves. -/
def RemSay (B : Nat) (w : World) (c : Nat) (h : Hd) (av : Option Addr) (cap : Nat) (D : Nat → It) (q : List Nat) (b : Nat) (w' : World) : Prop :=
  ∃ q', (b :: q').Perm q ∧ QH B w' c h av cap D q' ∧ Item w' b (D b) (-1) ∧ Heap q'.length (uq D q') ∧ Chg (Qf c av q) w w'

set_option maxHeartbeats 1000000 in
theorem hremove_c {B : Nat} {w : World} {c : Nat} {h : Hd} {av : Option Addr} {cap : Nat} {D : Nat → It} {q : List Nat} {i : Nat} (H : QH B w c h av cap D q) (hh : Heap q.length (uq D q)) (hi : i < q.length) :
    Calls Try.prog 32 #[hv c, .int .i64 (i : Int)] w fun e w' => e = .returned (.iface 54 (pv (q.getD i 0))) ∧ RemSay B w c h av cap D q (q.getD i 0) w' := by
  obtain ⟨Post, hPost⟩ : ∃ Post : Ending → World → Prop, Post = fun e w' => e = .returned (.iface 54 (pv (q.getD i 0))) ∧ RemSay B w c h av cap D q (q.getD i 0) w' := ⟨_, rfl⟩
  rw [← hPost]
  have HP : Hid (∀ w', RemSay B w c h av cap D q (q.getD i 0) w' → Post (.returned (.iface 54 (pv (q.getD i 0)))) w') := fun w' h1 => by rw [hPost]; exact ⟨rfl, h1⟩
  clear hPost
  obtain ⟨n, hl⟩ : ∃ n, q.length = n + 1 := ⟨q.length - 1, by omega⟩
  have hLn : ∀ W, (method 281 58 (.pointer (some ⟨c, 3, none⟩)) "Len").run Try.prog W = .ok (80, .pointer (some ⟨c, 3, none⟩)) W := fun _ => by kernel_rfl
  have hSw : ∀ W, (method 281 58 (.pointer (some ⟨c, 3, none⟩)) "Swap").run Try.prog W = .ok (84, .pointer (some ⟨c, 3, none⟩)) W := fun _ => by kernel_rfl
  have hPo : ∀ W, (method 281 58 (.pointer (some ⟨c, 3, none⟩)) "Pop").run Try.prog W = .ok (82, .pointer (some ⟨c, 3, none⟩)) W := fun _ => by kernel_rfl
  have hln := len_q H
  rw [hl] at hln
  push_cast at hln
  have hsz := H.sz
  -- the end of it: Pop
  have HPop : Hid (∀ w1 q1, q1.Perm q → q1.getD n 0 = q.getD i 0 → QH B w1 c h av cap D q1 → Heap n (uq D q1) → Chg (Qf c av q) w w1 → Calls Try.prog 82 #[.pointer (some ⟨c, 3, none⟩)] w1 fun e w' => e = .returned (.iface 54 (pv (q.getD i 0))) ∧ Post (.returned (.iface 54 (pv (q.getD i 0)))) w') := fun w1 q1 h1 h2 h3 h4 h5 => by
    have hl1 : q1.length = n + 1 := by rw [h1.length_eq, hl]
    refine (pop_q h3 hl1).mono ?_
    rw [h2]
    rintro e w2 ⟨rfl, Q2, I2, C2⟩
    refine ⟨rfl, HP.out w2 ⟨q1.take n, ?_, Q2, I2, ?_, h5.trans C2 (fun k hk => .inl (Qf.perm h1 hk))⟩⟩
    · have := take_last hl1
      rw [h2] at this
      exact this.trans h1
    · have hlt : (q1.take n).length = n := by rw [List.length_take]; omega
      rw [hlt]
      exact h4.less (Nat.le_refl _) (fun k hk => uq_take hk)
  by_cases hin : n = i
  · subst hin
    have hp := HPop.out w q (List.Perm.refl _) rfl H (hh.less (by omega) (fun _ _ => rfl)) (Chg.refl _ _)
    clear HPop HP H hh
    generalize q.getD n 0 = bb at *
    go_enter Try.func32, Try.ntmps32
    go_wp2_with fail
    refine hln.mono ?_
    clear hln
    rintro _ w1 ⟨rfl, hw⟩
    replace hw := hw.symm
    subst hw
    go_wp2_with fail
    refine hp.mono ?_
    clear hp
    rintro _ w2 ⟨rfl, R⟩
    go_wp2
    exact R
  · have hi' : i < n := by omega
    have hne : ¬ (n : Int) = (i : Int) := by omega
    have hs := swap_q H hi (j := n) (by omega) (by omega)
    have HD : Hid (∀ w1, QH B w1 c h av cap D (swL q i n) → Calls Try.prog 40 #[hv c, .int .i64 (i : Int), .int .i64 (n : Int)] w1 (DownSay B w1 c h av cap D (swL q i n) i n)) := fun w1 h1 => by
      refine down_c h1 hi' (by rw [swL_len]; omega) (hh.other (by omega) (fun k hk hki => ?_))
      unfold uq fq
      rw [swL_o hki (by omega)]
    have HU : Hid (∀ w1 (b : Bool) q1 w2, Chg (Qf c av q) w w1 → q1.Perm (swL q i n) → (∀ k, n ≤ k → q1.getD k 0 = (swL q i n).getD k 0) → QH B w2 c h av cap D q1 → Chg (Qf c av (swL q i n)) w1 w2 → (if b then Heap n (uq D q1) else UI n (uq D q1) i) → (b = true → Calls Try.prog 82 #[.pointer (some ⟨c, 3, none⟩)] w2 fun e w' => e = .returned (.iface 54 (pv (q.getD i 0))) ∧ Post (.returned (.iface 54 (pv (q.getD i 0)))) w') ∧ (b = false → Calls Try.prog 38 #[hv c, .int .i64 (i : Int)] w2 fun e w3 => e = .returned (.tuple #[]) ∧ Calls Try.prog 82 #[.pointer (some ⟨c, 3, none⟩)] w3 fun e w' => e = .returned (.iface 54 (pv (q.getD i 0))) ∧ Post (.returned (.iface 54 (pv (q.getD i 0)))) w')) := fun w1 b q1 w2 c1 h1 h5 h2 h3 h4 => by
      have hps := swL_perm hi (j := n) (by omega)
      have p1 := h1.trans hps
      have e1 : q1.getD n 0 = q.getD i 0 := by rw [h5 n (Nat.le_refl _), swL_r (by omega)]
      have c2 : Chg (Qf c av q) w w2 := c1.trans h3 (fun k hk => .inl (Qf.perm hps hk))
      refine ⟨fun hb => ?_, fun hb => ?_⟩
      · rw [hb, if_pos rfl] at h4
        exact HPop.out w2 q1 p1 e1 h2 h4 c2
      · rw [hb, if_neg (by simp)] at h4
        refine (up_c h2 (n := n) hi' (by rw [p1.length_eq]; omega) h4).mono ?_
        rintro e w3 ⟨rfl, q2, p2, t2, Q2, H2, C2⟩
        exact ⟨rfl, HPop.out w3 q2 (p2.trans p1) (by rw [t2 n (Nat.le_refl _)]; exact e1) Q2 H2 (c2.trans C2 (fun k hk => .inl (Qf.perm p1 hk)))⟩
    clear HPop HP H hh
    generalize q.getD i 0 = bb at *
    go_enter Try.func32, Try.ntmps32
    go_wp2_with fail
    refine hln.mono ?_
    clear hln
    rintro _ w1 ⟨rfl, hw⟩
    replace hw := hw.symm
    subst hw
    go_wp2_with fail
    refine hs.mono ?_
    clear hs
    rintro _ w2 ⟨rfl, hQ2, hC2⟩
    have hd := HD.out w2 hQ2
    have HC2 : Hid (Chg (Qf c av q) w w2) := hC2
    clear HD hQ2 hC2
    go_wp2_with fail
    refine hd.mono ?_
    clear hd
    rintro _ w3 ⟨b, q1, rfl, h1, h5, h2, h3, h4⟩
    have HB := HU.out w2 b q1 w3 HC2.out h1 h5 h2 h3 h4
    clear HU HC2 h1 h2 h3 h4 h5
    cases b with
    | true =>
      have hp := HB.1 rfl
      clear HB
      go_wp2_with fail
      refine hp.mono ?_
      clear hp
      rintro _ w4 ⟨rfl, R⟩
      go_wp2
      exact R
    | false =>
      have hu := HB.2 rfl
      clear HB
      go_wp2_with fail
      refine hu.mono ?_
      clear hu
      rintro _ w4 ⟨rfl, hp⟩
      go_wp2_with fail
      refine hp.mono ?_
      clear hp
      rintro _ w5 ⟨rfl, R⟩
      go_wp2
      exact R
end Go.Proofs.Ytpfhgkgkbefigaa
