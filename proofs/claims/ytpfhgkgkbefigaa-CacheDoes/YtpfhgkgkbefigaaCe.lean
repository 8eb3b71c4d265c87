/-
  container/heap over a cache's queue: Push, Fix, Remove.
-/
import Derived.Test.YtpfhgkgkbefigaaCd
set_option maxRecDepth 20000
namespace Go.Proofs.Ytpfhgkgkbefigaa
open Go.RowKit

/-- A row of items at B or above. -/
def T54 (B : Nat) (w : World) (k : Nat) : Prop := B ≤ k ∧ ∃ cur, w.heap[k]? = some (.cells cur 54 (0, 0))

theorem hfix_c {B : Nat} {w : World} {c : Nat} {h : Hd} {av : Option Addr} {cap : Nat} {D : Nat → It} {q : List Nat} {i : Nat} (H : QH B w c h av cap D q) (hi : i < q.length) (hd : DI q.length (uq D q) i) :
    Calls Try.prog 39 #[hv c, .int .i64 (i : Int)] w fun e w' => e = .returned (.tuple #[]) ∧ ∃ q', q'.Perm q ∧ QH B w' c h av cap D q' ∧ Heap q'.length (uq D q') ∧ Chg (Qf c av q) w w' := by
  obtain ⟨Post, hPost⟩ : ∃ Post : Ending → World → Prop, Post = fun e w' => e = .returned (.tuple #[]) ∧ ∃ q', q'.Perm q ∧ QH B w' c h av cap D q' ∧ Heap q'.length (uq D q') ∧ Chg (Qf c av q) w w' := ⟨_, rfl⟩
  rw [← hPost]
  have HP : Hid (∀ w' q', q'.Perm q → QH B w' c h av cap D q' → Heap q'.length (uq D q') → Chg (Qf c av q) w w' → Post (.returned (.tuple #[])) w') := fun w' q' h1 h2 h3 h4 => by rw [hPost]; exact ⟨rfl, q', h1, h2, h3, h4⟩
  clear hPost
  have hLn : ∀ W, (method 281 58 (.pointer (some ⟨c, 3, none⟩)) "Len").run Try.prog W = .ok (80, .pointer (some ⟨c, 3, none⟩)) W := fun _ => by kernel_rfl
  have hl := len_q H
  have hdn := down_c H hi (Nat.le_refl _) hd
  have HU : Hid (∀ (b : Bool) q' w', q'.Perm q → QH B w' c h av cap D q' → Chg (Qf c av q) w w' → (if b then Heap q.length (uq D q') else UI q.length (uq D q') i) → (b = true → Post (.returned (.tuple #[])) w') ∧ (b = false → Calls Try.prog 38 #[hv c, .int .i64 (i : Int)] w' fun e w' => e = .returned (.tuple #[]) ∧ Post (.returned (.tuple #[])) w')) := fun b q' w' h1 h2 h3 h4 => by
    have hlen := h1.length_eq
    refine ⟨fun hb => ?_, fun hb => ?_⟩
    · rw [hb, if_pos rfl] at h4
      exact HP.out w' q' h1 h2 (by rw [hlen]; exact h4) h3
    · rw [hb, if_neg (by simp)] at h4
      refine (up_c h2 (n := q.length) hi (by omega) h4).mono ?_
      rintro e w2 ⟨rfl, q2, p2, _, Q2, H2, C2⟩
      have p3 := p2.trans h1
      exact ⟨rfl, HP.out w2 q2 p3 Q2 (by rw [p3.length_eq]; exact H2) (h3.trans C2 (fun k hk => .inl (Qf.perm h1 hk)))⟩
  clear H hd HP
  go_enter Try.func39, Try.ntmps39
  go_wp2_with fail
  refine hl.mono ?_
  clear hl
  rintro _ w1 ⟨rfl, hw⟩
  replace hw := hw.symm
  subst hw
  go_wp2_with fail
  refine hdn.mono ?_
  clear hdn
  rintro _ w2 ⟨b, q', rfl, h1, _, h2, h3, h4⟩
  have HB := HU.out b q' w2 h1 h2 h3 h4
  clear HU h1 h2 h3 h4
  cases b with
  | true =>
    have R := HB.1 rfl
    clear HB
    go_wp2
    go_end0
    exact R
  | false =>
    have hu := HB.2 rfl
    clear HB
    go_wp2_with fail
    refine hu.mono ?_
    clear hu
    rintro _ w3 ⟨rfl, R⟩
    go_wp2
    go_end0
    exact R

theorem hpush_c {B : Nat} {w : World} {c : Nat} {h : Hd} {av : Option Addr} {cap : Nat} {D : Nat → It} {q : List Nat} {b : Nat} {p : Int} (H : QH B w c h av cap D q) (hh : Heap q.length (uq D q)) (hb : Item w b (D b) p) (hbq : b ∉ q) (hBb : B ≤ b) (hlq : q.length < 1000) :
    Calls Try.prog 26 #[hv c, .iface 54 (pv b)] w fun e w' => e = .returned (.tuple #[]) ∧ ∃ av' cap' q', q'.Perm (q ++ [b]) ∧ QH B w' c h av' cap' D q' ∧ Heap q'.length (uq D q') ∧ Chg (fun k => Qf c av q k ∨ k = b ∨ T54 B w k) w w' := by
  obtain ⟨Post, hPost⟩ : ∃ Post : Ending → World → Prop, Post = fun e w' => e = .returned (.tuple #[]) ∧ ∃ av' cap' q', q'.Perm (q ++ [b]) ∧ QH B w' c h av' cap' D q' ∧ Heap q'.length (uq D q') ∧ Chg (fun k => Qf c av q k ∨ k = b ∨ T54 B w k) w w' := ⟨_, rfl⟩
  rw [← hPost]
  have HP : Hid (∀ w' av' cap' q', q'.Perm (q ++ [b]) → QH B w' c h av' cap' D q' → Heap q'.length (uq D q') → Chg (fun k => Qf c av q k ∨ k = b ∨ T54 B w k) w w' → Post (.returned (.tuple #[])) w') := fun w' a' c' q' h1 h2 h3 h4 => by rw [hPost]; exact ⟨rfl, a', c', q', h1, h2, h3, h4⟩
  clear hPost
  have hLn : ∀ W, (method 281 58 (.pointer (some ⟨c, 3, none⟩)) "Len").run Try.prog W = .ok (80, .pointer (some ⟨c, 3, none⟩)) W := fun _ => by kernel_rfl
  have hPu : ∀ W, (method 281 58 (.pointer (some ⟨c, 3, none⟩)) "Push").run Try.prog W = .ok (83, .pointer (some ⟨c, 3, none⟩)) W := fun _ => by kernel_rfl
  have hp := push_q H hb hbq hBb hlq
  have HU : Hid (∀ av' cap' w', QH B w' c h av' cap' D (q ++ [b]) → Chg (fun k => Qf c av q k ∨ k = b) w w' → Calls Try.prog 38 #[hv c, .int .i64 (q.length : Int)] w' fun e w' => e = .returned (.tuple #[]) ∧ Post (.returned (.tuple #[])) w') := fun av' cap' w' h2 h3 => by
    have hu : UI (q.length + 1) (uq D (q ++ [b])) q.length := hh.more (fun k hk => by unfold uq fq; rw [getD_snoc_l hk])
    have hlen : (q ++ [b]).length = q.length + 1 := by simp
    refine (up_c h2 (n := q.length + 1) (Nat.lt_succ_self _) (by omega) hu).mono ?_
    rintro e w2 ⟨rfl, q2, p2, _, Q2, H2, C2⟩
    refine ⟨rfl, HP.out w2 av' cap' q2 p2 Q2 (by rw [p2.length_eq, hlen]; exact H2) ?_⟩
    refine (h3.mono (fun k hk => hk.elim .inl (fun e => .inr (.inl e)))).trans C2 (fun k hk => ?_)
    rcases hk with h5 | h5 | h5
    · exact .inl (.inl (.inl h5))
    · by_cases h6 : w.heap.size ≤ k
      · exact .inr h6
      · by_cases h7 : Qf c av q k ∨ k = b
        · exact .inl (h7.elim .inl (fun e => .inr (.inl e)))
        · have hR := h2.row
          rw [h5] at hR
          obtain ⟨cur, hg, hB⟩ := hR.blk
          rw [h3.block k (by omega) h7] at hg
          exact .inl (.inr (.inr ⟨hB, cur, hg⟩))
    · rcases List.mem_append.1 h5 with h6 | h6
      · exact .inl (.inl (.inr (.inr h6)))
      · exact .inl (.inr (.inl (List.mem_singleton.1 h6)))
  clear H hb hh HP hbq hBb
  have hsub : ((q.length : Int) + 1 - 1) = (q.length : Int) := by omega
  go_enter Try.func26, Try.ntmps26
  go_wp2_with fail
  refine hp.mono ?_
  clear hp
  rintro _ w1 ⟨rfl, av', cap', h2, h3⟩
  have hl := len_q h2
  have hu := HU.out av' cap' w1 h2 h3
  rw [List.length_append, List.length_singleton] at hl
  push_cast at hl
  clear HU h2 h3
  go_wp2_with fail
  refine hl.mono ?_
  clear hl
  rintro _ w2 ⟨rfl, hw⟩
  subst hw
  go_wp2_with fail
  refine hu.mono ?_
  clear hu
  rintro _ w3 ⟨rfl, R⟩
  go_wp2
  go_end0
  exact R
end Go.Proofs.Ytpfhgkgkbefigaa
