/-
  The landed cache: Unpin.
-/
import Derived.Test.YtpfhgkgkbefigaaCn
set_option maxRecDepth 20000
namespace Go.Proofs.Ytpfhgkgkbefigaa
open Go.RowKit Go.Maps

section
variable {B : Nat} {w : World} {c : Nat} {most : Int} {l : List E} {N : Nat}
theorem unpin_c (H : CS B w c most l N) {x z : Int} (hx : I64 x) (hz : I64 z) (hN : N ≤ 900) : Calls Try.prog 15 #[.pointer (some ⟨c, 0, none⟩), valA x z] w (PinSay B w c most l N x z false) := by
  obtain ⟨h, av, cap, D, q, I, Dm, H⟩ := H
  obtain ⟨Post, hPost⟩ : ∃ Post : Ending → World → Prop, Post = PinSay B w c most l N x z false := ⟨_, rfl⟩
  rw [← hPost]
  have HP : Hid (∀ e w', PinSay B w c most l N x z false e w' → Post e w') := fun e w' h1 => by rw [hPost]; exact h1
  clear hPost
  obtain ⟨hb0, x0, x1⟩ := box_new w x z
  have H1 := H.below hb0
  have hfd := find_c H1.cc hx hz
  have hfm := find_map D q I x z
  rw [← H.eq] at hfm
  cases hlk : lookI D I x z with
  | none =>
    rw [hlk] at hfd hfm
    have hok : okE l x z false = false := by unfold okE; rw [hfm]; rfl
    have R : Hid (∀ w2, Below (w.alloc (.cells #[.int .i64 x, .int .i64 z] 31)).heap.size (w.alloc (.cells #[.int .i64 x, .int .i64 z] 31)) w2 → Post (.returned (.bool false)) w2) := fun w2 hb => HP.out _ _ (H.idle hok (hb0.trans (hb.mono hb0.size)))
    clear HP H H1 hfm hlk hb0 hok
    unfold pvo at hfd
    go_enter Try.func15, Try.ntmps15
    go_upto_region 1 with fail
    generalize w.alloc (.cells #[.int .i64 x, .int .i64 z] 31) = w0 at *
    go_wp2_with fail
    refine hfd.mono ?_
    clear hfd
    rintro _ w2 ⟨rfl, hb⟩
    have R2 := R.out w2 hb
    clear R hb
    go_wp2
    exact R2
  | some b =>
    rw [hlk] at hfd hfm
    obtain ⟨hb, ex, ez⟩ := lookI_some hlk
    obtain ⟨p, hi, hpq, hpl, hp1, hp2⟩ := H.cc.item hb
    have HI : Hid (∀ w2, Below (w.alloc (.cells #[.int .i64 x, .int .i64 z] 31)).heap.size (w.alloc (.cells #[.int .i64 x, .int .i64 z] 31)) w2 → Below w.heap.size w w2) := fun w2 hb => hb0.trans (hb.mono hb0.size)
    by_cases hbq : b ∉ q
    · have hok : okE l x z false = true := by
        unfold okE
        rw [hfm]
        show (decide (b ∉ q) != false) = true
        simp [hbq]
      have hp' := hpq.2 hbq
      have HU : Hid (∀ w2, Below w.heap.size w w2 → (Calls Try.prog 31 #[pv b] w2 fun e w' => e = .returned (.bool true) ∧ w' = w2) ∧ Calls Try.prog 26 #[hv c, .iface 54 (pv b)] w2 fun e w3 => e = .returned (.tuple #[]) ∧ Post (.returned (.bool true)) w3) := fun w2 hb2 => by
        have H2 := H.below hb2
        have hi2 : Item w2 b (D b) p := hi.same (hb2.block _ hi.lt)
        refine ⟨by have := pinned_c hi2; rw [decide_eq_true hp'] at this; exact this, ?_⟩
        have hql := H.cc.qlen
        have hln := H.ln
        refine (hpush_c H2.cc.qh H2.cc.hp hi2 hbq (H.cc.lo b hb) (by omega)).mono ?_
        rintro e w3 ⟨rfl, av', cap', q', h1, h2, h3, h4⟩
        have hmem : ∀ k, k ≠ b → (k ∈ q' ↔ k ∈ q) := fun k hk => by
          rw [h1.mem_iff, List.mem_append, List.mem_singleton]
          exact ⟨fun h => h.resolve_right hk, .inl⟩
        have hbq' : b ∈ q' := h1.mem_iff.2 (by simp)
        have hF : ∀ k, (Qf c av q k ∨ k = b ∨ T54 B w2 k) → Ff B w2 c av q b k := fun k hk => hk
        exact ⟨rfl, HP.out _ _ (H.turned hb ex ez hok (H2.cc.next hb rfl h2 h3 h4 hF (fun _ _ _ => rfl) ⟨rfl, rfl⟩ hmem (fun h => absurd hbq' h)) hmem (by simpa using hbq') ((KeepT.of_below hb2).trans (H2.cc.keepT hb h4 hF)))⟩
      clear HP H H1 hfm hlk hb0 hok hpq hpl hi ex ez
      unfold pvo at hfd
      unfold pv at *
      go_enter Try.func15, Try.ntmps15
      go_upto_region 1 with fail
      generalize w.alloc (.cells #[.int .i64 x, .int .i64 z] 31) = w0 at *
      go_wp2_with fail
      refine hfd.mono ?_
      clear hfd
      rintro _ w2 ⟨rfl, hb2⟩
      obtain ⟨hpc, hrm⟩ := HU.out w2 (HI.out w2 hb2)
      clear HU HI hb2 x0 x1
      go_wp2_with fail
      refine hpc.mono ?_
      clear hpc
      rintro _ w3 ⟨rfl, hw3⟩
      subst hw3
      go_wp2_with fail
      refine hrm.mono ?_
      clear hrm
      rintro _ w4 ⟨rfl, R⟩
      go_wp2
      exact R
    · have hok : okE l x z false = false := by
        unfold okE
        rw [hfm]
        show (decide (b ∉ q) != false) = false
        simp [hbq]
      have hp' : ¬ p = -1 := fun e => hbq (hpq.1 e)
      have HU : Hid (∀ w2, Below w.heap.size w w2 → (Calls Try.prog 31 #[pv b] w2 fun e w' => e = .returned (.bool false) ∧ w' = w2) ∧ Post (.returned (.bool false)) w2) := fun w2 hb2 => by
        have hi2 : Item w2 b (D b) p := hi.same (hb2.block _ hi.lt)
        exact ⟨by have := pinned_c hi2; rw [decide_eq_false hp'] at this; exact this, HP.out _ _ (H.idle hok hb2)⟩
      clear HP H H1 hfm hlk hb0 hok hpq hpl hi ex ez
      unfold pvo at hfd
      unfold pv at *
      go_enter Try.func15, Try.ntmps15
      go_upto_region 1 with fail
      generalize w.alloc (.cells #[.int .i64 x, .int .i64 z] 31) = w0 at *
      go_wp2_with fail
      refine hfd.mono ?_
      clear hfd
      rintro _ w2 ⟨rfl, hb2⟩
      obtain ⟨hpc, R⟩ := HU.out w2 (HI.out w2 hb2)
      clear HU HI hb2 x0 x1
      go_wp2_with fail
      refine hpc.mono ?_
      clear hpc
      rintro _ w3 ⟨rfl, hw3⟩
      subst hw3
      go_wp2
      exact R
end
end Go.Proofs.Ytpfhgkgkbefigaa
