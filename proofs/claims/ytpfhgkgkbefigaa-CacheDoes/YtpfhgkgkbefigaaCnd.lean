/-
  The landed cache: Drop, New.
-/
import Derived.Test.YtpfhgkgkbefigaaCn
set_option maxRecDepth 20000
namespace Go.Proofs.Ytpfhgkgkbefigaa
open Go.RowKit Go.Maps

section
variable {B : Nat} {w : World} {c : Nat} {most : Int} {l : List E} {N : Nat}
/-- One is let go. -/
theorem CI.gone {h : Hd} {av : Option Addr} {cap : Nat} {D : Nat → It} {q I : List Nat} {Dm : DataW Unit} (H : CI B w c most l N h av cap D q I Dm) {b : Nat} (hb : b ∈ I) {w3 : World} (hg : GoSay B w c h av cap D q I b w3) : CS B w3 c most (remE l (D b).x (D b).z) N := by
  obtain ⟨q', Dm', h1, cc, _⟩ := hg
  have hmem : ∀ a, a ∈ I.erase b → a ∈ I ∧ a ≠ b := fun a ha => by
    have := (H.cc.mi.nod.mem_erase_iff).1 ha
    exact ⟨this.2, this.1⟩
  refine ⟨h, av, cap, D, q', I.erase b, Dm', cc, H.mo, H.us, Nat.le_trans (List.length_erase_le) H.ln, H.srt.sublist List.erase_sublist, fun a ha => H.top a (hmem a ha).1, ?_⟩
  rw [H.eq, rem_map H.cc.mi hb]
  refine (map_same (fun a ha => ⟨rfl, ?_⟩)).symm
  rw [← h1.mem_iff, List.mem_cons]
  exact ⟨.inr, fun h => h.resolve_left (hmem a ha).2⟩
theorem drop_c (H : CS B w c most l N) {x z : Int} (hx : I64 x) (hz : I64 z) : Calls Try.prog 16 #[.pointer (some ⟨c, 0, none⟩), valA x z] w (DropSay B w c most l N x z) := by
  obtain ⟨h, av, cap, D, q, I, Dm, H⟩ := H
  obtain ⟨Post, hPost⟩ : ∃ Post : Ending → World → Prop, Post = DropSay B w c most l N x z := ⟨_, rfl⟩
  rw [← hPost]
  have HP : Hid (∀ e w', DropSay B w c most l N x z e w' → Post e w') := fun e w' h1 => by rw [hPost]; exact h1
  clear hPost
  obtain ⟨hb0, x0, x1⟩ := box_new w x z
  have H1 := H.below hb0
  have hfd := find_c H1.cc hx hz
  have hfm := find_map D q I x z
  rw [← H.eq] at hfm
  cases hlk : lookI D I x z with
  | none =>
    rw [hlk] at hfd hfm
    have hok : okE l x z true = false := by unfold okE; rw [hfm]; rfl
    have R : Hid (∀ w2, Below (w.alloc (.cells #[.int .i64 x, .int .i64 z] 31)).heap.size (w.alloc (.cells #[.int .i64 x, .int .i64 z] 31)) w2 → Post (.returned (.bool false)) w2) := fun w2 hb => HP.out _ _ (H.idleD hok (hb0.trans (hb.mono hb0.size)))
    clear HP H H1 hfm hlk hb0 hok
    unfold pvo at hfd
    go_enter Try.func16, Try.ntmps16
    go_upto_region 1 with fail
    generalize w.alloc (.cells #[.int .i64 x, .int .i64 z] 31) = w0 at *
    go_wp2_with fail
    refine hfd.mono ?_
    clear hfd
    rintro _ w2 ⟨rfl, hb⟩
    have R2 := R.out w2 hb
    clear R hb
    go_wp2
    exact R2
  | some b =>
    rw [hlk] at hfd hfm
    obtain ⟨hb, ex, ez⟩ := lookI_some hlk
    obtain ⟨p, hi, hpq, hpl, hp1, hp2⟩ := H.cc.item hb
    have HI : Hid (∀ w2, Below (w.alloc (.cells #[.int .i64 x, .int .i64 z] 31)).heap.size (w.alloc (.cells #[.int .i64 x, .int .i64 z] 31)) w2 → Below w.heap.size w w2) := fun w2 hb => hb0.trans (hb.mono hb0.size)
    by_cases hbq : b ∈ q
    · have hok : okE l x z true = true := by
        unfold okE
        rw [hfm]
        show (decide (b ∉ q) != true) = true
        simp [hbq]
      have hne : ¬ p = -1 := fun e => (hpq.1 e) hbq
      obtain ⟨P, rfl⟩ : ∃ P : Nat, p = (P : Int) := ⟨p.toNat, by omega⟩
      obtain ⟨hP, hPb⟩ := hpl P rfl hbq
      have HU : Hid (∀ w2, Below w.heap.size w w2 → (Calls Try.prog 31 #[pv b] w2 fun e w' => e = .returned (.bool false) ∧ w' = w2) ∧ Calls Try.prog 33 #[.pointer (some ⟨c, 0, none⟩), pv b] w2 fun e w3 => e = .returned (.tuple #[]) ∧ Post (.returned (.bool true)) w3) := fun w2 hb2 => by
        have H2 := H.below hb2
        have hi2 : Item w2 b (D b) (P : Int) := hi.same (hb2.block _ hi.lt)
        refine ⟨by have := pinned_c hi2; rw [decide_eq_false hne] at this; exact this, ?_⟩
        refine (letGo_c H2.cc hbq).mono ?_
        rintro e w3 ⟨rfl, hg, _⟩
        have hk := hg
        obtain ⟨_, _, _, _, hk⟩ := hk
        refine ⟨rfl, HP.out _ _ ⟨by rw [hok], ?_, (KeepT.of_below hb2).trans hk⟩⟩
        unfold dropE
        rw [hok, if_pos rfl, ← ex, ← ez]
        exact H2.gone hb hg
      clear HP H H1 hfm hlk hb0 hok hpq hpl hi ex ez hPb
      unfold pvo at hfd
      unfold pv at *
      go_enter Try.func16, Try.ntmps16
      go_upto_region 1 with fail
      generalize w.alloc (.cells #[.int .i64 x, .int .i64 z] 31) = w0 at *
      go_wp2_with fail
      refine hfd.mono ?_
      clear hfd
      rintro _ w2 ⟨rfl, hb2⟩
      obtain ⟨hpc, hrm⟩ := HU.out w2 (HI.out w2 hb2)
      clear HU HI hb2 x0 x1
      go_wp2_with fail
      refine hpc.mono ?_
      clear hpc
      rintro _ w3 ⟨rfl, hw3⟩
      subst hw3
      go_wp2_with fail
      refine hrm.mono ?_
      clear hrm
      rintro _ w4 ⟨rfl, R⟩
      go_wp2
      exact R
    · have hok : okE l x z true = false := by
        unfold okE
        rw [hfm]
        show (decide (b ∉ q) != true) = false
        simp [hbq]
      have hp' := hpq.2 hbq
      have HU : Hid (∀ w2, Below w.heap.size w w2 → (Calls Try.prog 31 #[pv b] w2 fun e w' => e = .returned (.bool true) ∧ w' = w2) ∧ Post (.returned (.bool false)) w2) := fun w2 hb2 => by
        have hi2 : Item w2 b (D b) p := hi.same (hb2.block _ hi.lt)
        exact ⟨by have := pinned_c hi2; rw [decide_eq_true hp'] at this; exact this, HP.out _ _ (H.idleD hok hb2)⟩
      clear HP H H1 hfm hlk hb0 hok hpq hpl hi ex ez
      unfold pvo at hfd
      unfold pv at *
      go_enter Try.func16, Try.ntmps16
      go_upto_region 1 with fail
      generalize w.alloc (.cells #[.int .i64 x, .int .i64 z] 31) = w0 at *
      go_wp2_with fail
      refine hfd.mono ?_
      clear hfd
      rintro _ w2 ⟨rfl, hb2⟩
      obtain ⟨hpc, R⟩ := HU.out w2 (HI.out w2 hb2)
      clear HU HI hb2 x0 x1
      go_wp2_with fail
      refine hpc.mono ?_
      clear hpc
      rintro _ w3 ⟨rfl, hw3⟩
      subst hw3
      go_wp2
      exact R
theorem new_c (m : Int) (w : World) (h1 : 1 ≤ m) (hB : B ≤ w.heap.size) : Calls Try.prog 8 #[.int .i64 m] w fun e w' => ∃ c, e = .returned (.pointer (some ⟨c, 0, none⟩)) ∧ CS B w' c m [] 0 ∧ Below w.heap.size w w' := by
  obtain ⟨Post, hPost⟩ : ∃ Post : Ending → World → Prop, Post = fun e w' => ∃ c, e = .returned (.pointer (some ⟨c, 0, none⟩)) ∧ CS B w' c m [] 0 ∧ Below w.heap.size w w' := ⟨_, rfl⟩
  rw [← hPost]
  have hm0 := World.ownsMap_made (H := Unit) w Try.prog 31 ptrElem
  have hN := heap_alloc_new (w.alloc (.map #[] 0)) (.cells #[.int .i64 m, .int .i64 0, .map (some w.heap.size), .slice none 0 0] 53)
  rw [World.size_alloc] at hN
  have R : Post (.returned (.pointer (some ⟨w.heap.size + 1, 0, none⟩))) ((w.alloc (.map #[] 0)).alloc (.cells #[.int .i64 m, .int .i64 0, .map (some w.heap.size), .slice none 0 0] 53)) := by
    rw [hPost]
    refine ⟨_, rfl, ⟨⟨m, 0, w.heap.size⟩, none, 0, fun _ => ⟨0, 0, 0, 0⟩, [], [], .map [], ⟨⟨hN, ⟨rfl, .inl ⟨rfl, rfl⟩⟩, fun i hi => absurd hi (Nat.not_lt_zero _), List.nodup_nil, by simp, by show B ≤ w.heap.size + 1; omega, fun b hb => (by cases hb)⟩, fun i _ hi => absurd hi (Nat.not_lt_zero _), fun b hb => (by cases hb), fun b hb => (by cases hb), fun b hb => (by cases hb), ?_, hB, ?_⟩, rfl, Nat.le_refl _, Nat.le_refl _, List.Pairwise.nil, fun b hb => (by cases hb), rfl⟩, ((Below.refl _ _).alloc (Nat.le_refl _) _).alloc (by rw [World.size_alloc]; omega) _⟩
    · exact (hm0.mono (Nat.zero_le 1000)).alloc _
    · exact ⟨fun b hb => (by cases hb), fun b hb => (by cases hb), fun x z _ _ => ⟨fun h => (by cases h), fun h => (by obtain ⟨b, hb, _⟩ := h; cases hb)⟩, rfl, List.nodup_nil⟩
  have h1' : ¬ m < 1 := by omega
  have hmk : (Instr.makeMap 49 none).run Try.prog w = .ok (.map (some w.heap.size)) (w.alloc (.map #[] 0)) := by kernel_rfl
  clear hm0 hN hPost
  go_enter Try.func8, Try.ntmps8
  go_wp2
  exact R
theorem new_no (m : Int) (w : World) (h1 : m < 1) : Calls Try.prog 8 #[.int .i64 m] w fun e w' => e = .returned (.pointer none) ∧ w' = w := by
  go_enter Try.func8, Try.ntmps8
  go_wp2
  go_ret
  exact ⟨rfl, rfl⟩
end
end Go.Proofs.Ytpfhgkgkbefigaa
