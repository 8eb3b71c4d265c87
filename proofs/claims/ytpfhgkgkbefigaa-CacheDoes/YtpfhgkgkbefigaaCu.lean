/-
  The cache's use and letGo.
-/
import Derived.Test.YtpfhgkgkbefigaaCs
import Derived.Deep.RegionWith
set_option maxRecDepth 20000
namespace Go.Proofs.Ytpfhgkgkbefigaa
open Go.RowKit Go.Maps

section
variable {B : Nat} {w w' : World} {c : Nat} {h : Hd} {av : Option Addr} {cap : Nat} {D : Nat → It} {q I : List Nat} {Dm : DataW Unit}
/-- The blocks that a call about item b may turn. -/
def Ff (B : Nat) (w : World) (c : Nat) (av : Option Addr) (q : List Nat) (b : Nat) (k : Nat) : Prop := Qf c av q k ∨ k = b ∨ T54 B w k
theorem CC.itemAt (H : CC B w c h av cap D q I Dm) {b : Nat} (hb : b ∈ I) : ∃ p, Item w b (D b) p := by
  obtain ⟨p, hp, _⟩ := H.item hb
  exact ⟨p, hp⟩
theorem CC.away (H : CC B w c h av cap D q I Dm) {b k : Nat} (hk : k ∈ I) (hq : k ∉ q) (hb : k ≠ b) : ¬ Ff B w c av q b k := fun hf => by
  have hi := H.pin k hk hq
  rcases hf with (h1 | h1 | h1) | h1 | ⟨_, cur, h1⟩
  · exact blk_ne hi H.qh.hd (by decide) h1
  · subst h1
    obtain ⟨cur, hg, _⟩ := H.qh.row.blk
    exact blk_ne hi hg (by decide) rfl
  · exact hq h1
  · exact hb h1
  · exact blk_ne hi h1 (by decide) rfl
theorem CC.mapAway (H : CC B w c h av cap D q I Dm) {b : Nat} (hb : b ∈ I) : ¬ Ff B w c av q b h.mb := fun hf => by
  obtain ⟨es, clock, hm, _⟩ := H.mp
  rcases hf with (h1 | h1 | h1) | h1 | ⟨_, cur, h1⟩
  · have := H.qh.hd
    unfold HdAt at this
    rw [← h1, hm] at this
    cases this
  · subst h1
    obtain ⟨cur, hg, _⟩ := H.qh.row.blk
    rw [hm] at hg
    cases hg
  · obtain ⟨p, hp⟩ := H.itemAt (H.sub _ h1)
    unfold Item at hp
    rw [hm] at hp
    cases hp
  · obtain ⟨p, hp⟩ := H.itemAt hb
    unfold Item at hp
    rw [← h1, hm] at hp
    cases hp
  · rw [hm] at h1
    cases h1
theorem CC.keepT (H : CC B w c h av cap D q I Dm) {b : Nat} (hb : b ∈ I) {F : Nat → Prop} (hc : Chg F w w') (hF : ∀ k, F k → Ff B w c av q b k) : KeepT isP B w w' := by
  refine KeepT.of_chg hc (fun k o hk ho => ?_)
  rcases hF k hk with h1 | h1 | ⟨h1, cur, h2⟩
  · exact H.qh.isP k o h1 ho
  · obtain ⟨p, hp⟩ := H.itemAt hb
    unfold Item at hp
    rw [← h1, ho] at hp
    cases hp
    exact ⟨h1 ▸ H.lo b hb, rfl⟩
  · rw [ho] at h2
    cases h2
    exact ⟨h1, rfl⟩
/-- Behind a call about item b. -/
theorem CC.next (H : CC B w c h av cap D q I Dm) {b : Nat} (hb : b ∈ I) {h' : Hd} (hmb : h'.mb = h.mb) {av' : Option Addr} {cap' : Nat} {D' : Nat → It} {q' : List Nat} (Q : QH B w' c h' av' cap' D' q') (hh : Heap q'.length (uq D' q'))
    {F : Nat → Prop} (hc : Chg F w w') (hF : ∀ k, F k → Ff B w c av q b k) (hD : ∀ k ∈ I, k ≠ b → D' k = D k) (hDb : (D' b).x = (D b).x ∧ (D' b).z = (D b).z) (hq : ∀ k, k ≠ b → (k ∈ q' ↔ k ∈ q)) (hpin : b ∉ q' → Item w' b (D' b) (-1)) :
    CC B w' c h' av' cap' D' q' I Dm := by
  refine ⟨Q, hh, fun k hk => ?_, fun k hk hkq => ?_, H.lo, ?_, by rw [hmb]; exact H.mlo, H.mi.perm (List.Perm.refl _) (fun k hk => ?_)⟩
  · by_cases e : k = b
    · subst e; exact hb
    · exact H.sub k ((hq k e).1 hk)
  · by_cases e : k = b
    · subst e; exact hpin hkq
    · have hkq' : k ∉ q := fun h1 => hkq ((hq k e).2 h1)
      rw [hD k hk e]
      exact (H.pin k hk hkq').same (hc.block k (H.pin k hk hkq').lt (fun hf => H.away hk hkq' e (hF k hf)))
  · rw [hmb]
    exact ownsMap_same H.mp (hc.block _ H.mp.lt (fun hf => H.mapAway hb (hF _ hf)))
  · by_cases e : k = b
    · subst e; exact hDb
    · rw [hD k hk e]; exact ⟨rfl, rfl⟩
end
/-- Item b used as number u. -/
def updU (D : Nat → It) (b u : Nat) : Nat → It := fun k => if k = b then { D b with u := u } else D k
theorem updU_self (D : Nat → It) (b u : Nat) : updU D b u b = { D b with u := u } := by simp [updU]
theorem updU_other {D : Nat → It} {b u k : Nat} (h : k ≠ b) : updU D b u k = D k := by simp [updU, h]
/-- What use leaves. -/
def UseSay (B : Nat) (w : World) (c : Nat) (h : Hd) (av : Option Addr) (cap : Nat) (D : Nat → It) (q I : List Nat) (Dm : DataW Unit) (b : Nat) (w' : World) : Prop :=
  ∃ q', q'.Perm q ∧ CC B w' c { h with uses := h.uses + 1 } av cap (updU D b (h.uses + 1)) q' I Dm ∧ KeepT isP B w w'

set_option maxHeartbeats 1000000 in
theorem use_c {B : Nat} {w : World} {c : Nat} {h : Hd} {av : Option Addr} {cap : Nat} {D : Nat → It} {q I : List Nat} {Dm : DataW Unit} (H : CC B w c h av cap D q I Dm) {b : Nat} (hb : b ∈ I) (hu : h.uses < 1000000) :
    Calls Try.prog 27 #[.pointer (some ⟨c, 0, none⟩), pv b] w fun e w' => e = .returned (.tuple #[]) ∧ UseSay B w c h av cap D q I Dm b w' := by
  obtain ⟨Post, hPost⟩ : ∃ Post : Ending → World → Prop, Post = fun e w' => e = .returned (.tuple #[]) ∧ UseSay B w c h av cap D q I Dm b w' := ⟨_, rfl⟩
  rw [← hPost]
  have HP : Hid (∀ w', UseSay B w c h av cap D q I Dm b w' → Post (.returned (.tuple #[])) w') := fun w' h1 => by rw [hPost]; exact ⟨rfl, h1⟩
  clear hPost
  obtain ⟨p, hi, hpq, hpl, hp1, hp2⟩ := H.item hb
  have hcb : c ≠ b := blk_ne H.qh.hd hi (by decide)
  have hrow : ∀ g, av = some ⟨g, 0, none⟩ → g ≠ c ∧ g ≠ b := fun g e => by
    subst e
    obtain ⟨cur, hg, _⟩ := H.qh.row.blk
    exact ⟨blk_ne hg H.qh.hd (by decide), blk_ne hg hi (by decide)⟩
  obtain ⟨w1, hw1⟩ : ∃ w1, w1 = w.setCell ⟨c, 1, none⟩ (.int .i64 ((h.uses : Int) + 1)) := ⟨_, rfl⟩
  obtain ⟨w2, hw2⟩ : ∃ w2, w2 = w1.setCell ⟨b, 3, none⟩ (.int .i64 ((h.uses : Int) + 1)) := ⟨_, rfl⟩
  have hd1 : HdAt w1 c { h with uses := h.uses + 1 } av q.length cap := by rw [hw1]; exact H.qh.hd.used (h.uses + 1)
  have i1 : Item w1 b (D b) p := by rw [hw1]; exact hi.other (Ne.symm hcb)
  have i2 : Item w2 b (updU D b (h.uses + 1) b) p := by
    rw [updU_self, hw2]
    exact i1.used (h.uses + 1)
  have C2 : Chg (fun k => Qf c av q k ∨ k = b) w w2 := by
    rw [hw2, hw1]
    exact ((Chg.refl _ w).set (.inl (.inl (.inl rfl))) _ _).set (.inl (.inr rfl)) _ _
  have Q2 : QH B w2 c { h with uses := h.uses + 1 } av cap (updU D b (h.uses + 1)) q := by
    refine ⟨by rw [hw2]; exact hd1.other hcb, H.qh.row.same (fun g e => ?_), fun k hk => ?_, H.qh.nod, H.qh.sz, H.qh.lo⟩
    · obtain ⟨h1, h2⟩ := hrow g e
      rw [hw2, Below.heap_setCell _ ⟨b, 3, none⟩ _ _ h2, hw1]
      exact Below.heap_setCell _ ⟨c, 1, none⟩ _ _ h1
    · have hk0 := H.qh.it k hk
      by_cases e : q.getD k 0 = b
      · rw [e] at hk0 ⊢
        have : p = (k : Int) := by
          have h1 := hk0.c4
          rw [hi.c4] at h1
          simpa using h1
        rw [← this]
        exact i2
      · rw [updU_other e, hw2, hw1]
        exact (hk0.other (Ne.symm (blk_ne H.qh.hd hk0 (by decide)))).other e
  have HD : ∀ k ∈ I, k ≠ b → updU D b (h.uses + 1) k = D k := fun k _ hk => updU_other hk
  have HDb : (updU D b (h.uses + 1) b).x = (D b).x ∧ (updU D b (h.uses + 1) b).z = (D b).z := by rw [updU_self]; exact ⟨rfl, rfl⟩
  have HF : Hid (∀ w' q', q'.Perm q → QH B w' c { h with uses := h.uses + 1 } av cap (updU D b (h.uses + 1)) q' → Heap q'.length (uq (updU D b (h.uses + 1)) q') → (b ∉ q' → Item w' b (updU D b (h.uses + 1) b) (-1)) → Chg (fun k => Qf c av q k ∨ k = b) w w' → Post (.returned (.tuple #[])) w') := fun w' q' h1 h2 h3 h4 h5 =>
    HP.out w' ⟨q', h1, H.next hb (h' := { h with uses := h.uses + 1 }) rfl h2 h3 h5 (fun k hk => hk.elim .inl (fun e => .inr (.inl e))) HD HDb (fun k _ => h1.mem_iff) h4, H.keepT hb h5 (fun k hk => hk.elim .inl (fun e => .inr (.inl e)))⟩
  have c1 := H.qh.hd.c1
  have cf1 := H.qh.hd.free 1
  have d1 := hd1.c1
  have b3 := i1.c3
  have bf3 := i1.free 3
  have hpc := pinned_c i2
  have hu1 : (h.uses : Int) + 1 ≤ 1000000 := by omega
  have hu0 : (0 : Int) ≤ (h.uses : Int) := by omega
  by_cases hbq : b ∈ q
  · have hne : ¬ p = -1 := fun e => (hpq.1 e) hbq
    obtain ⟨P, rfl⟩ : ∃ P : Nat, p = (P : Int) := ⟨p.toNat, by omega⟩
    obtain ⟨hP, hPb⟩ := hpl P rfl hbq
    have hfx := hfix_c (i := P) (w := w2.drew) (Q2.same (fun _ _ => rfl)) hP (H.hp.other (Nat.le_refl _) (fun k hk hkP => by
      unfold uq fq
      have : q.getD k 0 ≠ b := fun e => hkP (getD_inj H.qh.nod hk hP (e.trans hPb.symm))
      simp only [updU_other this]))
    have HX : Hid (∀ w', (∃ q', q'.Perm q ∧ QH B w' c { h with uses := h.uses + 1 } av cap (updU D b (h.uses + 1)) q' ∧ Heap q'.length (uq (updU D b (h.uses + 1)) q') ∧ Chg (Qf c av q) w2.drew w') → Post (.returned (.tuple #[])) w') := by
      rintro w' ⟨q', h1, h2, h3, h4⟩
      exact HF.out w' q' h1 h2 h3 (fun h5 => absurd (h1.mem_iff.2 hbq) h5) (C2.trans (G := Qf c av q) (⟨h4.os, h4.tape, h4.output, h4.size, h4.block⟩) (fun k hk => .inl (.inl hk)))
    have i4 := i2.c4
    clear H HF HP Q2 C2 hi i1 i2 HD HDb hd1 hrow hpq hpl
    rw [decide_eq_false hne] at hpc
    unfold pv at *
    generalize q.length = qn at *
    generalize h.uses = hU at *
    subst hw1 hw2
    go_enter Try.func27, Try.ntmps27
    go_wp2_with fail
    refine hpc.mono ?_
    clear hpc
    rintro _ w3 ⟨rfl, hw3⟩
    subst hw3
    go_wp2
    generalize (w.setCell ⟨c, 1, none⟩ (.int .i64 ((hU : Int) + 1))).setCell ⟨b, 3, none⟩ (.int .i64 ((hU : Int) + 1)) = w2 at *
    clear c1 cf1 d1 b3 bf3 hu1 hu0 hP hPb
    go_region_with (go_at_call 39; refine hfx.mono ?_; rintro _ w3 ⟨rfl, hw3⟩)
    have R := HX.out w3 hw3
    go_end0
    exact R
  · have hp' := hpq.2 hbq
    have R := HF.out w2 q (List.Perm.refl _) Q2 (H.hp.less (Nat.le_refl _) (fun k hk => by
      unfold uq fq
      have : q.getD k 0 ≠ b := fun e => hbq (e ▸ getD_mem hk)
      simp only [updU_other this])) (fun _ => hp' ▸ i2) C2
    clear H HF HP Q2 C2 hi i1 i2 HD HDb hd1 hrow hpq hpl
    rw [decide_eq_true hp'] at hpc
    unfold pv at *
    generalize h.uses = hU at *
    subst hw1 hw2
    go_enter Try.func27, Try.ntmps27
    go_wp2_with fail
    refine hpc.mono ?_
    clear hpc
    rintro _ w3 ⟨rfl, hw3⟩
    subst hw3
    go_wp2
    go_end0
    exact R
/-- What letGo leaves. -/
def GoSay (B : Nat) (w : World) (c : Nat) (h : Hd) (av : Option Addr) (cap : Nat) (D : Nat → It) (q I : List Nat) (b : Nat) (w' : World) : Prop :=
  ∃ q' Dm', (b :: q').Perm q ∧ CC B w' c h av cap D q' (I.erase b) Dm' ∧ KeepT isP B w w'
theorem letGo_c {B : Nat} {w : World} {c : Nat} {h : Hd} {av : Option Addr} {cap : Nat} {D : Nat → It} {q I : List Nat} {Dm : DataW Unit} (H : CC B w c h av cap D q I Dm) {b : Nat} (hbq : b ∈ q) :
    Calls Try.prog 33 #[.pointer (some ⟨c, 0, none⟩), pv b] w fun e w' => e = .returned (.tuple #[]) ∧ GoSay B w c h av cap D q I b w' ∧ Item w' b (D b) (-1) := by
  obtain ⟨Post, hPost⟩ : ∃ Post : Ending → World → Prop, Post = fun e w' => e = .returned (.tuple #[]) ∧ GoSay B w c h av cap D q I b w' ∧ Item w' b (D b) (-1) := ⟨_, rfl⟩
  rw [← hPost]
  have HP : Hid (∀ w', GoSay B w c h av cap D q I b w' → Item w' b (D b) (-1) → Post (.returned (.tuple #[])) w') := fun w' h1 h2 => by rw [hPost]; exact ⟨rfl, h1, h2⟩
  clear hPost
  obtain ⟨i, hi, hib⟩ := mem_getD hbq
  have hbI := H.sub b hbq
  have hit : Item w b (D b) (i : Int) := by have := H.qh.it i hi; rw [hib] at this; exact this
  have hrm := hremove_c (w := w.drew) (H.qh.same (fun _ _ => rfl)) H.hp hi
  rw [hib] at hrm
  have HX : Hid (∀ w2, RemSay B w.drew c h av cap D q b w2 → (w2.cell? ⟨c, 2, none⟩ = some (.map (some h.mb)) ∧ w2.cell? ⟨b, 0, none⟩ = some (.int .i64 (D b).x) ∧ w2.cell? ⟨b, 1, none⟩ = some (.int .i64 (D b).z)) ∧
      ∃ w4, (Builtin.delete_ #[49, 31] 0 #[.map (some h.mb), .agg #[.int .i64 (D b).x, .int .i64 (D b).z]]).run Try.prog w2.drew = .ok (.tuple #[]) w4 ∧ Post (.returned (.tuple #[])) w4) := by
    rintro w2 ⟨q', h1, h2, h3, h4, h5⟩
    have hbq' : b ∉ q' := by
      have := h1.nodup_iff.2 H.qh.nod
      exact (List.nodup_cons.1 this).1
    have hmem : ∀ k, k ≠ b → (k ∈ q' ↔ k ∈ q) := fun k hk => by
      rw [← h1.mem_iff, List.mem_cons]
      exact ⟨.inr, fun h => h.resolve_left hk⟩
    have hF : ∀ k, Qf c av q k → Ff B w.drew c av q b k := fun k hk => .inl hk
    have H0 : CC B w.drew c h av cap D q I Dm := H.below ⟨rfl, rfl, rfl, Nat.le_refl _, fun _ _ => rfl⟩
    have C2 : CC B w2 c h av cap D q' I Dm := H0.next hbI rfl h2 h4 h5 hF (fun _ _ _ => rfl) ⟨rfl, rfl⟩ hmem (fun _ => h3)
    have K2 : KeepT isP B w w2 := KeepT.trans (b := w.drew) ⟨rfl, rfl, rfl, Nat.le_refl _, fun _ _ _ => rfl, fun _ _ h _ => h⟩ (H0.keepT hbI h5 hF)
    have hr := H.mi.rng b hbI
    have hmp : w2.drew.ownsMap Try.prog 31 ptrElem h.mb 1000 Dm := ownsMap_same C2.mp rfl
    obtain ⟨w4, hrun, hown, hturn⟩ := hmp.drop lawA Try.underlying49 (keyA _ _ hr.1 hr.2) 0
    have hg4 := hturn.grown
    obtain ⟨es, clock, es', clock', hm2, hw4⟩ := hturn
    refine ⟨⟨C2.qh.hd.c2, h3.c0, h3.c1⟩, w4, hrun, ?_⟩
    have hm0 : w2.heap[h.mb]? = some (.map es clock) := hm2
    have blk4 : ∀ k, k ≠ h.mb → w4.heap[k]? = w2.heap[k]? := fun k hk => by
      rw [hw4]
      exact Go.ChangeMaps.heap_setBlock_other hm2 _ hk
    have hnm : ∀ k o, w2.heap[k]? = some o → (∀ es clock, o ≠ .map es clock) → k ≠ h.mb := fun k o ho hne e => by
      rw [e, hm0] at ho
      cases ho
      exact hne _ _ rfl
    refine HP.out w4 ⟨q', Dm.del (klA (D b).x (D b).z), h1, ⟨C2.qh.same (fun k hk => ?_), C2.hp, fun k hk => ?_, fun k hk hkq => ?_, fun k hk => H.lo k (List.mem_of_mem_erase hk), hown, H.mlo, H.mi.del (H.mp.tidy lawA) hbI⟩, K2.trans ?_⟩ ?_
    · refine blk4 k ?_
      rcases hk with rfl | h6 | h6
      · exact hnm _ _ C2.qh.hd (fun _ _ e => by cases e)
      · subst h6
        obtain ⟨cur, hg, _⟩ := C2.qh.row.blk
        exact hnm _ _ hg (fun _ _ e => by cases e)
      · obtain ⟨p, hp⟩ := C2.itemAt (C2.sub k h6)
        exact hnm _ _ hp (fun _ _ e => by cases e)
    · have hkq : k ∈ q := h1.mem_iff.1 (List.mem_cons_of_mem _ hk)
      exact (H.mi.nod.mem_erase_iff).2 ⟨fun e => hbq' (e ▸ hk), H.sub k hkq⟩
    · obtain ⟨h6, h7⟩ := (H.mi.nod.mem_erase_iff).1 hk
      have := C2.pin k h7 hkq
      exact this.same (blk4 k (hnm _ _ this (fun _ _ e => by cases e)))
    · refine ⟨hg4.os, hg4.tape, hg4.output, hg4.size, fun k hk hs => ?_, fun k o ho ht => ?_⟩
      · refine blk4 k (fun e => ?_)
        have := H.mlo
        omega
      · rw [blk4 k (hnm k o ho (fun _ _ e => by rw [e] at ht; cases ht))]
        exact ho
    · exact h3.same (blk4 b (hnm _ _ h3 (fun _ _ e => by cases e)))
  have i4 := hit.c4
  clear H HP hit hib hbI
  unfold pv at *
  generalize h.mb = mb at *
  generalize (D b).x = X at *
  generalize (D b).z = Z at *
  go_enter Try.func33, Try.ntmps33
  go_wp2
  go_region_with (go_at_call 32; refine hrm.mono ?_; rintro _ w3 ⟨rfl, hw3⟩)
  obtain ⟨⟨a0, a1, a2⟩, w4, hdel, R⟩ := HX.out w3 hw3
  clear HX hw3 hrm i4
  go_wp2
  go_region_with fail
  all_goals (go_end0; exact R)
end Go.Proofs.Ytpfhgkgkbefigaa
