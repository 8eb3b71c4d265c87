/-
  The mathematics of the laws: who is kept, and who is pinned.
-/
import Derived.Test.YtpfhgkgkbefigaaPm
set_option maxRecDepth 20000
namespace Go.Proofs.Ytpfhgkgkbefigaa

theorem find_of_mem {s : List E} (ha : Apart s) {e : E} (he : e ∈ s) : findE s e.x e.z = some e := by
  cases hf : findE s e.x e.z with
  | none =>
    have := List.find?_eq_none.1 hf e he
    simp [atE] at this
  | some d =>
    have hd := List.mem_of_find?_eq_some hf
    have hk := List.find?_some hf
    simp only [atE, decide_eq_true_eq] at hk
    by_cases h : d = e
    · rw [h]
    · exfalso
      obtain ⟨la, lb, rfl⟩ := List.append_of_mem he
      obtain ⟨_, h2, h3⟩ := List.pairwise_append.1 ha
      obtain ⟨h4, _⟩ := List.pairwise_cons.1 h2
      rcases List.mem_append.1 hd with h5 | h5
      · exact h3 d h5 e (by simp) hk
      · rcases List.mem_cons.1 h5 with h6 | h6
        · exact h h6
        · exact h4 d h6 ⟨hk.1.symm, hk.2.symm⟩
theorem find_key {s : List E} {x z : Int} {e : E} (h : findE s x z = some e) : e ∈ s ∧ e.x = x ∧ e.z = z := by
  have hk := List.find?_some h
  simp only [atE, decide_eq_true_eq] at hk
  exact ⟨List.mem_of_find?_eq_some h, hk⟩
theorem find_no {s : List E} {x z : Int} (h : findE s x z = none) : ∀ e ∈ s, ¬ (e.x = x ∧ e.z = z) := fun e he => by
  have := List.find?_eq_none.1 h e he
  simpa [atE] using this
theorem mem_put {s : List E} {x z v : Int} {e : E} : e ∈ putE s x z v ↔ (e ∈ s ∧ ¬ (e.x = x ∧ e.z = z)) ∨ e = ⟨x, z, v, pOf (findE s x z)⟩ := by
  unfold putE
  rw [List.mem_append, List.mem_singleton, mem_rem]
theorem mem_get {s : List E} (ha : Apart s) {x z : Int} {e : E} : e ∈ getE s x z ↔ e ∈ s := by
  unfold getE
  cases hf : findE s x z with
  | none => exact Iff.rfl
  | some d =>
    obtain ⟨hd, h1, h2⟩ := find_key hf
    show e ∈ remE s x z ++ [d] ↔ _
    rw [List.mem_append, List.mem_singleton, mem_rem]
    constructor
    · rintro (h | rfl)
      · exact h.1
      · exact hd
    · intro he
      by_cases hk : e.x = x ∧ e.z = z
      · right
        have := find_of_mem ha he
        rw [hk.1, hk.2, hf] at this
        exact (Option.some.inj this).symm
      · exact .inl ⟨he, hk⟩
/-- Behind Pin or Unpin. -/
theorem pin_mem {s : List E} (ha : Apart s) {x z : Int} {b : Bool} {e : E} (h : e ∈ pinE s x z b) : ∃ d ∈ s, e.x = d.x ∧ e.z = d.z ∧ e.v = d.v ∧ ((e.x = x ∧ e.z = z ∧ e.p = b) ∨ (¬ (e.x = x ∧ e.z = z) ∧ e.p = d.p)) := by
  unfold pinE at h
  cases ho : okE s x z b
  · rw [ho, if_neg (by simp)] at h
    refine ⟨e, h, rfl, rfl, rfl, ?_⟩
    by_cases hk : e.x = x ∧ e.z = z
    · left
      refine ⟨hk.1, hk.2, ?_⟩
      have := find_of_mem ha h
      rw [hk.1, hk.2] at this
      unfold okE at ho
      rw [this] at ho
      simpa using ho
    · exact .inr ⟨hk, rfl⟩
  · rw [ho, if_pos rfl] at h
    exact mem_set h
theorem pin_on {s : List E} (ha : Apart s) {x z : Int} {b : Bool} {d : E} (hd : d ∈ s) : ∃ e ∈ pinE s x z b, e.x = d.x ∧ e.z = d.z ∧ e.v = d.v ∧ ((e.x = x ∧ e.z = z ∧ e.p = b) ∨ (¬ (e.x = x ∧ e.z = z) ∧ e.p = d.p)) := by
  unfold pinE
  cases ho : okE s x z b
  · rw [if_neg (by simp)]
    refine ⟨d, hd, rfl, rfl, rfl, ?_⟩
    by_cases hk : d.x = x ∧ d.z = z
    · left
      refine ⟨hk.1, hk.2, ?_⟩
      have := find_of_mem ha hd
      rw [hk.1, hk.2] at this
      unfold okE at ho
      rw [this] at ho
      simpa using ho
    · exact .inr ⟨hk, rfl⟩
  · rw [if_pos rfl]
    refine ⟨if atE x z d = true then { d with p := b } else d, List.mem_map.2 ⟨d, hd, rfl⟩, ?_⟩
    by_cases hk : d.x = x ∧ d.z = z
    · rw [if_pos (by simpa [atE] using hk)]
      exact ⟨rfl, rfl, rfl, .inl ⟨hk.1, hk.2, rfl⟩⟩
    · rw [if_neg (by simpa [atE] using hk)]
      exact ⟨rfl, rfl, rfl, .inr ⟨hk, rfl⟩⟩
theorem apart_sub {s t : List E} (h : Apart s) (ht : t.Sublist s) : Apart t := List.Pairwise.sublist ht h
/-- What is pinned stays. -/
theorem trimK_pinned : ∀ (n : Nat) (s : List E), Apart s → (trimK n s).1.Sublist s ∧ ∀ e ∈ s, e.p = true → e ∈ (trimK n s).1
  | 0, s, _ => ⟨List.Sublist.refl _, fun e he _ => he⟩
  | n + 1, s, ha => by
    unfold trimK
    cases hh : headU s with
    | none => exact ⟨List.Sublist.refl _, fun e he _ => he⟩
    | some d =>
      have hd := List.mem_of_find?_eq_some hh
      have hp : d.p = false := by have := List.find?_some hh; simpa using this
      obtain ⟨h1, h2⟩ := trimK_pinned n (remE s d.x d.z) (apart_sub ha (rem_sub _ _ _))
      refine ⟨h1.trans (rem_sub _ _ _), fun e he hep => h2 e (mem_rem.2 ⟨he, fun hk => ?_⟩) hep⟩
      have := find_of_mem ha he
      rw [hk.1, hk.2, find_of_mem ha hd] at this
      have e1 := Option.some.inj this
      rw [← e1, hp] at hep
      cases hep
theorem trim_sub (m : Int) {s : List E} (ha : Apart s) : (trimE m s).1.Sublist s := (trimK_pinned _ s ha).1
theorem trim_keep (m : Int) {s : List E} (ha : Apart s) {e : E} (he : e ∈ s) (hp : e.p = true) : e ∈ (trimE m s).1 := (trimK_pinned _ s ha).2 e he hp

/-! ### CachePins -/
/-- The first n are kept and pinned; nothing else is pinned. -/
structure PI (ps : List (Int × Int)) (n : Nat) (s : List E) : Prop where
  kept : ∀ k, k < n → ∃ e ∈ s, (e.x, e.z) = ps.getD k (0, 0) ∧ e.p = true
  only : ∀ e ∈ s, e.p = true → ∃ k, k < n ∧ (e.x, e.z) = ps.getD k (0, 0)
theorem PI.start (ps : List (Int × Int)) : PI ps 0 [] := ⟨fun k hk => by omega, fun e he => by cases he⟩
theorem PI.put {ps : List (Int × Int)} {n : Nat} {s : List E} (h : PI ps n s) (ha : Apart s) (x z v : Int) : PI ps n (putE s x z v) := by
  refine ⟨fun k hk => ?_, fun e he hp => ?_⟩
  · obtain ⟨e, he, e1, e2⟩ := h.kept k hk
    by_cases hk2 : e.x = x ∧ e.z = z
    · refine ⟨_, mem_put.2 (.inr rfl), ?_, ?_⟩
      · rw [← e1, ← hk2.1, ← hk2.2]
      · have := find_of_mem ha he
        rw [hk2.1, hk2.2] at this
        rw [this]
        exact e2
    · exact ⟨e, mem_put.2 (.inl ⟨he, hk2⟩), e1, e2⟩
  · rcases mem_put.1 he with h1 | h1
    · exact h.only e h1.1 hp
    · subst h1
      cases hf : findE s x z with
      | none => rw [hf] at hp; cases hp
      | some d =>
        obtain ⟨hd, e1, e2⟩ := find_key hf
        rw [hf] at hp
        obtain ⟨k, hk, e3⟩ := h.only d hd hp
        exact ⟨k, hk, by rw [← e3, e1, e2]⟩
theorem PI.pin {ps : List (Int × Int)} {n : Nat} {s : List E} (h : PI ps n s) (ha : Apart s) {x z : Int} (hx : (x, z) = ps.getD n (0, 0)) (hin : ∃ e ∈ s, e.x = x ∧ e.z = z) : PI ps (n + 1) (pinE s x z true) := by
  refine ⟨fun k hk => ?_, fun e he hp => ?_⟩
  · by_cases hkn : k = n
    · obtain ⟨d, hd, d1, d2⟩ := hin
      obtain ⟨e, he, e1, e2, _, h5 | h5⟩ := pin_on (b := true) (x := x) (z := z) ha hd
      · exact ⟨e, he, by rw [hkn, ← hx, h5.1, h5.2.1], h5.2.2⟩
      · exact absurd ⟨e1.trans d1, e2.trans d2⟩ h5.1
    · obtain ⟨d, hd, d1, d2⟩ := h.kept k (by omega)
      obtain ⟨e, he, e1, e2, _, h5 | h5⟩ := pin_on (b := true) (x := x) (z := z) ha hd
      · exact ⟨e, he, by rw [e1, e2]; exact d1, h5.2.2⟩
      · exact ⟨e, he, by rw [e1, e2]; exact d1, h5.2.trans d2⟩
  · obtain ⟨d, hd, e1, e2, _, h5 | h5⟩ := pin_mem ha he
    · exact ⟨n, by omega, by rw [h5.1, h5.2.1]; exact hx⟩
    · obtain ⟨k, hk, e3⟩ := h.only d hd (h5.2 ▸ hp)
      exact ⟨k, by omega, by rw [e1, e2]; exact e3⟩
theorem PI.trim {ps : List (Int × Int)} {n : Nat} {s : List E} (h : PI ps n s) (ha : Apart s) (m : Int) : PI ps n (trimE m s).1 :=
  ⟨fun k hk => by
    obtain ⟨e, he, e1, e2⟩ := h.kept k hk
    exact ⟨e, trim_keep m ha he e2, e1, e2⟩, fun e he hp => h.only e ((trim_sub m ha).subset he) hp⟩
theorem PI.get {ps : List (Int × Int)} {n : Nat} {s : List E} (h : PI ps n s) (ha : Apart s) (x z : Int) : PI ps n (getE s x z) :=
  ⟨fun k hk => by
    obtain ⟨e, he, e1, e2⟩ := h.kept k hk
    exact ⟨e, (mem_get ha).2 he, e1, e2⟩, fun e he hp => h.only e ((mem_get ha).1 he) hp⟩
/-- Such a one is there, and can't be dropped. -/
theorem PI.there {ps : List (Int × Int)} {n : Nat} {s : List E} (h : PI ps n s) (ha : Apart s) {k : Nat} (hk : k < n) : (findE s (ps.getD k (0, 0)).1 (ps.getD k (0, 0)).2).isSome = true ∧ okE s (ps.getD k (0, 0)).1 (ps.getD k (0, 0)).2 true = false := by
  obtain ⟨e, he, e1, e2⟩ := h.kept k hk
  have hf := find_of_mem ha he
  have e3 : e.x = (ps.getD k (0, 0)).1 ∧ e.z = (ps.getD k (0, 0)).2 := by rw [← e1]; exact ⟨rfl, rfl⟩
  rw [e3.1, e3.2] at hf
  unfold okE
  rw [hf]
  exact ⟨rfl, by simp [e2]⟩
/-- The first k are pinned no more. -/
def UI2 (ps : List (Int × Int)) (n k : Nat) (s : List E) : Prop := ∀ e ∈ s, e.p = true → ∃ j, k ≤ j ∧ j < n ∧ (e.x, e.z) = ps.getD j (0, 0)
theorem PI.all {ps : List (Int × Int)} {n : Nat} {s : List E} (h : PI ps n s) : UI2 ps n 0 s := fun e he hp => by
  obtain ⟨k, hk, e1⟩ := h.only e he hp
  exact ⟨k, Nat.zero_le _, hk, e1⟩
theorem UI2.unpin {ps : List (Int × Int)} {n k : Nat} {s : List E} (h : UI2 ps n k s) (ha : Apart s) {x z : Int} (hx : (x, z) = ps.getD k (0, 0)) : UI2 ps n (k + 1) (pinE s x z false) := fun e he hp => by
  obtain ⟨d, hd, e1, e2, _, h5 | h5⟩ := pin_mem ha he
  · rw [h5.2.2] at hp; cases hp
  · obtain ⟨j, hj, hjn, e3⟩ := h d hd (h5.2 ▸ hp)
    refine ⟨j, ?_, hjn, by rw [e1, e2]; exact e3⟩
    by_cases hjk : j = k
    · exfalso
      rw [hjk, ← hx] at e3
      simp only [Prod.mk.injEq] at e3
      exact h5.1 ⟨e1.trans e3.1, e2.trans e3.2⟩
    · omega
theorem UI2.none {ps : List (Int × Int)} {n : Nat} {s : List E} (h : UI2 ps n n s) (m : Int) (hm : 1 ≤ m) (ha : Apart s) : pins (trimE m s).1 = 0 ∧ ((keysE (trimE m s).1).length : Int) ≤ m := by
  have h0 : ∀ e ∈ s, e.p = false := fun e he => by
    cases hp : e.p
    · rfl
    · obtain ⟨j, h1, h2, _⟩ := h e he hp
      omega
  have hz : ∀ t : List E, (∀ e ∈ t, e.p = false) → pins t = 0 ∧ unp t = t.length := fun t ht => by
    have h1 : pins t = 0 := by
      unfold pins
      rw [List.length_eq_zero_iff, List.filter_eq_nil_iff]
      intro e he
      rw [ht e he]
      simp
    have := unp_pins t
    exact ⟨h1, by omega⟩
  have ht := hz (trimE m s).1 (fun e he => h0 e ((trim_sub m ha).subset he))
  have hs := hz s h0
  refine ⟨ht.1, ?_⟩
  unfold keysE
  rw [List.length_map, ← ht.2]
  -- how many stay
  have hc : ∀ (n : Nat) (t : List E), Apart t → (∀ e ∈ t, e.p = false) → (trimK n t).1.length ≤ t.length - n := by
    intro n
    induction n with
    | zero => intro t _ _; exact Nat.le_refl _
    | succ n ih =>
      intro t hta htp
      unfold trimK
      cases hh : headU t with
      | none =>
        have : t = [] := by
          cases t with
          | nil => rfl
          | cons e t =>
            have := List.find?_eq_none.1 hh e (by simp)
            rw [htp e (by simp)] at this
            simp at this
        subst this
        simp
      | some d =>
        have hd := List.mem_of_find?_eq_some hh
        obtain ⟨la, lb, h1, h2⟩ := rem_one hta hd
        have := ih (remE t d.x d.z) (apart_sub hta (rem_sub _ _ _)) (fun e he => htp e (rem_sub _ _ _ |>.subset he))
        have hl : (remE t d.x d.z).length + 1 = t.length := by rw [h2, h1]; simp; omega
        show (trimK n (remE t d.x d.z)).1.length ≤ _
        omega
  have := hc ((unp s : Int) - m).toNat s ha h0
  have hu : unp (trimE m s).1 = (trimK ((unp s : Int) - m).toNat s).1.length := by rw [ht.2]; rfl
  rw [hu]
  have := hs.2
  omega
end Go.Proofs.Ytpfhgkgkbefigaa
