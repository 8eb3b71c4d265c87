/-
  The mathematics of the laws: what many Puts, Pins and a Trim leave.
-/
import Derived.Test.YtpfhgkgkbefigaaSm
set_option maxRecDepth 20000
namespace Go.Proofs.Ytpfhgkgkbefigaa

/-- Where a chunk stands last among the first n; -1: nowhere. -/
def lastK (l : List (Int × Int)) (p : Int × Int) : Nat → Int
  | 0 => -1
  | n + 1 => if l.getD n (0, 0) = p then (n : Int) else lastK l p n
theorem lastK_lt (l : List (Int × Int)) (p : Int × Int) : ∀ n : Nat, -1 ≤ lastK l p n ∧ lastK l p n < n
  | 0 => by simp [lastK]
  | n + 1 => by
    have := lastK_lt l p n
    unfold lastK
    split <;> omega
/-- Behind the first n Puts. -/
def putsE (l : List (Int × Int)) : Nat → List E
  | 0 => []
  | n + 1 => putE (putsE l n) (l.getD n (0, 0)).1 (l.getD n (0, 0)).2 (n : Int)
theorem mem_rem {l : List E} {x z : Int} {e : E} : e ∈ remE l x z ↔ e ∈ l ∧ ¬ (e.x = x ∧ e.z = z) := by
  unfold remE atE
  rw [List.mem_filter]
  simp only [Bool.not_eq_true', decide_eq_false_iff_not]
theorem rem_sub (l : List E) (x z : Int) : (remE l x z).Sublist l := List.filter_sublist
/-- A row in the order of r. -/
def Ord (r : Int × Int → Int) (l : List E) : Prop := l.Pairwise fun a b => r (a.x, a.z) < r (b.x, b.z)
theorem puts_ord (l : List (Int × Int)) : ∀ n, Ord (fun p => lastK l p n) (putsE l n) ∧ (∀ e ∈ putsE l n, 0 ≤ lastK l (e.x, e.z) n ∧ e.p = false)
  | 0 => ⟨List.Pairwise.nil, fun e h => by cases h⟩
  | n + 1 => by
    obtain ⟨h1, h2⟩ := puts_ord l n
    have key : ∀ e ∈ remE (putsE l n) (l.getD n (0, 0)).1 (l.getD n (0, 0)).2, lastK l (e.x, e.z) (n + 1) = lastK l (e.x, e.z) n := fun e he => by
      have := (mem_rem.1 he).2
      show (if l.getD n (0, 0) = (e.x, e.z) then (n : Int) else lastK l (e.x, e.z) n) = _
      rw [if_neg (fun h => this (by rw [h]; exact ⟨rfl, rfl⟩))]
    have keyn : lastK l ((l.getD n (0, 0)).1, (l.getD n (0, 0)).2) (n + 1) = n := by
      show (if l.getD n (0, 0) = _ then (n : Int) else _) = _
      rw [if_pos rfl]
    have hp : pOf (findE (putsE l n) (l.getD n (0, 0)).1 (l.getD n (0, 0)).2) = false := by
      cases hf : findE (putsE l n) (l.getD n (0, 0)).1 (l.getD n (0, 0)).2 with
      | none => rfl
      | some e => exact (h2 e (List.mem_of_find?_eq_some hf)).2
    refine ⟨?_, fun e he => ?_⟩
    · show Ord _ (putE _ _ _ _)
      unfold Ord putE
      rw [List.pairwise_append]
      refine ⟨?_, List.pairwise_singleton _ _, fun a ha b hb => ?_⟩
      · refine (h1.sublist (rem_sub _ _ _)).imp_of_mem (fun {a b} ha hb h => ?_)
        show lastK l (a.x, a.z) (n + 1) < lastK l (b.x, b.z) (n + 1)
        rw [key a ha, key b hb]
        exact h
      · rw [List.mem_singleton.1 hb]
        show lastK l (a.x, a.z) (n + 1) < lastK l ((l.getD n (0, 0)).1, (l.getD n (0, 0)).2) (n + 1)
        rw [keyn, key a ha]
        exact (lastK_lt l _ n).2
    · have he' : e ∈ putE (putsE l n) (l.getD n (0, 0)).1 (l.getD n (0, 0)).2 (n : Int) := he
      unfold putE at he'
      rcases List.mem_append.1 he' with h3 | h3
      · rw [key e h3]
        exact h2 e (mem_rem.1 h3).1
      · rw [List.mem_singleton.1 h3]
        refine ⟨?_, hp⟩
        show 0 ≤ lastK l ((l.getD n (0, 0)).1, (l.getD n (0, 0)).2) (n + 1)
        rw [keyn]
        omega
/-- Behind the first n Pins: what is kept, and how many were pinned. -/
def pinsE (s : List E) (ps : List (Int × Int)) : Nat → List E × Nat
  | 0 => (s, 0)
  | n + 1 => (pinE (pinsE s ps n).1 (ps.getD n (0, 0)).1 (ps.getD n (0, 0)).2 true, (pinsE s ps n).2 + if okE (pinsE s ps n).1 (ps.getD n (0, 0)).1 (ps.getD n (0, 0)).2 true then 1 else 0)
theorem set_keys (l : List E) (x z : Int) (b : Bool) : keysE (setE l x z b) = keysE l := by
  unfold keysE setE
  rw [List.map_map]
  refine List.map_congr_left (fun e _ => ?_)
  show ((if atE x z e = true then { e with p := b } else e).x, (if atE x z e = true then { e with p := b } else e).z) = _
  split <;> rfl
theorem pin_keys (l : List E) (x z : Int) (b : Bool) : keysE (pinE l x z b) = keysE l := by
  unfold pinE
  split
  · exact set_keys _ _ _ _
  · rfl
theorem ord_keys {r : Int × Int → Int} {l l' : List E} (h : keysE l' = keysE l) (ho : Ord r l) : Ord r l' := by
  have e : ∀ l : List E, Ord r l ↔ (keysE l).Pairwise fun a b => r a < r b := fun l => by
    unfold Ord keysE
    rw [List.pairwise_map]
  rw [e] at *
  rw [h]
  exact ho
/-- Keys are apart. -/
def Apart (l : List E) : Prop := l.Pairwise fun a b => ¬ (a.x = b.x ∧ a.z = b.z)
theorem Ord.apart {r : Int × Int → Int} {l : List E} (h : Ord r l) : Apart l := h.imp (fun {a b} h e => by rw [e.1, e.2] at h; omega)
theorem set_none {l : List E} {x z : Int} {b : Bool} (h : ∀ e ∈ l, ¬ (e.x = x ∧ e.z = z)) : setE l x z b = l := by
  unfold setE
  conv => rhs; rw [← List.map_id l]
  refine List.map_congr_left (fun e he => ?_)
  rw [if_neg (by simpa [atE] using h e he)]
  rfl
/-- Where a pin takes, one more is pinned. -/
theorem pins_set {l : List E} {x z : Int} (ha : Apart l) (h : okE l x z true = true) : pins (setE l x z true) = pins l + 1 := by
  induction l with
  | nil => cases h
  | cons e l ih =>
    obtain ⟨h1, h2⟩ := List.pairwise_cons.1 ha
    by_cases he : e.x = x ∧ e.z = z
    · have hf : findE (e :: l) x z = some e := by
        unfold findE
        rw [List.find?_cons_of_pos (by simpa [atE] using he)]
      have hp : e.p = false := by
        unfold okE at h
        rw [hf] at h
        simpa using h
      have hs : setE l x z true = l := set_none (fun d hd hk => h1 d hd ⟨he.1.trans hk.1.symm, he.2.trans hk.2.symm⟩)
      have : setE (e :: l) x z true = { e with p := true } :: l := by
        show (if atE x z e = true then { e with p := true } else e) :: setE l x z true = _
        rw [if_pos (by simpa [atE] using he), hs]
      rw [this]
      unfold pins
      rw [List.filter_cons_of_pos (by rfl), List.filter_cons_of_neg (by simp [hp])]
      rfl
    · have hf : findE (e :: l) x z = findE l x z := by
        unfold findE
        rw [List.find?_cons_of_neg (by simpa [atE] using he)]
      have h' : okE l x z true = true := by
        unfold okE at h ⊢
        rw [hf] at h
        exact h
      have ih' := ih h2 h'
      have : setE (e :: l) x z true = e :: setE l x z true := by
        show (if atE x z e = true then { e with p := true } else e) :: setE l x z true = _
        rw [if_neg (by simpa [atE] using he)]
      rw [this]
      unfold pins at ih' ⊢
      cases hp : e.p
      · rw [List.filter_cons_of_neg (by simp [hp]), List.filter_cons_of_neg (by simp [hp])]
        exact ih'
      · rw [List.filter_cons_of_pos (by simp [hp]), List.filter_cons_of_pos (by simp [hp]), List.length_cons, List.length_cons, ih']
theorem mem_set {l : List E} {x z : Int} {b : Bool} {e : E} (h : e ∈ setE l x z b) : ∃ d ∈ l, e.x = d.x ∧ e.z = d.z ∧ e.v = d.v ∧ ((e.x = x ∧ e.z = z ∧ e.p = b) ∨ (¬ (e.x = x ∧ e.z = z) ∧ e.p = d.p)) := by
  obtain ⟨d, hd, rfl⟩ := List.mem_map.1 h
  refine ⟨d, hd, ?_⟩
  split
  · rename_i h1
    simp only [atE, decide_eq_true_eq] at h1
    exact ⟨rfl, rfl, rfl, .inl ⟨h1.1, h1.2, rfl⟩⟩
  · rename_i h1
    simp only [atE, decide_eq_true_eq] at h1
    exact ⟨rfl, rfl, rfl, .inr ⟨h1, rfl⟩⟩
theorem pins_all {s : List E} (ps : List (Int × Int)) (ha : Apart s) (h0 : ∀ e ∈ s, e.p = false) : ∀ n, n ≤ ps.length → keysE (pinsE s ps n).1 = keysE s ∧ Apart (pinsE s ps n).1 ∧ pins (pinsE s ps n).1 = (pinsE s ps n).2 ∧ ∀ e ∈ (pinsE s ps n).1, e.p = true → (e.x, e.z) ∈ ps
  | 0, _ => ⟨rfl, ha, by
      show pins s = 0
      unfold pins
      rw [List.length_eq_zero_iff, List.filter_eq_nil_iff]
      intro e he
      rw [h0 e he]
      simp, fun e he hp => by rw [h0 e he] at hp; cases hp⟩
  | n + 1, hn => by
    obtain ⟨h1, h2, h3, h4⟩ := pins_all ps ha h0 n (by omega)
    have hx : (ps.getD n (0, 0)) ∈ ps := by
      rw [show ps.getD n (0, 0) = ps[n]'(by omega) by simp [show n < ps.length by omega]]
      exact List.getElem_mem _
    have hk := pin_keys (pinsE s ps n).1 (ps.getD n (0, 0)).1 (ps.getD n (0, 0)).2 true
    refine ⟨hk.trans h1, ?_, ?_, ?_⟩
    · have e : ∀ l : List E, Apart l ↔ (keysE l).Pairwise fun a b => ¬ (a.1 = b.1 ∧ a.2 = b.2) := fun l => by
        unfold Apart keysE
        rw [List.pairwise_map]
      show Apart (pinE _ _ _ _)
      rw [e] at h2 ⊢
      rw [hk]
      exact h2
    · show pins (pinE _ _ _ _) = _ + _
      unfold pinE
      cases ho : okE (pinsE s ps n).1 (ps.getD n (0, 0)).1 (ps.getD n (0, 0)).2 true
      · rw [if_neg (by simp), if_neg (by simp), h3]
        rfl
      · rw [if_pos rfl, if_pos rfl, pins_set h2 ho, h3]
    · intro e he hp
      have he' : e ∈ pinE (pinsE s ps n).1 (ps.getD n (0, 0)).1 (ps.getD n (0, 0)).2 true := he
      unfold pinE at he'
      split at he'
      · obtain ⟨d, hd, e1, e2, _, h5 | h5⟩ := mem_set he'
        · rw [h5.1, h5.2.1]
          exact hx
        · rw [e1, e2]
          exact h4 d hd (by rw [← h5.2]; exact hp)
      · exact h4 e he' hp
/-- What a Trim leaves. -/
structure Trimmed (r : Int × Int → Int) (l : List E) (n : Nat) (t : List E × List (Int × Int)) : Prop where
  sub : t.1.Sublist l
  pin : pins t.1 = pins l
  cnt : unp t.1 + t.2.length = unp l
  len : n ≤ unp l → t.2.length = n
  off : ∀ g ∈ t.2, ∀ e ∈ t.1, ¬ (e.x = g.1 ∧ e.z = g.2)
  ord : ∀ g ∈ t.2, ∀ e ∈ t.1, e.p = false → r g < r (e.x, e.z)
theorem rem_one {l : List E} (ha : Apart l) {e : E} (he : e ∈ l) : ∃ la lb, l = la ++ e :: lb ∧ remE l e.x e.z = la ++ lb := by
  obtain ⟨la, lb, rfl⟩ := List.append_of_mem he
  refine ⟨la, lb, rfl, ?_⟩
  obtain ⟨_, h2, h3⟩ := List.pairwise_append.1 ha
  obtain ⟨h4, _⟩ := List.pairwise_cons.1 h2
  unfold remE
  rw [List.filter_append, List.filter_cons_of_neg (by simp [atE])]
  congr 1
  · rw [List.filter_eq_self]
    intro a ha'
    have := h3 a ha' e (by simp)
    simp only [atE, Bool.not_eq_true', decide_eq_false_iff_not]
    exact this
  · rw [List.filter_eq_self]
    intro b hb
    have := h4 b hb
    simp only [atE, Bool.not_eq_true', decide_eq_false_iff_not]
    exact fun hk => this ⟨hk.1.symm, hk.2.symm⟩
theorem trimK_spec (r : Int × Int → Int) : ∀ n l, Ord r l → Trimmed r l n (trimK n l)
  | 0, l, _ => ⟨List.Sublist.refl _, rfl, rfl, fun _ => rfl, fun g hg => (by cases hg), fun g hg => (by cases hg)⟩
  | n + 1, l, ho => by
    unfold trimK
    cases hh : headU l with
    | none =>
      have hu : unp l = 0 := by
        unfold unp
        rw [List.length_eq_zero_iff, List.filter_eq_nil_iff]
        exact fun e he => List.find?_eq_none.1 hh e he
      exact ⟨List.Sublist.refl _, rfl, rfl, fun h => (by omega), fun g hg => (by cases hg), fun g hg => (by cases hg)⟩
    | some e =>
      obtain ⟨hp, la, lb, hl, hla⟩ := List.find?_eq_some_iff_append.1 hh
      have hep : e.p = false := by simpa using hp
      have he : e ∈ l := by rw [hl]; simp
      have hsub := rem_sub l e.x e.z
      have ih := trimK_spec r n (remE l e.x e.z) (ho.sublist hsub)
      have hlen : unp (remE l e.x e.z) + 1 = unp l ∧ pins (remE l e.x e.z) = pins l := by
        obtain ⟨ma, mb, h1, h2⟩ := rem_one ho.apart he
        rw [h2, h1]
        unfold unp pins
        constructor
        · rw [List.filter_append, List.filter_append, List.filter_cons_of_pos (by simp [hep])]
          simp
          omega
        · rw [List.filter_append, List.filter_append, List.filter_cons_of_neg (by simp [hep])]
      refine ⟨ih.sub.trans hsub, ih.pin.trans hlen.2, ?_, fun h => ?_, fun g hg d hd => ?_, fun g hg d hd hdp => ?_⟩
      · show unp (trimK n (remE l e.x e.z)).1 + ((e.x, e.z) :: (trimK n (remE l e.x e.z)).2).length = unp l
        have := ih.cnt
        have := hlen.1
        rw [List.length_cons]
        omega
      · show ((e.x, e.z) :: (trimK n (remE l e.x e.z)).2).length = n + 1
        have := ih.len (by omega)
        rw [List.length_cons]
        omega
      · rcases List.mem_cons.1 hg with rfl | h1
        · exact (mem_rem.1 (ih.sub.subset hd)).2
        · exact ih.off g h1 d hd
      · rcases List.mem_cons.1 hg with rfl | h1
        · have hd1 := mem_rem.1 (ih.sub.subset hd)
          rw [hl] at hd1 ho
          rcases List.mem_append.1 hd1.1 with h2 | h2
          · have := hla d h2
            simp [hdp] at this
          · rcases List.mem_cons.1 h2 with h3 | h3
            · exact absurd ⟨by rw [h3], by rw [h3]⟩ hd1.2
            · exact (List.pairwise_cons.1 (List.pairwise_append.1 ho).2.1).1 d h3
        · exact ih.ord g h1 d hd hdp
theorem trimK_keys : ∀ n l, ∀ g ∈ (trimK n l).2, g ∈ keysE l
  | 0, _ => fun g hg => (by cases hg)
  | n + 1, l => fun g hg => by
    unfold trimK at hg
    cases hh : headU l with
    | none => rw [hh] at hg; cases hg
    | some e =>
      rw [hh] at hg
      rcases List.mem_cons.1 hg with rfl | h1
      · exact List.mem_map.2 ⟨e, List.mem_of_find?_eq_some hh, rfl⟩
      · obtain ⟨d, hd, e1⟩ := List.mem_map.1 (trimK_keys n _ g h1)
        exact List.mem_map.2 ⟨d, (mem_rem.1 hd).1, e1⟩
/-- What CacheTrims asks. -/
structure TF (l ps : List (Int × Int)) (m : Int) (s : List E) (cnt : Nat) (t : List E × List (Int × Int)) : Prop where
  pin : pins t.1 = cnt
  le : ((keysE t.1).length : Int) ≤ m + cnt
  eq : t.2.length ≠ 0 → ((keysE t.1).length : Int) = m + cnt
  off : ∀ g ∈ t.2, findE t.1 g.1 g.2 = none
  ord : ∀ g ∈ t.2, ∀ k ∈ keysE t.1, k ∉ ps → lastK l g l.length < lastK l k l.length
  key : ∀ g ∈ t.2, g ∈ keysE s
  gl : t.2.length ≤ s.length
theorem trims_facts (l ps : List (Int × Int)) (m : Int) (hm : 1 ≤ m) : TF l ps m (pinsE (putsE l l.length) ps ps.length).1 (pinsE (putsE l l.length) ps ps.length).2 (trimE m (pinsE (putsE l l.length) ps ps.length).1) := by
  obtain ⟨h1, h2⟩ := puts_ord l l.length
  obtain ⟨p1, p2, p3, p4⟩ := pins_all ps h1.apart (fun e he => (h2 e he).2) ps.length (Nat.le_refl _)
  generalize (pinsE (putsE l l.length) ps ps.length).2 = cnt at *
  generalize (pinsE (putsE l l.length) ps ps.length).1 = s at *
  have ho := ord_keys p1 h1
  have T := trimK_spec (fun p => lastK l p l.length) ((unp s : Int) - m).toNat s ho
  have hk : ((keysE (trimE m s).1).length : Int) = unp (trimE m s).1 + pins (trimE m s).1 := by
    have := unp_pins (trimE m s).1
    unfold keysE
    rw [List.length_map]
    omega
  have hlen : ((unp s : Int) - m).toNat ≤ unp s := by omega
  have hT := T.len hlen
  have hc := T.cnt
  have hp := T.pin
  refine ⟨hp.trans p3, ?_, fun h0 => ?_, fun g hg => ?_, fun g hg k hk hn => ?_, fun g hg => trimK_keys _ _ g hg, ?_⟩
  · rw [hk]
    show ((unp (trimK _ s).1 : Int) + (pins (trimK _ s).1 : Int)) ≤ _
    omega
  · rw [hk]
    show ((unp (trimK _ s).1 : Int) + (pins (trimK _ s).1 : Int)) = _
    have h0' : (trimK ((unp s : Int) - m).toNat s).2.length ≠ 0 := h0
    omega
  · unfold findE
    rw [List.find?_eq_none]
    intro e he
    have := T.off g hg e he
    simpa [atE] using this
  · obtain ⟨e, he, rfl⟩ := List.mem_map.1 hk
    refine T.ord g hg e he ?_
    cases hp : e.p
    · rfl
    · exact absurd (p4 e (T.sub.subset he) hp) hn
  · have := unp_pins s
    show (trimK ((unp s : Int) - m).toNat s).2.length ≤ s.length
    omega
end Go.Proofs.Ytpfhgkgkbefigaa
