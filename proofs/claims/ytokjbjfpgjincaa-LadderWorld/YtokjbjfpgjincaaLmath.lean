/-
  Plain mathematics for the layer ladder: how far away stages are needed, tasks, what a task needs; no program is named here.
-/
set_option maxRecDepth 20000
namespace Go.Proofs.Ytokjbjfpgjincaa

/-- A read: its stage, its radius. -/
abbrev Rd : Type := Int × Int
abbrev Lad : Type := List (List Rd)
def readOk (i : Nat) (x : Rd) : Prop := 0 ≤ x.1 ∧ x.1 < (i : Int) ∧ 0 ≤ x.2 ∧ x.2 ≤ 8
structure Formed (l : Lad) : Prop where
  n : l.length ≤ 16
  m : ∀ r ∈ l, r.length ≤ 16
  ok : ∀ i, ∀ x ∈ l.getD i [], readOk i x
def gt (r : List Int) (i : Nat) : Int := r.getD i (-1)
theorem gt_set (r : List Int) (i j : Nat) (v : Int) : gt (r.set i v) j = if i = j ∧ i < r.length then v else gt r j := by
  unfold gt
  rw [List.getD_eq_getElem?_getD, List.getD_eq_getElem?_getD, List.getElem?_set]
  by_cases h : i = j
  · subst h
    by_cases h2 : i < r.length
    · rw [if_pos rfl, if_pos h2, if_pos ⟨rfl, h2⟩]; rfl
    · rw [if_pos rfl, if_neg h2, if_neg (fun h => h2 h.2), List.getElem?_eq_none (by omega)]
  · rw [if_neg h, if_neg (fun h' => h h'.1)]
/-- One read is looked at. -/
def stepR (v : Int) (r : List Int) (x : Rd) : List Int := if gt r x.1.toNat < v + x.2 then r.set x.1.toNat (v + x.2) else r
def rowR (l : Lad) (i : Nat) (r : List Int) : List Int := if 0 ≤ gt r i then (l.getD i []).foldl (stepR (gt r i)) r else r
def downR (l : Lad) : Nat → List Int → List Int
  | 0, r => r
  | i + 1, r => downR l i (rowR l i r)
def startR (n k : Nat) : List Int := (List.replicate n (-1)).set k 0
/-- How far away each stage is needed. -/
def spreadL (l : Lad) (k : Nat) : List Int := downR l (k + 1) (startR l.length k)
theorem stepR_len (v : Int) (r : List Int) (x : Rd) : (stepR v r x).length = r.length := by
  unfold stepR
  split
  · rw [List.length_set]
  · rfl
theorem foldR_len (v : Int) : ∀ (xs : List Rd) (r : List Int), (xs.foldl (stepR v) r).length = r.length
  | [], _ => rfl
  | x :: xs, r => by rw [List.foldl_cons, foldR_len v xs, stepR_len]
theorem rowR_len (l : Lad) (i : Nat) (r : List Int) : (rowR l i r).length = r.length := by
  unfold rowR
  split
  · exact foldR_len _ _ _
  · rfl
theorem downR_len (l : Lad) : ∀ (i : Nat) (r : List Int), (downR l i r).length = r.length
  | 0, _ => rfl
  | i + 1, r => by rw [downR, downR_len l i, rowR_len]
theorem spreadL_len (l : Lad) (k : Nat) : (spreadL l k).length = l.length := by unfold spreadL startR; rw [downR_len]; simp
/-- What is known behind some rounds: those from i on are done. -/
structure Dn (l : Lad) (k i : Nat) (r : List Int) : Prop where
  len : r.length = l.length
  top : gt r k = 0
  up : ∀ j, k < j → gt r j = -1
  low : ∀ j, -1 ≤ gt r j
  clo : ∀ j, i ≤ j → 0 ≤ gt r j → ∀ x ∈ l.getD j [], gt r j + x.2 ≤ gt r x.1.toNat
  wit : ∀ s, s ≠ k → 0 ≤ gt r s → ∃ j, i ≤ j ∧ j ≤ k ∧ 0 ≤ gt r j ∧ ∃ q, ((s : Int), q) ∈ l.getD j [] ∧ gt r s = gt r j + q
/-- Within the round i, behind some of its reads. -/
structure Md (l : Lad) (k i : Nat) (xs : List Rd) (v : Int) (r : List Int) : Prop where
  len : r.length = l.length
  top : gt r k = 0
  at_ : gt r i = v
  up : ∀ j, k < j → gt r j = -1
  low : ∀ j, -1 ≤ gt r j
  clo : ∀ j, i < j → 0 ≤ gt r j → ∀ x ∈ l.getD j [], gt r j + x.2 ≤ gt r x.1.toNat
  cli : ∀ x ∈ xs, v + x.2 ≤ gt r x.1.toNat
  wit : ∀ s, s ≠ k → 0 ≤ gt r s → ∃ j, i ≤ j ∧ j ≤ k ∧ 0 ≤ gt r j ∧ ∃ q, ((s : Int), q) ∈ l.getD j [] ∧ gt r s = gt r j + q
theorem Md.step {l : Lad} {k i : Nat} {xs : List Rd} {v : Int} {r : List Int} (hF : Formed l) (hik : i ≤ k) (hkl : k < l.length) (hv : 0 ≤ v) {x : Rd} (hx : x ∈ l.getD i []) (h : Md l k i xs v r) : Md l k i (xs ++ [x]) v (stepR v r x) := by
  obtain ⟨h1, h2, h3, h4⟩ := hF.ok i x hx
  obtain ⟨s, hs⟩ := Int.eq_ofNat_of_zero_le h1
  have hsi : s < i := by omega
  have hst : x.1.toNat = s := by omega
  have hsl : s < r.length := by rw [h.len]; omega
  have hmem : ((s : Int), x.2) ∈ l.getD i [] := by rw [← hs]; exact hx
  unfold stepR
  rw [hst]
  by_cases hlt : gt r s < v + x.2
  · rw [if_pos hlt]
    have hg : ∀ j, gt (r.set s (v + x.2)) j = if s = j then v + x.2 else gt r j := fun j => by
      rw [gt_set]
      by_cases e : s = j
      · rw [if_pos ⟨e, hsl⟩, if_pos e]
      · rw [if_neg (fun h => e h.1), if_neg e]
    have hge : ∀ j, gt r j ≤ gt (r.set s (v + x.2)) j := fun j => by
      rw [hg]
      by_cases e : s = j
      · subst e; rw [if_pos rfl]; omega
      · rw [if_neg e]; exact Int.le_refl _
    have heq : ∀ j, s ≠ j → gt (r.set s (v + x.2)) j = gt r j := fun j e => by rw [hg, if_neg e]
    have hself : gt (r.set s (v + x.2)) s = v + x.2 := by rw [hg, if_pos rfl]
    refine ⟨by rw [List.length_set]; exact h.len, by rw [heq k (by omega)]; exact h.top, by rw [heq i (by omega)]; exact h.at_, fun j hj => by rw [heq j (by omega)]; exact h.up j hj, fun j => Int.le_trans (h.low j) (hge j), fun j hj h0 y hy => ?_, fun y hy => ?_, fun t ht h0 => ?_⟩
    · rw [heq j (by omega)] at h0 ⊢
      exact Int.le_trans (h.clo j hj h0 y hy) (hge _)
    · rcases List.mem_append.1 hy with hy | hy
      · exact Int.le_trans (h.cli y hy) (hge _)
      · rw [List.mem_singleton.1 hy, hst, hself]
        exact Int.le_refl _
    · by_cases e : s = t
      · subst e
        exact ⟨i, Nat.le_refl _, hik, by rw [heq i (by omega), h.at_]; exact hv, x.2, hmem, by rw [hself, heq i (by omega), h.at_]⟩
      · rw [heq t e] at h0 ⊢
        obtain ⟨j, k1, k2, k3, q, k4, k5⟩ := h.wit t ht h0
        have hjs : s ≠ j := by omega
        exact ⟨j, k1, k2, by rw [heq j hjs]; exact k3, q, k4, by rw [heq j hjs]; exact k5⟩
  · rw [if_neg hlt]
    refine ⟨h.len, h.top, h.at_, h.up, h.low, h.clo, fun y hy => ?_, h.wit⟩
    rcases List.mem_append.1 hy with hy | hy
    · exact h.cli y hy
    · rw [List.mem_singleton.1 hy, hst]; omega
theorem Md.fold {l : Lad} {k i : Nat} {v : Int} (hF : Formed l) (hik : i ≤ k) (hkl : k < l.length) (hv : 0 ≤ v) : ∀ (ys xs : List Rd) (r : List Int), (∀ y ∈ ys, y ∈ l.getD i []) → Md l k i xs v r → Md l k i (xs ++ ys) v (ys.foldl (stepR v) r)
  | [], xs, r, _, h => by rw [List.append_nil]; exact h
  | y :: ys, xs, r, hy, h => by
    rw [List.foldl_cons, show xs ++ y :: ys = (xs ++ [y]) ++ ys by simp]
    exact Md.fold hF hik hkl hv ys (xs ++ [y]) _ (fun z hz => hy z (List.mem_cons_of_mem _ hz)) (h.step hF hik hkl hv (hy y (by simp)))
theorem Dn.row {l : Lad} {k i : Nat} {r : List Int} (hF : Formed l) (hik : i ≤ k) (hkl : k < l.length) (h : Dn l k (i + 1) r) : Dn l k i (rowR l i r) := by
  unfold rowR
  by_cases h0 : 0 ≤ gt r i
  · rw [if_pos h0]
    have hm : Md l k i [] (gt r i) r := ⟨h.len, h.top, rfl, h.up, h.low, fun j hj => h.clo j hj, fun x hx => by simp at hx, fun s hs h1 => by
      obtain ⟨j, k1, k2⟩ := h.wit s hs h1
      exact ⟨j, by omega, k2⟩⟩
    have H := hm.fold hF hik hkl h0 (l.getD i []) [] r (fun y hy => hy)
    rw [List.nil_append] at H
    refine ⟨H.len, H.top, H.up, H.low, fun j hj h1 x hx => ?_, H.wit⟩
    by_cases e : j = i
    · subst e
      rw [H.at_]
      exact H.cli x hx
    · exact H.clo j (by omega) h1 x hx
  · rw [if_neg h0]
    refine ⟨h.len, h.top, h.up, h.low, fun j hj h1 => ?_, fun s hs h1 => ?_⟩
    · by_cases e : j = i
      · subst e; exact absurd h1 h0
      · exact h.clo j (by omega) h1
    · obtain ⟨j, k1, k2⟩ := h.wit s hs h1
      exact ⟨j, by omega, k2⟩
theorem Dn.down {l : Lad} {k : Nat} (hF : Formed l) (hkl : k < l.length) : ∀ (i : Nat) (r : List Int), i ≤ k + 1 → Dn l k i r → Dn l k 0 (downR l i r)
  | 0, _, _, h => h
  | i + 1, r, hi, h => Dn.down hF hkl i _ (by omega) (h.row hF (by omega) hkl)
theorem Dn.start {l : Lad} {k : Nat} (hkl : k < l.length) : Dn l k (k + 1) (startR l.length k) := by
  have hg : ∀ j, gt (startR l.length k) j = if k = j then 0 else -1 := fun j => by
    unfold startR
    rw [gt_set]
    by_cases e : k = j
    · rw [if_pos ⟨e, by rw [List.length_replicate]; exact hkl⟩, if_pos e]
    · rw [if_neg (fun h => e h.1), if_neg e]
      unfold gt
      rw [List.getD_eq_getElem?_getD, List.getElem?_replicate]
      split <;> rfl
  refine ⟨by unfold startR; simp, by rw [hg, if_pos rfl], fun j hj => by rw [hg, if_neg (by omega)], fun j => by rw [hg]; split <;> omega, fun j hj h0 => ?_, fun s hs h0 => ?_⟩
  · rw [hg, if_neg (by omega)] at h0; omega
  · rw [hg, if_neg (Ne.symm hs)] at h0; omega
/-- How far away stages are needed. -/
theorem spread_is {l : Lad} {k : Nat} (hF : Formed l) (hkl : k < l.length) : Dn l k 0 (spreadL l k) := (Dn.start hkl).down hF hkl (k + 1) _ (Nat.le_refl _)
/-- They are the least that are so. -/
theorem Dn.least {l l' : Lad} {k : Nat} {r r' : List Int} (h : Dn l k 0 r) (h' : Dn l' k 0 r') (hsub : ∀ j, j ≤ k → ∀ x ∈ l.getD j [], x ∈ l'.getD j []) (hF : Formed l) : ∀ s, gt r s ≤ gt r' s := by
  have key : ∀ d s, k - s ≤ d → s ≤ k → gt r s ≤ gt r' s := by
    intro d
    induction d with
    | zero =>
      intro s h1 h2
      obtain rfl : s = k := by omega
      rw [h.top, h'.top]
      exact Int.le_refl _
    | succ d ih =>
      intro s h1 h2
      by_cases e : s = k
      · subst e; rw [h.top, h'.top]; exact Int.le_refl _
      · by_cases h0 : 0 ≤ gt r s
        · obtain ⟨j, _, k2, k3, q, k4, k5⟩ := h.wit s e h0
          have hlt := (hF.ok j _ k4).2.1
          simp only at hlt
          have hj := ih j (by omega) k2
          have := h'.clo j (Nat.zero_le _) (by omega) _ (hsub j k2 _ k4)
          simp only [Int.toNat_natCast] at this
          omega
        · have := h'.low s
          omega
  intro s
  by_cases hs : s ≤ k
  · exact key (k - s) s (Nat.le_refl _) hs
  · rw [h.up s (by omega)]
    exact h'.low s
theorem of_read {l : Lad} {i : Nat} {x : Rd} (hx : x ∈ l.getD i []) : i < l.length := by
  refine Nat.lt_of_not_le (fun hge => ?_)
  rw [List.getD_eq_getElem?_getD, List.getElem?_eq_none hge] at hx
  simp at hx
/-! ### ladders that may be -/
structure MayL (l : Lad) : Prop where
  f : Formed l
  le : ∀ k, k < l.length → ∀ v ∈ spreadL l k, v ≤ 8
theorem MayL.gt_le {l : Lad} (h : MayL l) {k : Nat} (hk : k < l.length) (i : Nat) : gt (spreadL l k) i ≤ 8 := by
  unfold gt
  rw [List.getD_eq_getElem?_getD]
  cases he : (spreadL l k)[i]? with
  | none => simp
  | some v => exact h.le k hk v (List.mem_of_getElem? he)
/-- A stage that there is, of a ladder that may be. -/
def stOk (l : Lad) (k : Int) : Prop := MayL l ∧ 0 ≤ k ∧ k < (l.length : Int)
def readB (i : Nat) (x : Rd) : Bool := decide (0 ≤ x.1 ∧ x.1 < (i : Int) ∧ 0 ≤ x.2 ∧ x.2 ≤ 8)
def formB (l : Lad) : Bool := decide (l.length ≤ 16) && (List.range l.length).all fun i => decide ((l.getD i []).length ≤ 16) && (l.getD i []).all (readB i)
def mayB (l : Lad) : Bool := formB l && (List.range l.length).all fun k => (spreadL l k).all fun v => decide (v ≤ 8)
def stB (l : Lad) (k : Int) : Bool := mayB l && decide (0 ≤ k ∧ k < (l.length : Int))
theorem getD_mem {l : Lad} {i : Nat} (h : i < l.length) : l.getD i [] ∈ l := by
  rw [List.getD_eq_getElem?_getD, List.getElem?_eq_getElem h]
  exact List.getElem_mem h
theorem form_iff {l : Lad} : formB l = true ↔ Formed l := by
  unfold formB
  rw [Bool.and_eq_true, decide_eq_true_iff, List.all_eq_true]
  constructor
  · rintro ⟨h1, h2⟩
    have h3 : ∀ i, i < l.length → (l.getD i []).length ≤ 16 ∧ ∀ x ∈ l.getD i [], readOk i x := fun i hi => by
      have := h2 i (List.mem_range.2 hi)
      rw [Bool.and_eq_true, decide_eq_true_iff, List.all_eq_true] at this
      refine ⟨this.1, fun x hx => ?_⟩
      have h4 := this.2 x hx
      unfold readB at h4
      rw [decide_eq_true_iff] at h4
      exact h4
    refine ⟨h1, fun r hr => ?_, fun i x hx => (h3 i (of_read hx)).2 x hx⟩
    obtain ⟨i, hi, rfl⟩ := List.mem_iff_getElem.1 hr
    have := (h3 i hi).1
    rw [List.getD_eq_getElem?_getD, List.getElem?_eq_getElem hi] at this
    exact this
  · intro h
    refine ⟨h.n, fun i hi => ?_⟩
    rw [List.mem_range] at hi
    rw [Bool.and_eq_true, decide_eq_true_iff, List.all_eq_true]
    exact ⟨h.m _ (getD_mem hi), fun x hx => by
      have hh := h.ok i x hx
      unfold readB
      rw [decide_eq_true_iff]
      exact hh⟩
theorem may_iff {l : Lad} : mayB l = true ↔ MayL l := by
  unfold mayB
  rw [Bool.and_eq_true, form_iff, List.all_eq_true]
  constructor
  · rintro ⟨h1, h2⟩
    refine ⟨h1, fun k hk v hv => ?_⟩
    have := h2 k (List.mem_range.2 hk)
    rw [List.all_eq_true] at this
    exact of_decide_eq_true (this v hv)
  · intro h
    refine ⟨h.f, fun k hk => ?_⟩
    rw [List.all_eq_true]
    exact fun v hv => decide_eq_true (h.le k (List.mem_range.1 hk) v hv)
theorem st_iff {l : Lad} {k : Int} : stB l k = true ↔ stOk l k := by
  unfold stB stOk
  rw [Bool.and_eq_true, may_iff, decide_eq_true_iff]
def radL (l : Lad) (k : Int) : List Int := if stB l k = true then spreadL l k.toNat else []
def cap1 (r : Int) : Int := if 0 ≤ r then (2 * r + 1) * (2 * r + 1) else 0
def capS (rs : List Int) : Int := (rs.map cap1).sum
/-- The chunks near a chunk. -/
def nrL (x z r : Int) : List (Int × Int) := if 0 ≤ r ∧ r ≤ 8 then (List.range ((2 * r + 1).toNat * (2 * r + 1).toNat)).map fun k => (x - r + ((k % (2 * r + 1).toNat : Nat) : Int), z - r + ((k / (2 * r + 1).toNat : Nat) : Int)) else []
theorem nrL_len (x z r : Int) (h0 : 0 ≤ r) (h8 : r ≤ 8) : ((nrL x z r).length : Int) = cap1 r := by
  unfold nrL cap1
  rw [if_pos ⟨h0, h8⟩, if_pos h0, List.length_map, List.length_range, Int.natCast_mul]
  have : (((2 * r + 1).toNat : Nat) : Int) = 2 * r + 1 := by omega
  rw [this]
theorem nrL_mem {x z r a b : Int} : (a, b) ∈ nrL x z r ↔ (0 ≤ r ∧ r ≤ 8) ∧ x - r ≤ a ∧ a ≤ x + r ∧ z - r ≤ b ∧ b ≤ z + r := by
  unfold nrL
  by_cases h : 0 ≤ r ∧ r ≤ 8
  · rw [if_pos h, List.mem_map]
    obtain ⟨S, hS⟩ : ∃ S, S = (2 * r + 1).toNat := ⟨_, rfl⟩
    rw [← hS]
    have hSi : (S : Int) = 2 * r + 1 := by omega
    have hS1 : 1 ≤ S := by omega
    constructor
    · rintro ⟨k, hk, e⟩
      rw [List.mem_range] at hk
      simp only [Prod.mk.injEq] at e
      have h1 : k % S < S := Nat.mod_lt _ (by omega)
      have h2 : k / S < S := Nat.div_lt_of_lt_mul hk
      generalize k % S = E at *
      generalize k / S = D at *
      exact ⟨h, by omega, by omega, by omega, by omega⟩
    · rintro ⟨_, h1, h2, h3, h4⟩
      obtain ⟨I, hI⟩ := Int.eq_ofNat_of_zero_le (show 0 ≤ a - (x - r) by omega)
      obtain ⟨M, hM⟩ := Int.eq_ofNat_of_zero_le (show 0 ≤ b - (z - r) by omega)
      have hIS : I < S := by omega
      have hMS : M < S := by omega
      refine ⟨M * S + I, List.mem_range.2 ?_, ?_⟩
      · have : (M + 1) * S ≤ S * S := Nat.mul_le_mul_right _ (by omega)
        rw [Nat.add_mul] at this
        omega
      · have e1 : (M * S + I) % S = I := by rw [Nat.mul_comm, Nat.mul_add_mod]; exact Nat.mod_eq_of_lt hIS
        have e2 : (M * S + I) / S = M := by rw [Nat.mul_comm, Nat.mul_add_div (by omega), Nat.div_eq_of_lt hIS]; omega
        rw [e1, e2]
        simp only [Prod.mk.injEq]
        omega
  · rw [if_neg h]
    constructor
    · intro hm; simp at hm
    · rintro ⟨h', _⟩; exact absurd h' h
theorem nrL_nodup (x z r : Int) : (nrL x z r).Nodup := by
  unfold nrL
  split
  · rename_i h
    obtain ⟨S, hS⟩ : ∃ S, S = (2 * r + 1).toNat := ⟨_, rfl⟩
    rw [← hS]
    have hS1 : 1 ≤ S := by omega
    refine List.Pairwise.map _ (fun a b hab e => hab ?_) List.nodup_range
    simp only [Prod.mk.injEq] at e
    have e1 : a % S = b % S := by omega
    have e2 : a / S = b / S := by omega
    rw [← Nat.div_add_mod a S, ← Nat.div_add_mod b S, e1, e2]
  · simp
/-! ### tasks -/
/-- A task: its stage, its chunk. -/
abbrev Tk : Type := Int × Int × Int
def tkOf (s : Int) (p : Int × Int) : Tk := (s, p.1, p.2)
def tasksF (x z : Int) : Nat → List Int → List Tk
  | _, [] => []
  | i, r :: rs => (nrL x z r).map (tkOf (i : Int)) ++ tasksF x z (i + 1) rs
/-- The tasks of a stage. -/
def tasksL (l : Lad) (k x z : Int) : List Tk := tasksF x z 0 (radL l k)
def needsF (x z : Int) : List Rd → List Tk
  | [] => []
  | y :: ys => (nrL x z y.2).map (tkOf y.1) ++ needsF x z ys
def needsL (l : Lad) (t : Tk) : List Tk := if stB l t.1 = true then needsF t.2.1 t.2.2 (l.getD t.1.toNat []) else []
theorem tasksF_mem {x z : Int} : ∀ {i : Nat} {rs : List Int} {s a b : Int}, (s, a, b) ∈ tasksF x z i rs ↔ ∃ j, s = ((i + j : Nat) : Int) ∧ (a, b) ∈ nrL x z (gt rs j)
  | i, [], s, a, b => by
    constructor
    · intro h; simp [tasksF] at h
    · rintro ⟨j, _, h⟩
      have := (nrL_mem.1 h).1
      simp [gt] at this
  | i, r :: rs, s, a, b => by
    rw [tasksF, List.mem_append, tasksF_mem]
    constructor
    · rintro (h | ⟨j, h1, h2⟩)
      · obtain ⟨p, hp, e⟩ := List.mem_map.1 h
        simp only [tkOf, Prod.mk.injEq] at e
        obtain ⟨rfl, rfl, rfl⟩ := e
        exact ⟨0, by simp, hp⟩
      · exact ⟨j + 1, by omega, h2⟩
    · rintro ⟨j, h1, h2⟩
      cases j with
      | zero => exact .inl (List.mem_map.2 ⟨(a, b), h2, by simp [tkOf, h1]⟩)
      | succ j => exact .inr ⟨j, by omega, h2⟩
theorem needsF_mem {x z : Int} : ∀ {ys : List Rd} {s a b : Int}, (s, a, b) ∈ needsF x z ys ↔ ∃ q, (s, q) ∈ ys ∧ (a, b) ∈ nrL x z q
  | [], s, a, b => by simp [needsF]
  | y :: ys, s, a, b => by
    rw [needsF, List.mem_append, needsF_mem]
    constructor
    · rintro (h | ⟨q, h1, h2⟩)
      · obtain ⟨p, hp, e⟩ := List.mem_map.1 h
        simp only [tkOf, Prod.mk.injEq] at e
        obtain ⟨e1, rfl, rfl⟩ := e
        exact ⟨y.2, by rw [← e1]; exact List.mem_cons_self .., hp⟩
      · exact ⟨q, List.mem_cons_of_mem _ h1, h2⟩
    · rintro ⟨q, h1, h2⟩
      rcases List.mem_cons.1 h1 with e | h1
      · subst e
        exact .inl (List.mem_map.2 ⟨(a, b), h2, rfl⟩)
      · exact .inr ⟨q, h1, h2⟩
theorem tasksF_low {x z : Int} {i : Nat} {rs : List Int} {t : Tk} (h : t ∈ tasksF x z i rs) : (i : Int) ≤ t.1 := by
  obtain ⟨s, a, b⟩ := t
  obtain ⟨j, hj, _⟩ := tasksF_mem.1 h
  simp only
  omega
theorem tasksF_nodup (x z : Int) : ∀ (rs : List Int) (i : Nat), (tasksF x z i rs).Nodup
  | [], _ => by simp [tasksF]
  | r :: rs, i => by
    rw [tasksF, List.nodup_append]
    refine ⟨List.Pairwise.map _ (fun a b hab e => hab ?_) (nrL_nodup x z r), tasksF_nodup x z rs (i + 1), fun t h1 u h2 e => ?_⟩
    · simp only [tkOf, Prod.mk.injEq] at e
      exact Prod.ext e.2.1 e.2.2
    · subst e
      have := tasksF_low h2
      obtain ⟨p, _, rfl⟩ := List.mem_map.1 h1
      simp only [tkOf] at this
      omega
theorem tasksF_sorted (x z : Int) : ∀ (rs : List Int) (i : Nat), (tasksF x z i rs).Pairwise (fun a b => a.1 ≤ b.1)
  | [], _ => by simp [tasksF]
  | r :: rs, i => by
    rw [tasksF, List.pairwise_append]
    refine ⟨?_, tasksF_sorted x z rs (i + 1), fun t h1 u h2 => ?_⟩
    · rw [List.pairwise_map]
      exact List.Pairwise.imp (fun _ => Int.le_refl _) (List.nodup_iff_pairwise_ne.1 (nrL_nodup x z r))
    · have := tasksF_low h2
      obtain ⟨p, _, rfl⟩ := List.mem_map.1 h1
      simp only [tkOf]
      omega
theorem tasksF_len (x z : Int) : ∀ (rs : List Int) (i : Nat), (∀ r ∈ rs, r ≤ 8) → ((tasksF x z i rs).length : Int) = capS rs
  | [], _, _ => rfl
  | r :: rs, i, h => by
    have ih := tasksF_len x z rs (i + 1) (fun y hy => h y (List.mem_cons_of_mem _ hy))
    have e : capS (r :: rs) = cap1 r + capS rs := by simp [capS]
    rw [tasksF, List.length_append, List.length_map, Int.natCast_add, ih, e]
    congr 1
    by_cases h0 : 0 ≤ r
    · exact nrL_len x z r h0 (h r (by simp))
    · unfold nrL cap1
      rw [if_neg (fun h => h0 h.1), if_neg h0]
      rfl
/-! ### what follows -/
section
variable {l : Lad} {k : Int} {x z : Int}
theorem radL_ok (h : stOk l k) : radL l k = spreadL l k.toNat := by unfold radL; rw [if_pos (st_iff.2 h)]
theorem radL_no (h : ¬ stOk l k) : radL l k = [] := by unfold radL; rw [if_neg (fun h' => h (st_iff.1 h'))]
/-- Each task stands once. -/
theorem tasks_once : (tasksL l k x z).Nodup := tasksF_nodup _ _ _ _
/-- A task of a lower stage stands ahead. -/
theorem tasks_ahead {i m : Nat} (hi : i < (tasksL l k x z).length) (hm : m < (tasksL l k x z).length) (h : (tasksL l k x z)[m].1 < (tasksL l k x z)[i].1) : m < i := by
  refine Nat.lt_of_not_le (fun hle => ?_)
  rcases Nat.lt_or_ge i m with h1 | h1
  · have := List.pairwise_iff_getElem.1 (tasksF_sorted x z (radL l k) 0) i m hi hm h1
    have h2 : (tasksL l k x z)[i].1 ≤ (tasksL l k x z)[m].1 := this
    omega
  · obtain rfl : i = m := by omega
    omega
/-- All that a task needs stands ahead of it. -/
theorem tasks_need (h : stOk l k) {i : Nat} (hi : i < (tasksL l k x z).length) {u : Tk} (hu : u ∈ needsL l (tasksL l k x z)[i]) : ∃ m, ∃ hm : m < (tasksL l k x z).length, m < i ∧ (tasksL l k x z)[m] = u := by
  have hmem : (tasksL l k x z)[i] ∈ tasksL l k x z := List.getElem_mem hi
  obtain ⟨⟨s, a, b⟩, ht⟩ : ∃ t, (tasksL l k x z)[i] = t := ⟨_, rfl⟩
  rw [ht] at hu hmem
  have hmem2 := hmem
  unfold tasksL at hmem2
  rw [radL_ok h] at hmem2
  obtain ⟨j, hj, hab⟩ := tasksF_mem.1 hmem2
  rw [Nat.zero_add] at hj
  subst hj
  have hD := spread_is h.1.f (k := k.toNat) (by have := h.2; omega)
  unfold needsL at hu
  split at hu
  · simp only [Int.toNat_natCast] at hu
    obtain ⟨s', a', b'⟩ := u
    obtain ⟨q, hq, hab'⟩ := needsF_mem.1 hu
    obtain ⟨⟨h0, h8⟩, c1, c2, c3, c4⟩ := nrL_mem.1 hab
    obtain ⟨⟨q0, q8⟩, d1, d2, d3, d4⟩ := nrL_mem.1 hab'
    obtain ⟨e1, e2, e3, e4⟩ := h.1.f.ok j _ hq
    have hcl := hD.clo j (Nat.zero_le _) h0 _ hq
    have hle := h.1.gt_le (k := k.toNat) (by have := h.2; omega) s'.toNat
    simp only at hcl e1 e2
    have hin : (s', a', b') ∈ tasksL l k x z := by
      unfold tasksL
      rw [radL_ok h]
      exact tasksF_mem.2 ⟨s'.toNat, by omega, nrL_mem.2 ⟨⟨by omega, hle⟩, by omega, by omega, by omega, by omega⟩⟩
    obtain ⟨m, hm, e⟩ := List.mem_iff_getElem.1 hin
    refine ⟨m, hm, tasks_ahead hi hm ?_, e⟩
    rw [e, ht]
    exact e2
  · simp at hu
/-- The last one is the stage itself; all others are needed. -/
theorem tasks_used (h : stOk l k) {m : Nat} (hm : m < (tasksL l k x z).length) (hne : (tasksL l k x z)[m] ≠ (k, x, z)) : ∃ i, ∃ hi : i < (tasksL l k x z).length, (tasksL l k x z)[m] ∈ needsL l (tasksL l k x z)[i] := by
  have hmem : (tasksL l k x z)[m] ∈ tasksL l k x z := List.getElem_mem hm
  obtain ⟨⟨s, a, b⟩, ht⟩ : ∃ t, (tasksL l k x z)[m] = t := ⟨_, rfl⟩
  rw [ht] at hmem hne ⊢
  have hmem2 := hmem
  unfold tasksL at hmem2
  rw [radL_ok h] at hmem2
  obtain ⟨j, hj, hab⟩ := tasksF_mem.1 hmem2
  rw [Nat.zero_add] at hj
  subst hj
  obtain ⟨hM, hk0, hkl⟩ := h
  have hkl' : k.toNat < l.length := by omega
  have hD := spread_is hM.f hkl'
  obtain ⟨⟨h0, h8⟩, c1, c2, c3, c4⟩ := nrL_mem.1 hab
  have hjk : j ≠ k.toNat := fun e => hne (by
    subst e
    rw [hD.top] at c1 c2 c3 c4
    simp only [Prod.mk.injEq]
    omega)
  obtain ⟨p, _, k2, k3, q, k4, k5⟩ := hD.wit j hjk h0
  obtain ⟨_, e2, e3, e4⟩ := hM.f.ok p _ k4
  simp only at e2 e3 e4
  have hpl := of_read k4
  have hp8 := hM.gt_le hkl' p
  obtain ⟨rp, hrp⟩ : ∃ rp, rp = gt (spreadL l k.toNat) p := ⟨_, rfl⟩
  rw [← hrp] at k3 k5 hp8
  have key : ∀ c v : Int, c - (rp + q) ≤ v → v ≤ c + (rp + q) → ∃ u, c - rp ≤ u ∧ u ≤ c + rp ∧ u - q ≤ v ∧ v ≤ u + q := fun c v g1 g2 => by
    by_cases h1 : v < c - rp
    · exact ⟨c - rp, by omega, by omega, by omega, by omega⟩
    · by_cases h2 : c + rp < v
      · exact ⟨c + rp, by omega, by omega, by omega, by omega⟩
      · exact ⟨v, by omega, by omega, by omega, by omega⟩
  rw [k5] at c1 c2 c3 c4
  obtain ⟨ua, a1, a2, a3, a4⟩ := key x a c1 c2
  obtain ⟨ub, b1, b2, b3, b4⟩ := key z b c3 c4
  have hin : ((p : Int), ua, ub) ∈ tasksL l k x z := by
    unfold tasksL
    rw [radL_ok ⟨hM, hk0, hkl⟩]
    exact tasksF_mem.2 ⟨p, by omega, nrL_mem.2 ⟨⟨by rw [← hrp]; exact k3, by rw [← hrp]; exact hp8⟩, by rw [← hrp]; omega, by rw [← hrp]; omega, by rw [← hrp]; omega, by rw [← hrp]; omega⟩⟩
  obtain ⟨i, hi, e⟩ := List.mem_iff_getElem.1 hin
  refine ⟨i, hi, ?_⟩
  rw [e]
  unfold needsL
  rw [if_pos (st_iff.2 ⟨hM, by simp only; omega, by simp only; omega⟩)]
  simp only [Int.toNat_natCast]
  exact needsF_mem.2 ⟨q, k4, nrL_mem.2 ⟨⟨e3, e4⟩, a3, a4, b3, b4⟩⟩
/-- The stage itself is the last task. -/
theorem tasks_last (h : stOk l k) : ∃ hl : 0 < (tasksL l k x z).length, (tasksL l k x z)[(tasksL l k x z).length - 1] = (k, x, z) := by
  obtain ⟨hM, hk0, hkl⟩ := h
  have hkl' : k.toNat < l.length := by omega
  have hD := spread_is hM.f hkl'
  have hin : (k, x, z) ∈ tasksL l k x z := by
    unfold tasksL
    rw [radL_ok ⟨hM, hk0, hkl⟩]
    exact tasksF_mem.2 ⟨k.toNat, by omega, nrL_mem.2 ⟨⟨by rw [hD.top]; omega, by rw [hD.top]; omega⟩, by rw [hD.top]; omega, by rw [hD.top]; omega, by rw [hD.top]; omega, by rw [hD.top]; omega⟩⟩
  have hl : 0 < (tasksL l k x z).length := List.length_pos_of_mem hin
  refine ⟨hl, ?_⟩
  have hmem : (tasksL l k x z)[(tasksL l k x z).length - 1] ∈ tasksL l k x z := List.getElem_mem _
  obtain ⟨i, hi, e⟩ := List.mem_iff_getElem.1 hin
  obtain ⟨⟨s, a, b⟩, ht⟩ : ∃ t, (tasksL l k x z)[(tasksL l k x z).length - 1] = t := ⟨_, rfl⟩
  have hge : k ≤ s := by
    rcases Nat.lt_or_ge i ((tasksL l k x z).length - 1) with h1 | h1
    · have := List.pairwise_iff_getElem.1 (tasksF_sorted x z (radL l k) 0) i _ hi (show (tasksL l k x z).length - 1 < (tasksL l k x z).length by omega) h1
      have h2 : (tasksL l k x z)[i].1 ≤ (tasksL l k x z)[(tasksL l k x z).length - 1].1 := this
      rw [e, ht] at h2
      exact h2
    · obtain rfl : i = (tasksL l k x z).length - 1 := by omega
      rw [ht] at e
      have := congrArg Prod.fst e
      simp only at this
      omega
  rw [ht] at hmem ⊢
  have hmem2 := hmem
  unfold tasksL at hmem2
  rw [radL_ok ⟨hM, hk0, hkl⟩] at hmem2
  obtain ⟨j, hj, hab⟩ := tasksF_mem.1 hmem2
  obtain ⟨⟨h0, h8⟩, c1, c2, c3, c4⟩ := nrL_mem.1 hab
  have hjk : j = k.toNat := by
    refine Nat.le_antisymm (Nat.le_of_not_lt (fun hlt => ?_)) (by omega)
    rw [hD.up j hlt] at h0
    omega
  subst hjk
  rw [hD.top] at c1 c2 c3 c4
  simp only [Prod.mk.injEq]
  omega
end
end Go.Proofs.Ytokjbjfpgjincaa
