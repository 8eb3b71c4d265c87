/-
  Plain mathematics for the layer space: numbers that are taken or free, spans; no program is named here.
-/
namespace Go.Proofs.Ytdjhlpllffakpaa

/-- Are all from f on, m of them, so? -/
def allS (T : List Bool) (f m : Nat) (b : Bool) : Bool := ((T.drop f).take m).all (· == b)
/-- May a span be? -/
def fitS (h n : Nat) (f m : Int) : Prop := 1 ≤ m ∧ (h : Int) ≤ f ∧ f < n ∧ m ≤ n - f
/-- May a span be, and are all of it so? -/
def mayS (h : Nat) (T : List Bool) (f m : Int) (b : Bool) : Prop := fitS h T.length f m ∧ allS T f.toNat m.toNat b = true
/-- A span is made so. -/
def setS (T : List Bool) (f m : Nat) (b : Bool) : List Bool := T.take f ++ List.replicate m b ++ T.drop (f + m)
theorem setS_len {T : List Bool} {f m : Nat} (h : f + m ≤ T.length) (b : Bool) : (setS T f m b).length = T.length := by
  unfold setS
  simp only [List.length_append, List.length_take, List.length_replicate, List.length_drop]
  omega
theorem setS_zero (T : List Bool) (f : Nat) (b : Bool) : setS T f 0 b = T := by
  unfold setS
  simp
theorem setS_at {T : List Bool} {f m : Nat} (h : f + m ≤ T.length) (b : Bool) (i : Nat) : (setS T f m b)[i]? = if f ≤ i ∧ i < f + m then some b else T[i]? := by
  unfold setS
  by_cases h1 : i < f
  · rw [if_neg (by omega), List.append_assoc, List.getElem?_append_left (by rw [List.length_take]; omega), List.getElem?_take, if_pos h1]
  · by_cases h2 : i < f + m
    · rw [if_pos (by omega), List.append_assoc, List.getElem?_append_right (by rw [List.length_take]; omega), List.getElem?_append_left (by rw [List.length_take, List.length_replicate]; omega), List.getElem?_replicate, if_pos (by rw [List.length_take]; omega)]
    · rw [if_neg (by omega), List.getElem?_append_right (by simp only [List.length_append, List.length_take, List.length_replicate]; omega), List.getElem?_drop]
      congr 1
      simp only [List.length_append, List.length_take, List.length_replicate]
      omega
/-- One more is set. -/
theorem setS_next {T : List Bool} {f m : Nat} (h : f + m < T.length) (b : Bool) : (setS T f m b).set (f + m) b = setS T f (m + 1) b := by
  apply List.ext_getElem?
  intro i
  rw [setS_at (by omega), List.getElem?_set, setS_at (by omega), setS_len (by omega)]
  by_cases h1 : f + m = i
  · subst h1
    rw [if_pos rfl, if_pos h, if_pos (by omega)]
  · rw [if_neg h1]
    by_cases h2 : f ≤ i ∧ i < f + m
    · rw [if_pos h2, if_pos (by omega)]
    · rw [if_neg h2, if_neg (by omega)]
theorem allS_iff {T : List Bool} {f m : Nat} (h : f + m ≤ T.length) (b : Bool) : allS T f m b = true ↔ ∀ i, f ≤ i → i < f + m → T[i]? = some b := by
  unfold allS
  rw [List.all_eq_true]
  constructor
  · intro ha i h1 h2
    have hi : i < T.length := by omega
    have hm : T[i] ∈ (T.drop f).take m := by
      refine List.mem_iff_getElem?.2 ⟨i - f, ?_⟩
      rw [List.getElem?_take, if_pos (by omega), List.getElem?_drop, show f + (i - f) = i by omega, List.getElem?_eq_getElem hi]
    rw [List.getElem?_eq_getElem hi, show T[i] = b by simpa using ha _ hm]
  · intro ha x hx
    obtain ⟨k, hk⟩ := List.mem_iff_getElem?.1 hx
    rw [List.getElem?_take] at hk
    split at hk
    · rename_i hkm
      rw [List.getElem?_drop, ha (f + k) (by omega) (by omega)] at hk
      simpa using (Option.some.inj hk).symm
    · cases hk
/-- One more is so. -/
theorem allS_next {T : List Bool} {f m : Nat} (h : f + m < T.length) (b : Bool) : allS T f (m + 1) b = (allS T f m b && (T.getD (f + m) false == b)) := by
  unfold allS
  rw [List.take_add_one, List.all_append]
  congr 1
  rw [List.getElem?_drop, List.getElem?_eq_getElem h, List.getD_eq_getElem?_getD, List.getElem?_eq_getElem h]
  simp
theorem allS_zero (T : List Bool) (f : Nat) (b : Bool) : allS T f 0 b = true := by simp [allS]
/-- What was free, taken and let go again is as it was. -/
theorem setS_back {T : List Bool} {f m : Nat} (h : f + m ≤ T.length) (ha : allS T f m false = true) : setS (setS T f m true) f m false = T := by
  apply List.ext_getElem?
  intro i
  have h1 : f + m ≤ (setS T f m true).length := by rw [setS_len h]; exact h
  rw [setS_at h1, setS_at h]
  by_cases hi : f ≤ i ∧ i < f + m
  · rw [if_pos hi, (allS_iff h false).1 ha i hi.1 hi.2]
  · rw [if_neg hi, if_neg hi]

/-! ### free spans -/
abbrev Sp : Type := Nat × Nat
/-- One more free number. -/
def addS (l : List Sp) (i : Nat) : List Sp :=
  match l.getLast? with
  | some (f, m) => if f + m = i then l.dropLast ++ [(f, m + 1)] else l ++ [(i, 1)]
  | none => [(i, 1)]
/-- The free spans of the first j numbers from h on. -/
def spTo (h : Nat) (T : List Bool) : Nat → List Sp
  | 0 => []
  | j + 1 => if T.getD (h + j) false then spTo h T j else addS (spTo h T j) (h + j)
def spansS (h : Nat) (T : List Bool) : List Sp := spTo h T (T.length - h)
/-- The free spans of the numbers from h up to e: rising, apart, all free, and all of them. -/
structure IsSp (h e : Nat) (T : List Bool) (l : List Sp) : Prop where
  ins : ∀ x ∈ l, 1 ≤ x.2 ∧ h ≤ x.1 ∧ x.1 + x.2 ≤ e ∧ ∀ i, x.1 ≤ i → i < x.1 + x.2 → T.getD i false = false
  gap : l.Pairwise fun a b => a.1 + a.2 < b.1
  all : ∀ i, h ≤ i → i < e → T.getD i false = false → ∃ x ∈ l, x.1 ≤ i ∧ i < x.1 + x.2
theorem IsSp.nil (h : Nat) (T : List Bool) : IsSp h h T [] := ⟨fun x hx => (by cases hx), List.Pairwise.nil, fun i h1 h2 => by omega⟩
theorem last_split {l : List Sp} {x : Sp} (h : l.getLast? = some x) : l = l.dropLast ++ [x] := by
  obtain ⟨ys, rfl⟩ := List.getLast?_eq_some_iff.1 h
  simp
theorem IsSp.next {h e : Nat} {T : List Bool} {l : List Sp} (H : IsSp h e T l) (he : h ≤ e) : IsSp h (e + 1) T (if T.getD e false then l else addS l e) := by
  by_cases ht : T.getD e false = true
  · rw [if_pos ht]
    refine ⟨fun x hx => ?_, H.gap, fun i h1 h2 h3 => ?_⟩
    · have := H.ins x hx
      exact ⟨this.1, this.2.1, by omega, this.2.2.2⟩
    · by_cases hi : i = e
      · subst hi
        rw [ht] at h3
        cases h3
      · exact H.all i h1 (by omega) h3
  · have hf : T.getD e false = false := by simpa using ht
    rw [if_neg ht]
    unfold addS
    cases hl : l.getLast? with
    | none =>
      obtain rfl : l = [] := List.getLast?_eq_none_iff.1 hl
      refine ⟨fun x hx => ?_, by simp, fun i h1 h2 h3 => ?_⟩
      · obtain rfl := List.mem_singleton.1 hx
        refine ⟨Nat.le_refl _, he, Nat.le_refl _, fun i h1 h2 => ?_⟩
        simp only at h1 h2
        rw [show i = e by omega]
        exact hf
      · by_cases hi : i = e
        · exact ⟨(e, 1), by simp, by simp only; omega, by simp only; omega⟩
        · obtain ⟨x, hx, _⟩ := H.all i h1 (by omega) h3
          cases hx
    | some x =>
      obtain ⟨f, m⟩ := x
      have hs := last_split hl
      have hin := H.ins (f, m) (by rw [hs]; simp)
      simp only at hin
      simp only
      by_cases hfm : f + m = e
      · rw [if_pos hfm]
        have hg := H.gap
        rw [hs, List.pairwise_append] at hg
        refine ⟨fun x hx => ?_, ?_, fun i h1 h2 h3 => ?_⟩
        · rcases List.mem_append.1 hx with hx | hx
          · have := H.ins x (by rw [hs]; exact List.mem_append_left _ hx)
            exact ⟨this.1, this.2.1, by omega, this.2.2.2⟩
          · obtain rfl := List.mem_singleton.1 hx
            refine ⟨by simp only; omega, hin.2.1, by simp only; omega, fun i h1 h2 => ?_⟩
            simp only at h1 h2
            by_cases hi : i = e
            · rw [hi]; exact hf
            · exact hin.2.2.2 i h1 (by omega)
        · rw [List.pairwise_append]
          refine ⟨hg.1, by simp, fun a ha b hb => ?_⟩
          obtain rfl := List.mem_singleton.1 hb
          exact hg.2.2 a ha (f, m) (by simp)
        · by_cases hi : i = e
          · exact ⟨(f, m + 1), by simp, by simp only; omega, by simp only; omega⟩
          · obtain ⟨x, hx, h4, h5⟩ := H.all i h1 (by omega) h3
            rw [hs] at hx
            rcases List.mem_append.1 hx with hx | hx
            · exact ⟨x, List.mem_append_left _ hx, h4, h5⟩
            · obtain rfl := List.mem_singleton.1 hx
              exact ⟨(f, m + 1), by simp, h4, by simp only at h5 ⊢; omega⟩
      · rw [if_neg hfm]
        refine ⟨fun x hx => ?_, ?_, fun i h1 h2 h3 => ?_⟩
        · rcases List.mem_append.1 hx with hx | hx
          · have := H.ins x hx
            exact ⟨this.1, this.2.1, by omega, this.2.2.2⟩
          · obtain rfl := List.mem_singleton.1 hx
            refine ⟨Nat.le_refl _, he, Nat.le_refl _, fun i h1 h2 => ?_⟩
            simp only at h1 h2
            rw [show i = e by omega]
            exact hf
        · rw [List.pairwise_append]
          refine ⟨H.gap, by simp, fun a ha b hb => ?_⟩
          obtain rfl := List.mem_singleton.1 hb
          simp only
          have hg := H.gap
          rw [hs, List.pairwise_append] at hg
          rw [hs] at ha
          rcases List.mem_append.1 ha with ha | ha
          · have := hg.2.2 a ha (f, m) (by simp)
            simp only at this
            omega
          · obtain rfl := List.mem_singleton.1 ha
            simp only
            omega
        · by_cases hi : i = e
          · exact ⟨(e, 1), by simp, by simp only; omega, by simp only; omega⟩
          · obtain ⟨x, hx, h4⟩ := H.all i h1 (by omega) h3
            exact ⟨x, List.mem_append_left _ hx, h4⟩
theorem spTo_is (h : Nat) (T : List Bool) : ∀ j, IsSp h (h + j) T (spTo h T j)
  | 0 => IsSp.nil h T
  | j + 1 => (spTo_is h T j).next (by omega)
theorem spans_is {h : Nat} {T : List Bool} (hh : h ≤ T.length) : IsSp h T.length T (spansS h T) := by
  have := spTo_is h T (T.length - h)
  rw [show h + (T.length - h) = T.length by omega] at this
  exact this
/-- There is one list of free spans alone. -/
theorem IsSp.tail {h e : Nat} {T : List Bool} {x : Sp} {r : List Sp} (K : IsSp h e T (x :: r)) : IsSp (x.1 + x.2) e T r := by
  have kx := (List.pairwise_cons.1 K.gap).1
  have hx := K.ins x (by simp)
  refine ⟨fun z hz => ?_, (List.pairwise_cons.1 K.gap).2, fun i h1 h2 h3 => ?_⟩
  · have h1 := K.ins z (List.mem_cons_of_mem _ hz)
    have h2 := kx z hz
    exact ⟨h1.1, by omega, h1.2.2.1, h1.2.2.2⟩
  · obtain ⟨u, hu, hu1, hu2⟩ := K.all i (by omega) h2 h3
    rcases List.mem_cons.1 hu with rfl | hu
    · omega
    · exact ⟨u, hu, hu1, hu2⟩
theorem IsSp.unique {e : Nat} {T : List Bool} {l : List Sp} : ∀ {h : Nat} {l' : List Sp}, IsSp h e T l → IsSp h e T l' → l = l' := by
  induction l with
  | nil =>
    intro h l' H H'
    match l', H' with
    | [], _ => rfl
    | y :: r', H' =>
      have hy := H'.ins y (by simp)
      obtain ⟨x, hx, _⟩ := H.all y.1 hy.2.1 (by omega) (hy.2.2.2 y.1 (Nat.le_refl _) (by omega))
      cases hx
  | cons x r ih =>
    intro h l' H H'
    have hx := H.ins x (by simp)
    match l', H' with
    | [], H' =>
      obtain ⟨y, hy, _⟩ := H'.all x.1 hx.2.1 (by omega) (hx.2.2.2 x.1 (Nat.le_refl _) (by omega))
      cases hy
    | y :: r', H' =>
      have hy := H'.ins y (by simp)
      have gx := (List.pairwise_cons.1 H.gap).1
      have gy := (List.pairwise_cons.1 H'.gap).1
      have e1 : x.1 = y.1 := by
        obtain ⟨z, hz, hz1, hz2⟩ := H'.all x.1 hx.2.1 (by omega) (hx.2.2.2 x.1 (Nat.le_refl _) (by omega))
        obtain ⟨u, hu, hu1, hu2⟩ := H.all y.1 hy.2.1 (by omega) (hy.2.2.2 y.1 (Nat.le_refl _) (by omega))
        have h1 : y.1 ≤ x.1 := by
          rcases List.mem_cons.1 hz with rfl | hz
          · exact hz1
          · have := gy z hz; omega
        have h2 : x.1 ≤ y.1 := by
          rcases List.mem_cons.1 hu with rfl | hu
          · exact hu1
          · have := gx u hu; omega
        omega
      have e2 : x.2 = y.2 := by
        rcases Nat.lt_trichotomy x.2 y.2 with hlt | heq | hgt
        · exfalso
          obtain ⟨u, hu, hu1, hu2⟩ := H.all (x.1 + x.2) (by omega) (by omega) (hy.2.2.2 _ (by omega) (by omega))
          rcases List.mem_cons.1 hu with rfl | hu
          · omega
          · have := gx u hu; omega
        · exact heq
        · exfalso
          obtain ⟨u, hu, hu1, hu2⟩ := H'.all (y.1 + y.2) (by omega) (by omega) (hx.2.2.2 _ (by omega) (by omega))
          rcases List.mem_cons.1 hu with rfl | hu
          · omega
          · have := gy u hu; omega
      obtain rfl : x = y := Prod.ext e1 e2
      rw [ih H.tail H'.tail]
theorem spans_of {h : Nat} {T : List Bool} {l : List Sp} (hh : h ≤ T.length) (H : IsSp h T.length T l) : l = spansS h T := H.unique (spans_is hh)

/-! ### room, the largest, the lowest place -/
def roomS (l : List Sp) : Nat := (l.map (·.2)).sum
def largeS (l : List Sp) : Nat := l.foldl (fun n x => max n x.2) 0
/-- The lowest span that is long enough. -/
def firstS (l : List Sp) (n : Nat) : Option Sp := l.find? (fun x => decide (n ≤ x.2))
theorem large_fold (l : List Sp) : ∀ n, (n ≤ l.foldl (fun n x => max n x.2) n) ∧ (∀ x ∈ l, x.2 ≤ l.foldl (fun n x => max n x.2) n) ∧ (l.foldl (fun n x => max n x.2) n = n ∨ ∃ x ∈ l, x.2 = l.foldl (fun n x => max n x.2) n) := by
  induction l with
  | nil => intro n; exact ⟨Nat.le_refl _, fun x hx => (by cases hx), Or.inl rfl⟩
  | cons y r ih =>
    intro n
    have h := ih (max n y.2)
    simp only [List.foldl_cons]
    refine ⟨by omega, fun x hx => ?_, ?_⟩
    · rcases List.mem_cons.1 hx with rfl | hx
      · omega
      · exact h.2.1 x hx
    · rcases h.2.2 with h1 | ⟨x, hx, h1⟩
      · rcases Nat.le_total n y.2 with h2 | h2
        · rw [Nat.max_eq_right h2] at h1 ⊢
          exact Or.inr ⟨y, by simp, h1.symm⟩
        · rw [Nat.max_eq_left h2] at h1 ⊢
          exact Or.inl h1
      · exact Or.inr ⟨x, List.mem_cons_of_mem _ hx, h1⟩
/-- There is a span that is long enough just if the largest one is. -/
theorem first_iff {l : List Sp} {n : Nat} (hn : 1 ≤ n) : (firstS l n).isSome ↔ n ≤ largeS l := by
  unfold firstS largeS
  have h := large_fold l 0
  rw [List.find?_isSome]
  constructor
  · rintro ⟨x, hx, h1⟩
    have := h.2.1 x hx
    have h1 := of_decide_eq_true h1
    omega
  · intro hle
    rcases h.2.2 with h1 | ⟨x, hx, h1⟩
    · omega
    · exact ⟨x, hx, decide_eq_true (by omega)⟩
/-- A span that may be and is free lies in one of the free spans. -/
theorem IsSp.cover {h e : Nat} {T : List Bool} {l : List Sp} (H : IsSp h e T l) {f m : Nat} (hm : 1 ≤ m) (hf : h ≤ f) (he : f + m ≤ e) (ha : ∀ i, f ≤ i → i < f + m → T.getD i false = false) : ∃ x ∈ l, x.1 ≤ f ∧ f + m ≤ x.1 + x.2 := by
  obtain ⟨x, hx, h1, h2⟩ := H.all f hf (by omega) (ha f (Nat.le_refl _) (by omega))
  refine ⟨x, hx, h1, ?_⟩
  refine Nat.le_of_not_lt (fun hlt => ?_)
  obtain ⟨y, hy, h3, h4⟩ := H.all (x.1 + x.2) (by omega) (by omega) (ha _ (by omega) (by omega))
  have hne : x ≠ y := fun e => by subst e; omega
  obtain ⟨i, hi, rfl⟩ := List.mem_iff_getElem.1 hx
  obtain ⟨j, hj, rfl⟩ := List.mem_iff_getElem.1 hy
  have hp := List.pairwise_iff_getElem.1 H.gap
  rcases Nat.lt_trichotomy i j with hij | hij | hij
  · have := hp i j hi hj hij
    omega
  · subst hij
    exact hne rfl
  · have := hp j i hj hi hij
    have := H.ins _ (List.getElem_mem hi)
    omega
/-- Two spans of one list: the same, or one behind the other. -/
theorem IsSp.two {h e : Nat} {T : List Bool} {l : List Sp} (H : IsSp h e T l) {i j : Nat} (hi : i < l.length) (hj : j < l.length) (hij : i < j) : l[i].1 + l[i].2 < l[j].1 := List.pairwise_iff_getElem.1 H.gap i j hi hj hij
/-- The lowest place of n free numbers. -/
def takeS (h : Nat) (T : List Bool) (n : Nat) : Option Nat := (List.range' h (T.length - h)).find? (fun i => decide (i + n ≤ T.length) && allS T i n false)
theorem getD_of {T : List Bool} {i : Nat} {b : Bool} (h : T[i]? = some b) : T.getD i false = b := by rw [List.getD_eq_getElem?_getD, h]; rfl
theorem get_of {T : List Bool} {i : Nat} {b : Bool} (hi : i < T.length) (h : T.getD i false = b) : T[i]? = some b := by
  rw [List.getElem?_eq_getElem hi, ← h, List.getD_eq_getElem?_getD, List.getElem?_eq_getElem hi]
  rfl
theorem find_range' (p : Nat → Bool) : ∀ (k h i : Nat), h ≤ i → i < h + k → p i = true → (∀ j, h ≤ j → j < i → p j = false) → (List.range' h k).find? p = some i
  | 0, h, i, h1, h2, _, _ => by omega
  | k + 1, h, i, h1, h2, h3, h4 => by
    rw [List.range'_succ, List.find?_cons]
    by_cases e : h = i
    · subst e
      rw [h3]
    · rw [h4 h (Nat.le_refl _) (by omega)]
      exact find_range' p k (h + 1) i (by omega) (by omega) h3 (fun j hj hji => h4 j (by omega) hji)
theorem find_none (p : Nat → Bool) (k h : Nat) (H : ∀ j, h ≤ j → j < h + k → p j = false) : (List.range' h k).find? p = none := by
  rw [List.find?_eq_none]
  intro x hx
  rw [List.mem_range'_1] at hx
  rw [H x hx.1 hx.2]
  decide
theorem take_first {h : Nat} {T : List Bool} {l : List Sp} (hh : h ≤ T.length) (H : IsSp h T.length T l) {n : Nat} (hn : 1 ≤ n) : takeS h T n = (firstS l n).map (·.1) := by
  have hit : ∀ i, h ≤ i → (decide (i + n ≤ T.length) && allS T i n false) = true → ∃ x ∈ l, x.1 ≤ i ∧ i + n ≤ x.1 + x.2 := fun i hi hp => by
    rw [Bool.and_eq_true, decide_eq_true_iff] at hp
    exact H.cover hn hi hp.1 (fun j h1 h2 => getD_of ((allS_iff hp.1 false).1 hp.2 j h1 h2))
  unfold takeS
  cases hf : firstS l n with
  | none =>
    refine find_none _ _ _ (fun j h1 h2 => ?_)
    cases hp : (decide (j + n ≤ T.length) && allS T j n false) with
    | false => rfl
    | true =>
      obtain ⟨x, hx, h3, h4⟩ := hit j h1 hp
      have := List.find?_eq_none.1 hf x hx
      exact absurd (decide_eq_true (by omega)) this
  | some x =>
    obtain ⟨hx, as, bs, hl, has⟩ := List.find?_eq_some_iff_append.1 hf
    have hx := of_decide_eq_true hx
    have hmem : x ∈ l := by rw [hl]; simp
    have hin := H.ins x hmem
    show _ = some x.1
    refine find_range' _ _ _ _ hin.2.1 (by omega) ?_ (fun j h1 h2 => ?_)
    · rw [Bool.and_eq_true, decide_eq_true_iff]
      refine ⟨by omega, (allS_iff (by omega) false).2 (fun i h3 h4 => get_of (by omega) (hin.2.2.2 i h3 (by omega)))⟩
    · cases hp : (decide (j + n ≤ T.length) && allS T j n false) with
      | false => rfl
      | true =>
        exfalso
        obtain ⟨y, hy, h3, h4⟩ := hit j h1 hp
        rw [hl] at hy
        have hg := H.gap
        rw [hl, List.pairwise_append, List.pairwise_cons] at hg
        rcases List.mem_append.1 hy with hy | hy
        · have := has y hy
          simp only [Bool.not_eq_true', decide_eq_false_iff_not] at this
          omega
        · rcases List.mem_cons.1 hy with rfl | hy
          · omega
          · have := hg.2.1.1 y hy
            omega
/-- How many are free. -/
theorem room_add (l : List Sp) (i : Nat) : roomS (addS l i) = roomS l + 1 := by
  unfold addS
  cases hl : l.getLast? with
  | none =>
    obtain rfl : l = [] := List.getLast?_eq_none_iff.1 hl
    rfl
  | some x =>
    obtain ⟨f, m⟩ := x
    have hs := last_split hl
    simp only
    split
    · conv => rhs; rw [hs]
      simp only [roomS, List.map_append, List.map_cons, List.map_nil, List.sum_append, List.sum_cons, List.sum_nil]
      omega
    · simp only [roomS, List.map_append, List.map_cons, List.map_nil, List.sum_append, List.sum_cons, List.sum_nil]
      omega
theorem room_to (h : Nat) (T : List Bool) : ∀ j, h + j ≤ T.length → roomS (spTo h T j) = ((T.drop h).take j).count false
  | 0, _ => by simp [spTo, roomS]
  | j + 1, hj => by
    have hlt : h + j < T.length := by omega
    have e : ((T.drop h).take (j + 1)).count false = ((T.drop h).take j).count false + (if T.getD (h + j) false then 0 else 1) := by
      rw [List.take_add_one, List.count_append, List.getElem?_drop, List.getElem?_eq_getElem hlt, List.getD_eq_getElem?_getD, List.getElem?_eq_getElem hlt]
      congr 1
      cases T[h + j] <;> rfl
    rw [e, spTo, ← room_to h T j (by omega)]
    split
    · rw [Nat.add_zero]
    · rw [room_add]
theorem room_is {h : Nat} {T : List Bool} (hh : h ≤ T.length) : roomS (spansS h T) = (T.drop h).count false := by
  unfold spansS
  rw [room_to h T _ (by omega), List.take_of_length_le (by rw [List.length_drop]; exact Nat.le_refl _)]
theorem count_set {T : List Bool} {f m : Nat} (h : f + m ≤ T.length) (ha : allS T f m false = true) : ∀ k, k ≤ f → ((setS T f m true).drop k).count false + m = (T.drop k).count false := by
  intro k hk
  have e1 : T.drop k = (T.take f).drop k ++ ((T.drop f).take m ++ T.drop (f + m)) := by
    have h1 : (T.drop f).take m ++ T.drop (f + m) = T.drop f := by rw [← List.drop_drop, List.take_append_drop]
    rw [h1]
    conv => lhs; rw [← List.take_append_drop f T]
    rw [List.drop_append_of_le_length (by rw [List.length_take]; omega)]
  have e2 : (setS T f m true).drop k = (T.take f).drop k ++ (List.replicate m true ++ T.drop (f + m)) := by
    unfold setS
    rw [List.append_assoc, List.drop_append_of_le_length (by rw [List.length_take]; omega)]
  have e3 : ((T.drop f).take m).count false = m := by
    have hx : ∀ x ∈ (T.drop f).take m, x = false := fun x hx => by
      have := List.all_eq_true.1 ha x hx
      simpa using this
    rw [List.eq_replicate_of_mem hx, List.count_replicate_self, List.length_take, List.length_drop]
    omega
  rw [e1, e2, List.count_append, List.count_append, List.count_append, List.count_append, e3, List.count_replicate]
  simp
  omega
/-- A new one. -/
theorem spans_new (h n : Nat) (hh : h ≤ n) : spansS h (List.replicate n false) = if h < n then [(h, n - h)] else [] := by
  refine (spans_of (by rw [List.length_replicate]; exact hh) ?_).symm
  rw [List.length_replicate]
  split
  · rename_i hlt
    refine ⟨fun x hx => ?_, by simp, fun i h1 h2 h3 => ⟨_, List.mem_singleton.2 rfl, h1, by simp only; omega⟩⟩
    obtain rfl := List.mem_singleton.1 hx
    refine ⟨by simp only; omega, Nat.le_refl _, by simp only; omega, fun i h1 h2 => ?_⟩
    rw [List.getD_eq_getElem?_getD, List.getElem?_replicate]
    split <;> rfl
  · exact ⟨fun x hx => (by cases hx), List.Pairwise.nil, fun i h1 h2 => by omega⟩
end Go.Proofs.Ytdjhlpllffakpaa
