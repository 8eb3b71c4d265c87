/-
  Plain mathematics for the layer codec: palettes, runs, packed numbers, there and back; no program is named here.
-/
import Derived.Test.YtdkihhjhjfkjjaaNum
namespace Go.Proofs.Ytdkihhjhjfkjjaa

/-- All are kinds. -/
def AreKinds (cs : List Int) : Prop := ∀ x ∈ cs, 0 ≤ x ∧ x ≤ 16
/-- All are bytes. -/
def AreBytes (bs : List Int) : Prop := ∀ x ∈ bs, 0 ≤ x ∧ x ≤ 255

/-! ### palettes -/
/-- The kinds below n that there are, rising. -/
def palTo (cs : List Int) : Nat → List Int
  | 0 => []
  | k + 1 => if (k : Int) ∈ cs then palTo cs k ++ [(k : Int)] else palTo cs k
def pal (cs : List Int) : List Int := palTo cs 17
theorem mem_palTo (cs : List Int) (x : Int) : ∀ n, x ∈ palTo cs n ↔ x ∈ cs ∧ ∃ k : Nat, k < n ∧ x = k
  | 0 => by simp [palTo]
  | n + 1 => by
    unfold palTo
    by_cases h : (n : Int) ∈ cs
    · rw [if_pos h, List.mem_append, mem_palTo cs x n, List.mem_singleton]
      constructor
      · rintro (⟨h1, k, h2, h3⟩ | rfl)
        · exact ⟨h1, k, by omega, h3⟩
        · exact ⟨h, n, by omega, rfl⟩
      · rintro ⟨h1, k, h2, rfl⟩
        by_cases e : k = n
        · subst e; exact Or.inr rfl
        · exact Or.inl ⟨h1, k, by omega, rfl⟩
    · rw [if_neg h, mem_palTo cs x n]
      constructor
      · rintro ⟨h1, k, h2, h3⟩
        exact ⟨h1, k, by omega, h3⟩
      · rintro ⟨h1, k, h2, rfl⟩
        by_cases e : k = n
        · subst e; exact absurd h1 h
        · exact ⟨h1, k, by omega, rfl⟩
theorem palTo_len (cs : List Int) : ∀ n, (palTo cs n).length ≤ n
  | 0 => by simp [palTo]
  | n + 1 => by
    have := palTo_len cs n
    unfold palTo
    split
    · rw [List.length_append, List.length_singleton]; omega
    · omega
theorem palTo_rise (cs : List Int) : ∀ n, (palTo cs n).Pairwise (· < ·)
  | 0 => by simp [palTo]
  | n + 1 => by
    unfold palTo
    split
    · rw [List.pairwise_append]
      refine ⟨palTo_rise cs n, List.pairwise_singleton _ _, fun a ha b hb => ?_⟩
      obtain ⟨_, k, hk, rfl⟩ := (mem_palTo cs a n).1 ha
      rw [List.mem_singleton.1 hb]
      omega
    · exact palTo_rise cs n
theorem mem_pal {cs : List Int} (hk : AreKinds cs) {x : Int} (hx : x ∈ cs) : x ∈ pal cs := by
  have := hk x hx
  refine (mem_palTo cs x 17).2 ⟨hx, x.toNat, by omega, by omega⟩
theorem pal_kinds (cs : List Int) : AreKinds (pal cs) := fun x hx => by
  obtain ⟨_, k, hk, rfl⟩ := (mem_palTo cs x 17).1 hx
  omega

/-- The place of a kind in a palette. -/
def plc (l : List Int) (k : Int) : Nat := if k ∈ l then l.idxOf k else 0
theorem plc_lt {l : List Int} {k : Int} (h : k ∈ l) : plc l k < l.length := by
  unfold plc
  rw [if_pos h]
  exact List.idxOf_lt_length_of_mem h
theorem plc_at {l : List Int} {k : Int} (h : k ∈ l) : l.getD (plc l k) 0 = k := by
  have h1 := plc_lt h
  rw [List.getD_eq_getElem?_getD, List.getElem?_eq_getElem h1, Option.getD_some]
  unfold plc
  simp only [if_pos h]
  exact List.getElem_idxOf (List.idxOf_lt_length_of_mem h)

/-- How many bits a place takes. -/
def wid (n : Nat) : Nat := if n ≤ 2 then 1 else if n ≤ 4 then 2 else if n ≤ 16 then 4 else 8
theorem wid_is (n : Nat) : wid n = 1 ∨ wid n = 2 ∨ wid n = 4 ∨ wid n = 8 := by
  unfold wid
  split
  · exact Or.inl rfl
  · split
    · exact Or.inr (Or.inl rfl)
    · split
      · exact Or.inr (Or.inr (Or.inl rfl))
      · exact Or.inr (Or.inr (Or.inr rfl))
theorem wid_fit {n : Nat} (h : n ≤ 17) : n ≤ 2 ^ wid n := by
  unfold wid
  split
  · omega
  · split
    · omega
    · split
      · omega
      · omega

/-! ### runs -/
/-- How many of the first ones are c. -/
def runN (c : Int) : List Int → Nat
  | [] => 0
  | x :: r => if x = c then runN c r + 1 else 0
theorem runN_le (c : Int) : ∀ l : List Int, runN c l ≤ l.length
  | [] => Nat.le_refl _
  | x :: r => by
    have := runN_le c r
    unfold runN
    rw [List.length_cons]
    split <;> omega
theorem runN_split (c : Int) : ∀ l : List Int, l = List.replicate (runN c l) c ++ l.drop (runN c l)
  | [] => rfl
  | x :: r => by
    unfold runN
    split
    · rename_i h
      subst h
      rw [List.replicate_succ, List.cons_append, List.drop_succ_cons, ← runN_split x r]
    · rfl
/-- Cells as runs, with so many steps at most. -/
def encF (l : List Int) : Nat → List Int → List Int
  | 0, _ => []
  | _ + 1, [] => []
  | m + 1, c :: r => putL ((runN c r + 1 : Nat) : Int) ++ (plc l c : Int) :: encF l m (r.drop (runN c r))
/-- Cells as runs. -/
def encR (l cs : List Int) : List Int := encF l cs.length cs
theorem encF_more (l : List Int) : ∀ (m k : Nat) (cs : List Int), cs.length ≤ m → cs.length ≤ k → encF l m cs = encF l k cs
  | 0, 0, _, _, _ => rfl
  | 0, _ + 1, [], _, _ => rfl
  | 0, _ + 1, _ :: _, h, _ => by simp at h
  | _ + 1, 0, [], _, _ => rfl
  | _ + 1, 0, _ :: _, _, h => by simp at h
  | _ + 1, _ + 1, [], _, _ => rfl
  | m + 1, k + 1, c :: r, h1, h2 => by
    rw [List.length_cons] at h1 h2
    rw [encF, encF, encF_more l m k (r.drop (runN c r)) (by rw [List.length_drop]; omega) (by rw [List.length_drop]; omega)]
theorem encR_nil (l : List Int) : encR l [] = [] := rfl
theorem encR_cons (l : List Int) (c : Int) (r : List Int) : encR l (c :: r) = putL ((runN c r + 1 : Nat) : Int) ++ (plc l c : Int) :: encR l (r.drop (runN c r)) := by
  show encF l (r.length + 1) (c :: r) = _
  rw [encF, encF_more l r.length (r.drop (runN c r)).length (r.drop (runN c r)) (by rw [List.length_drop]; omega) (Nat.le_refl _)]
  rfl

/-- What runs tell, with so many steps at most. -/
def runsF (l : List Int) : Nat → Nat → List Int → Int × List Int
  | 0, _, bs => if bs = [] then (0, []) else (2, [])
  | m + 1, need, bs =>
    if need = 0 then (if bs = [] then (0, []) else (2, []))
    else if bs = [] then (3, [])
    else if _h : (getL bs).2 = 0 ∨ (getL bs).1 < 1 ∨ (need : Int) < (getL bs).1 then (4, [])
    else match bs.drop (getL bs).2.toNat with
      | [] => (3, [])
      | p :: r => if (l.length : Int) ≤ p then (4, []) else
        if (runsF l m (need - (getL bs).1.toNat) r).1 = 0 then (0, List.replicate (getL bs).1.toNat (l.getD p.toNat 0) ++ (runsF l m (need - (getL bs).1.toNat) r).2)
        else ((runsF l m (need - (getL bs).1.toNat) r).1, [])
/-- What runs tell: an error and nothing, or so many cells as are lacking. -/
def runsD (l : List Int) (need : Nat) (bs : List Int) : Int × List Int := runsF l need need bs
theorem runsF_none (l : List Int) (m : Nat) (bs : List Int) : runsF l m 0 bs = if bs = [] then (0, []) else (2, []) := by
  cases m with
  | zero => rfl
  | succ m => rw [runsF, if_pos rfl]
theorem runsF_more (l : List Int) : ∀ (m k need : Nat) (bs : List Int), need ≤ m → need ≤ k → runsF l m need bs = runsF l k need bs
  | 0, k, need, bs, h, _ => by
    obtain rfl : need = 0 := by omega
    rw [runsF_none, runsF_none]
  | m + 1, 0, need, bs, _, h => by
    obtain rfl : need = 0 := by omega
    rw [runsF_none, runsF_none]
  | m + 1, k + 1, need, bs, h1, h2 => by
    rw [runsF, runsF]
    by_cases h0 : need = 0
    · rw [if_pos h0, if_pos h0]
    · rw [if_neg h0, if_neg h0]
      by_cases hb : bs = []
      · rw [if_pos hb, if_pos hb]
      · rw [if_neg hb, if_neg hb]
        by_cases hg : (getL bs).2 = 0 ∨ (getL bs).1 < 1 ∨ (need : Int) < (getL bs).1
        · rw [dif_pos hg, dif_pos hg]
        · rw [dif_neg hg, dif_neg hg]
          rcases bs.drop (getL bs).2.toNat with _ | ⟨p, r⟩
          · rfl
          · simp only
            rw [runsF_more l m k (need - (getL bs).1.toNat) r (by omega) (by omega)]
theorem runsD_eq (l : List Int) (need : Nat) (bs : List Int) : runsD l need bs =
    (if need = 0 then (if bs = [] then (0, []) else (2, []))
    else if bs = [] then (3, [])
    else if _h : (getL bs).2 = 0 ∨ (getL bs).1 < 1 ∨ (need : Int) < (getL bs).1 then (4, [])
    else match bs.drop (getL bs).2.toNat with
      | [] => (3, [])
      | p :: r => if (l.length : Int) ≤ p then (4, []) else
        if (runsD l (need - (getL bs).1.toNat) r).1 = 0 then (0, List.replicate (getL bs).1.toNat (l.getD p.toNat 0) ++ (runsD l (need - (getL bs).1.toNat) r).2)
        else ((runsD l (need - (getL bs).1.toNat) r).1, [])) := by
  by_cases h0 : need = 0
  · subst h0
    rw [if_pos rfl]
    rfl
  · have e : runsD l need bs = runsF l (need - 1 + 1) need bs := by rw [show need - 1 + 1 = need by omega]; rfl
    rw [e, runsF, if_neg h0, if_neg h0]
    by_cases hb : bs = []
    · rw [if_pos hb, if_pos hb]
    · rw [if_neg hb, if_neg hb]
      by_cases hg : (getL bs).2 = 0 ∨ (getL bs).1 < 1 ∨ (need : Int) < (getL bs).1
      · rw [dif_pos hg, dif_pos hg]
      · rw [dif_neg hg, dif_neg hg]
        rcases bs.drop (getL bs).2.toNat with _ | ⟨p, r⟩
        · rfl
        · simp only
          rw [runsF_more l (need - 1) (need - (getL bs).1.toNat) (need - (getL bs).1.toNat) r (by omega) (Nat.le_refl _)]
          rfl
theorem runsD_done (l : List Int) (bs : List Int) : runsD l 0 bs = if bs = [] then (0, []) else (2, []) := by rw [runsD_eq, if_pos rfl]
theorem runsD_step (l : List Int) (need : Nat) (n : Nat) (p : Int) (r : List Int) (h0 : 1 ≤ n) (h1 : n ≤ need) (h2 : n ≤ 2147483647) (hp : p < l.length) :
    runsD l need (putL (n : Int) ++ p :: r) = if (runsD l (need - n) r).1 = 0 then (0, List.replicate n (l.getD p.toNat 0) ++ (runsD l (need - n) r).2) else ((runsD l (need - n) r).1, []) := by
  obtain ⟨hg, g1, g5⟩ := getL_putL (n : Int) (by omega) (by omega) (p :: r)
  have hlen : (putL (n : Int)).length = grp n := putL_len n (by omega) (by omega)
  have hne : putL (n : Int) ++ p :: r ≠ [] := by simp
  have hd : (putL (n : Int) ++ p :: r).drop ((grp (n : Int) : Nat) : Int).toNat = p :: r := by rw [Int.toNat_natCast, ← hlen, List.drop_left]
  rw [runsD_eq, if_neg (by omega), if_neg hne, hg]
  simp only
  rw [dif_neg (by omega), hd]
  simp only
  rw [if_neg (by omega), Int.toNat_natCast]
theorem runs_back (l : List Int) : ∀ (m : Nat) (cs : List Int), cs.length ≤ m → cs.length ≤ 2147483647 → (∀ x ∈ cs, x ∈ l) → runsD l cs.length (encR l cs) = (0, cs)
  | 0, cs, h, _, _ => by
    obtain rfl := List.eq_nil_of_length_eq_zero (by omega : cs.length = 0)
    rw [encR_nil, List.length_nil, runsD_done, if_pos rfl]
  | m + 1, [], _, _, _ => by rw [encR_nil, List.length_nil, runsD_done, if_pos rfl]
  | m + 1, c :: r, h, h31, hl => by
    have hc := hl c (List.mem_cons_self ..)
    have hlt := plc_lt hc
    have hat := plc_at hc
    have hle := runN_le c r
    rw [List.length_cons] at h h31
    have hdl : (r.drop (runN c r)).length = r.length - runN c r := List.length_drop ..
    have ih := runs_back l m (r.drop (runN c r)) (by omega) (by omega) (fun x hx => hl x (List.mem_cons_of_mem _ (List.mem_of_mem_drop hx)))
    rw [encR_cons, runsD_step l _ (runN c r + 1) _ _ (by omega) (by rw [List.length_cons]; omega) (by omega) (by omega)]
    rw [List.length_cons, show r.length + 1 - (runN c r + 1) = (r.drop (runN c r)).length by omega, ih, if_pos rfl, Int.toNat_natCast, hat]
    rw [List.replicate_succ, List.cons_append, ← runN_split c r]
end Go.Proofs.Ytdkihhjhjfkjjaa
