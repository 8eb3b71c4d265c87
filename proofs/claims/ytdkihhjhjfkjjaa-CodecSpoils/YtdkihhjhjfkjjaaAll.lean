/-
  Plain mathematics for the layer codec: a chunk's bytes, there and back.
-/
import Derived.Test.YtdkihhjhjfkjjaaPack
namespace Go.Proofs.Ytdkihhjhjfkjjaa

theorem getD_mem {l : List Int} {i : Nat} (h : i < l.length) : l.getD i 0 ∈ l := by
  rw [List.getD_eq_getElem?_getD, List.getElem?_eq_getElem h, Option.getD_some]
  exact List.getElem_mem h
/-! ### the whole -/
def headL (f : Int) (l : List Int) : List Int := f :: (l.length : Int) :: l
def oneL (cs : List Int) : List Int := headL 1 (pal cs) ++ encR (pal cs) cs
def twoL (cs : List Int) : List Int := headL 2 (pal cs) ++ packTo (pal cs) cs (wid (pal cs).length) (8 / wid (pal cs).length) (4096 * wid (pal cs).length)
/-- Cells in few bytes. -/
def encL (cs : List Int) : List Int := if (oneL cs).length ≤ (headL 1 (pal cs)).length + 4096 * wid (pal cs).length then oneL cs else twoL cs
/-- Do kinds rise, and is none above 16? -/
def okPal (l : List Int) : Bool := (List.range l.length).all fun i => decide (l.getD i 0 ≤ 16) && (i == 0 || decide (l.getD (i - 1) 0 < l.getD i 0))
/-- What bytes tell: an error and nothing, or the cells. -/
def decL (bs : List Int) : Int × List Int :=
  if bs.length < 2 then (3, [])
  else if (bs.getD 0 0 ≠ 1 ∧ bs.getD 0 0 ≠ 2) ∨ bs.getD 1 0 < 1 ∨ 17 < bs.getD 1 0 then (4, [])
  else if (bs.length : Int) < 2 + bs.getD 1 0 then (3, [])
  else if okPal ((bs.drop 2).take (bs.getD 1 0).toNat) = false then (4, [])
  else if bs.getD 0 0 = 1 then runsD ((bs.drop 2).take (bs.getD 1 0).toNat) 32768 (bs.drop (2 + (bs.getD 1 0).toNat))
  else packD ((bs.drop 2).take (bs.getD 1 0).toNat) (wid (bs.getD 1 0).toNat) (bs.drop (2 + (bs.getD 1 0).toNat))

theorem okPal_pal (cs : List Int) : okPal (pal cs) = true := by
  unfold okPal
  rw [List.all_eq_true]
  intro i hi
  have hi' : i < (pal cs).length := List.mem_range.1 hi
  have hk := pal_kinds cs _ (getD_mem hi')
  rw [decide_eq_true hk.2, Bool.true_and]
  rcases i with _ | i
  · rfl
  · have hr := (List.pairwise_iff_getElem.1 (palTo_rise cs 17)) i (i + 1) (by change i < (pal cs).length; omega) hi' (by omega)
    rw [Nat.add_sub_cancel, List.getD_eq_getElem?_getD, List.getD_eq_getElem?_getD, List.getElem?_eq_getElem (show i < (pal cs).length by omega), List.getElem?_eq_getElem hi', Option.getD_some, Option.getD_some]
    rw [decide_eq_true (show (pal cs)[i] < (pal cs)[i + 1] from hr), Bool.or_true]
theorem pal_pos {cs : List Int} (hk : AreKinds cs) (hc : 0 < cs.length) : 1 ≤ (pal cs).length := by
  obtain ⟨c, hcm⟩ := List.exists_mem_of_length_pos hc
  exact List.length_pos_of_mem (mem_pal hk hcm)
theorem pal_len (cs : List Int) : (pal cs).length ≤ 17 := palTo_len cs 17
theorem dec_head (f : Int) (l rest : List Int) (h1 : 1 ≤ l.length) (h17 : l.length ≤ 17) (hf : f = 1 ∨ f = 2) (hp : okPal l = true) :
    decL (headL f l ++ rest) = if f = 1 then runsD l 32768 rest else packD l (wid l.length) rest := by
  have e0 : (headL f l ++ rest).getD 0 0 = f := rfl
  have e1 : (headL f l ++ rest).getD 1 0 = (l.length : Int) := rfl
  have e2 : (headL f l ++ rest).length = 2 + l.length + rest.length := by
    unfold headL
    rw [List.length_append, List.length_cons, List.length_cons]
    omega
  have e3 : ((headL f l ++ rest).drop 2).take l.length = l := by
    show (l ++ rest).take l.length = l
    rw [List.take_left]
  have e4 : (headL f l ++ rest).drop (2 + l.length) = rest := by
    show (f :: (l.length : Int) :: (l ++ rest)).drop (2 + l.length) = rest
    rw [Nat.add_comm, List.drop_succ_cons, List.drop_succ_cons, List.drop_left]
  unfold decL
  rw [e0, e1, e2, Int.toNat_natCast, e3, e4, hp, if_neg (by omega), if_neg (by omega), if_neg (by omega), if_neg (by simp)]
/-- What was told is read as it was. -/
theorem dec_enc {cs : List Int} (hk : AreKinds cs) (hc : cs.length = 32768) : decL (encL cs) = (0, cs) := by
  have hl : ∀ x ∈ cs, x ∈ pal cs := fun x hx => mem_pal hk hx
  have h1 := pal_pos hk (by omega)
  have h17 := pal_len cs
  unfold encL
  split
  · unfold oneL
    rw [dec_head 1 _ _ h1 h17 (Or.inl rfl) (okPal_pal cs), if_pos rfl, ← hc]
    exact runs_back (pal cs) cs.length cs (Nat.le_refl _) (by omega) hl
  · unfold twoL
    rw [dec_head 2 _ _ h1 h17 (Or.inr rfl) (okPal_pal cs), if_neg (by omega)]
    exact pack_back (pal cs) cs hc hl h17
theorem enc_len (cs : List Int) : (encL cs).length ≤ 32788 := by
  have h17 := pal_len cs
  have hh : ∀ f, (headL f (pal cs)).length = (pal cs).length + 2 := fun f => rfl
  have hb : (pal cs).length + 2 + 4096 * wid (pal cs).length ≤ 32788 := by
    unfold wid
    split
    · omega
    · split
      · omega
      · split <;> omega
  unfold encL
  split
  · rename_i h
    rw [hh] at h
    omega
  · unfold twoL
    rw [List.length_append, hh, packTo_len]
    exact hb
/-- Both forms begin with the palette. -/
theorem enc_head (cs : List Int) : ∃ f rest, (f = 1 ∨ f = 2) ∧ encL cs = headL f (pal cs) ++ rest := by
  unfold encL
  split
  · exact ⟨1, _, Or.inl rfl, rfl⟩
  · exact ⟨2, _, Or.inr rfl, rfl⟩

/-! ### what is decoded is a chunk -/
theorem runsD_all (l : List Int) : ∀ (m need : Nat) (bs : List Int), need ≤ m → AreBytes bs → (runsD l need bs).1 = 0 → (runsD l need bs).2.length = need ∧ ∀ x ∈ (runsD l need bs).2, x ∈ l := by
  intro m
  induction m with
  | zero =>
    intro need bs hm _ h
    obtain rfl : need = 0 := by omega
    rw [runsD_done] at *
    split at h
    · rename_i hb
      rw [if_pos hb]
      exact ⟨rfl, by simp⟩
    · cases h
  | succ m ih =>
    intro need bs hm hb h
    by_cases h0 : need = 0
    · subst h0
      rw [runsD_done] at *
      split at h
      · rename_i hb
        rw [if_pos hb]
        exact ⟨rfl, by simp⟩
      · cases h
    · rw [runsD_eq, if_neg h0] at *
      by_cases h1 : bs = []
      · rw [if_pos h1] at h
        cases h
      · rw [if_neg h1] at *
        by_cases h2 : (getL bs).2 = 0 ∨ (getL bs).1 < 1 ∨ (need : Int) < (getL bs).1
        · rw [dif_pos h2] at h
          cases h
        · rw [dif_neg h2] at *
          have hsub : AreBytes (bs.drop (getL bs).2.toNat) := fun x hx => hb x (List.mem_of_mem_drop hx)
          rcases hd : bs.drop (getL bs).2.toNat with _ | ⟨p, r⟩
          · rw [hd] at h
            cases h
          · rw [hd] at h hsub
            simp only at h ⊢
            have hp := hsub p (List.mem_cons_self ..)
            by_cases h3 : (l.length : Int) ≤ p
            · rw [if_pos h3] at h
              cases h
            · rw [if_neg h3] at h ⊢
              have ih' := ih (need - (getL bs).1.toNat) r (by omega) (fun x hx => hsub x (List.mem_cons_of_mem _ hx))
              generalize runsD l (need - (getL bs).1.toNat) r = d at *
              by_cases h4 : d.1 = 0
              · rw [if_pos h4]
                obtain ⟨i1, i2⟩ := ih' h4
                refine ⟨by rw [List.length_append, List.length_replicate, i1]; omega, fun x hx => ?_⟩
                rcases List.mem_append.1 hx with hx | hx
                · rw [List.eq_of_mem_replicate hx]
                  exact getD_mem (by omega)
                · exact i2 x hx
              · rw [if_neg h4] at h
                exact absurd h h4
theorem packD_all (l : List Int) (n : Nat) (bs : List Int) (h : (packD l (wid n) bs).1 = 0) : (packD l (wid n) bs).2.length = 32768 ∧ ∀ x ∈ (packD l (wid n) bs).2, x ∈ l := by
  have hg := groups_all n
  generalize wid n = w at *
  unfold packD at *
  by_cases h1 : bs.length < 4096 * w
  · rw [if_pos h1] at h; cases h
  · rw [if_neg h1] at *
    by_cases h2 : (spread w (8 / w) (bs.take (4096 * w))).all (fun p => decide (p < l.length)) = false
    · rw [if_pos h2] at h; cases h
    · rw [if_neg h2] at *
      by_cases h3 : 4096 * w < bs.length
      · rw [if_pos h3] at h; cases h
      · rw [if_neg h3]
        refine ⟨by rw [List.length_map, spread_len, List.length_take, Nat.min_eq_left (by omega), hg], fun x hx => ?_⟩
        obtain ⟨p, hp, rfl⟩ := List.mem_map.1 hx
        rw [Bool.not_eq_false, List.all_eq_true] at h2
        have h4 := of_decide_eq_true (h2 p hp)
        have h5 : 0 ≤ p := by
          unfold spread at hp
          obtain ⟨v, _, hv⟩ := List.mem_flatMap.1 hp
          exact (digsW_fit w _ v p hv).1
        exact getD_mem (by omega)
theorem okPal_kinds {l : List Int} (hb : AreBytes l) (h : okPal l = true) : AreKinds l := by
  intro x hx
  obtain ⟨i, hi, rfl⟩ := List.getElem_of_mem hx
  unfold okPal at h
  rw [List.all_eq_true] at h
  have h1 := h i (List.mem_range.2 hi)
  rw [Bool.and_eq_true, decide_eq_true_eq, List.getD_eq_getElem?_getD, List.getElem?_eq_getElem hi] at h1
  exact ⟨(hb _ hx).1, h1.1⟩
/-- What bytes are decoded to is cells of a chunk. -/
theorem dec_ok {bs : List Int} (hb : AreBytes bs) (h : (decL bs).1 = 0) : (decL bs).2.length = 32768 ∧ AreKinds (decL bs).2 := by
  unfold decL at *
  by_cases h1 : bs.length < 2
  · rw [if_pos h1] at h; cases h
  · rw [if_neg h1] at *
    by_cases h2 : (bs.getD 0 0 ≠ 1 ∧ bs.getD 0 0 ≠ 2) ∨ bs.getD 1 0 < 1 ∨ 17 < bs.getD 1 0
    · rw [if_pos h2] at h; cases h
    · rw [if_neg h2] at *
      by_cases h3 : (bs.length : Int) < 2 + bs.getD 1 0
      · rw [if_pos h3] at h; cases h
      · rw [if_neg h3] at *
        have hl : AreBytes ((bs.drop 2).take (bs.getD 1 0).toNat) := fun x hx => hb x (List.mem_of_mem_drop (List.mem_of_mem_take hx))
        generalize (bs.drop 2).take (bs.getD 1 0).toNat = l at *
        by_cases h4 : okPal l = false
        · rw [if_pos h4] at h; cases h
        · rw [if_neg h4] at *
          have hk := okPal_kinds hl (by simpa using h4)
          by_cases h5 : bs.getD 0 0 = 1
          · rw [if_pos h5] at *
            obtain ⟨i1, i2⟩ := runsD_all l 32768 32768 _ (Nat.le_refl _) (fun x hx => hb x (List.mem_of_mem_drop hx)) h
            exact ⟨i1, fun x hx => hk x (i2 x hx)⟩
          · rw [if_neg h5] at *
            obtain ⟨i1, i2⟩ := packD_all l _ _ h
            exact ⟨i1, fun x hx => hk x (i2 x hx)⟩
end Go.Proofs.Ytdkihhjhjfkjjaa
