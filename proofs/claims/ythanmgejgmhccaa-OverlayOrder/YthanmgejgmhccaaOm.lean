/-
  Overlays: the mathematics, and how one lies in memory.
-/
import Derived.Test.YthanmgejgmhccaaCAwake
import Derived.Test.YthanmgejgmhccaaCGiven
import Derived.Deep.RegionHeld
set_option maxRecDepth 20000
namespace Go.Proofs.Ythanmgejgmhccaa
open C Go.RowKit

/-- A kind that a cell may be edited to be of. -/
def isB (k : Int) : Bool := decide (0 ≤ k ∧ k < 16)
/-- What no edits, or some, tell of a cell. -/
def edK (es : Option (List Int)) (i : Int) : Int := match es with
  | none => -1
  | some l => getC l i
def inE (es : Option (List Int)) (gs : List Int) (i : Int) : Bool := isB (edK es i) && edK es i != getC gs i
/-- Edits over generated cells. -/
structure Sp (E G : List Int) : Prop where
  el : E.length = 32768
  gl : G.length = 32768
  ek : Kinds E
  gk : Kinds G
  ne : ∀ j, j < 32768 → E.getD j 0 = 16 ∨ E.getD j 0 ≠ G.getD j 0
def finK (E G : List Int) (j : Nat) : Int := if E.getD j 0 = 16 then G.getD j 0 else E.getD j 0
def getO (E G : List Int) (i : Int) : Int := if 0 ≤ i ∧ i < 32768 then finK E G i.toNat else -1
def codeO (i k : Int) : Int := if 0 ≤ i ∧ i < 32768 then (if 0 ≤ k ∧ k < 16 then 0 else 10) else 1
def newK (G : List Int) (i : Nat) (k : Int) : Int := if k = G.getD i 0 then 16 else k
def setE (E G : List Int) (i k : Int) : List Int := if 0 ≤ i ∧ i < 32768 ∧ 0 ≤ k ∧ k < 16 then E.set i.toNat (newK G i.toNat k) else E
def setD (E G : List Int) (d : Bool) (i k : Int) : Bool := d || decide ((0 ≤ i ∧ i < 32768 ∧ 0 ≤ k ∧ k < 16) ∧ getO E G i ≠ k)
/-- All cells' kinds. -/
structure IsFin (E G cs : List Int) : Prop where
  len : cs.length = 32768
  k : Kinds cs
  at' : ∀ j, j < 32768 → cs.getD j 0 = finK E G j
/-- The edits that a new overlay begins with. -/
structure IsNew (es : Option (List Int)) (G E : List Int) : Prop where
  len : E.length = 32768
  k : Kinds E
  at' : ∀ j, j < 32768 → E.getD j 0 = if inE es G j = true then edK es j else 16
def manyE (E : List Int) : Int := 32768 - cnt E 16 32768

theorem getC_in {l : List Int} {j : Nat} (h : j < 32768) : getC l j = l.getD j 0 := by
  unfold getC
  rw [if_pos (by omega), Int.toNat_natCast]
theorem IsFin.same {E G cs ds : List Int} (h : IsFin E G cs) (h' : IsFin E G ds) : cs = ds :=
  getD_ext (h.len.trans h'.len.symm) fun j hj => by rw [h.at' j (by rw [← h.len]; exact hj), h'.at' j (by rw [← h.len]; exact hj)]
theorem IsNew.same {es : Option (List Int)} {G E F : List Int} (h : IsNew es G E) (h' : IsNew es G F) : E = F :=
  getD_ext (h.len.trans h'.len.symm) fun j hj => by rw [h.at' j (by rw [← h.len]; exact hj), h'.at' j (by rw [← h.len]; exact hj)]
theorem IsNew.sp {es : Option (List Int)} {G E : List Int} (h : IsNew es G E) (hl : G.length = 32768) (hk : Kinds G) : Sp E G :=
  ⟨h.len, hl, h.k, hk, fun j hj => by
    rw [h.at' j hj]
    by_cases c : inE es G j = true
    · rw [if_pos c]
      have c' := c
      unfold inE at c'
      rw [Bool.and_eq_true, bne_iff_ne, getC_in hj] at c'
      exact .inr c'.2
    · rw [if_neg c]; exact .inl rfl⟩
theorem newK_kind (G : List Int) (i : Nat) {k : Int} (h0 : 0 ≤ k) (h1 : k < 16) : 0 ≤ newK G i k ∧ newK G i k ≤ 16 := by
  unfold newK
  split <;> omega
theorem setE_len (E G : List Int) (i k : Int) : (setE E G i k).length = E.length := by unfold setE; split <;> simp
theorem Sp.set {E G : List Int} (h : Sp E G) (i k : Int) : Sp (setE E G i k) G := by
  unfold setE
  split
  · rename_i c
    obtain ⟨I, rfl⟩ := Int.eq_ofNat_of_zero_le c.1
    rw [Int.toNat_natCast]
    obtain ⟨n0, n1⟩ := newK_kind G I c.2.2.1 c.2.2.2
    refine ⟨by rw [List.length_set]; exact h.el, h.gl, Kinds.put h.ek I n0 n1, h.gk, fun j hj => ?_⟩
    by_cases e : I = j
    · subst e
      rw [getD_set_self _ _ _ (by rw [h.el]; exact hj)]
      unfold newK
      split
      · exact .inl rfl
      · rename_i hne; exact .inr hne
    · rw [C.getD_set_ne _ _ e]; exact h.ne j hj
  · exact h
theorem setE_getD {E G : List Int} (h : Sp E G) (i k : Int) (j : Nat) (hj : j < 32768) : (setE E G i k).getD j 0 = if i = j ∧ 0 ≤ k ∧ k < 16 then newK G j k else E.getD j 0 := by
  unfold setE
  by_cases c : i = j ∧ 0 ≤ k ∧ k < 16
  · obtain ⟨rfl, k0, k1⟩ := c
    rw [if_pos (by omega), if_pos ⟨rfl, k0, k1⟩, Int.toNat_natCast, getD_set_self _ _ _ (by rw [h.el]; exact hj)]
  · rw [if_neg c]
    split
    · rename_i q
      rw [C.getD_set_ne _ _ (by omega)]
    · rfl
theorem finK_set {E G : List Int} (h : Sp E G) (i k : Int) (j : Nat) (hj : j < 32768) : finK (setE E G i k) G j = if i = j ∧ 0 ≤ k ∧ k < 16 then k else finK E G j := by
  unfold finK
  rw [setE_getD h i k j hj]
  by_cases c : i = j ∧ 0 ≤ k ∧ k < 16
  · rw [if_pos c, if_pos c]
    unfold newK
    by_cases q : k = G.getD j 0
    · rw [if_pos q, if_pos rfl]; exact q.symm
    · rw [if_neg q, if_neg (show ¬ k = 16 by omega)]
  · rw [if_neg c, if_neg c]
/-- A Set to what the cell is changes nothing. -/
theorem setE_still {E G : List Int} (h : Sp E G) {i k : Int} (hk : getO E G i = k) : setE E G i k = E := by
  refine getD_ext (by rw [setE_len]) fun j hj => ?_
  rw [setE_len, h.el] at hj
  rw [setE_getD h i k j hj]
  split
  · rename_i c
    obtain ⟨rfl, k0, k1⟩ := c
    unfold getO at hk
    rw [if_pos (by omega), Int.toNat_natCast] at hk
    unfold finK at hk
    unfold newK
    rcases h.ne j hj with e | e
    · rw [if_pos e] at hk; rw [if_pos hk.symm, e]
    · by_cases e16 : E.getD j 0 = 16
      · rw [if_pos e16] at hk; rw [if_pos hk.symm, e16]
      · rw [if_neg e16] at hk; rw [if_neg (by rw [← hk]; exact e), hk]
  · rfl
/-- What an overlay with the edits of one begins with. -/
theorem new_edits {E G F : List Int} (h : Sp E G) (hn : IsNew (some E) G F) : F = E := by
  refine getD_ext (hn.len.trans h.el.symm) fun j hj => ?_
  rw [hn.len] at hj
  rw [hn.at' j hj]
  unfold inE edK
  simp only [getC_in hj]
  have b := h.ek.at j
  rcases h.ne j hj with e | e
  · rw [e]
    rw [if_neg (by simp [isB])]
  · by_cases e16 : E.getD j 0 = 16
    · rw [e16]
      rw [if_neg (by simp [isB])]
    · rw [if_pos]
      rw [Bool.and_eq_true, bne_iff_ne]
      exact ⟨decide_eq_true (by omega), e⟩
theorem new_none {G E : List Int} (h : IsNew none G E) (j : Nat) (hj : j < 32768) : E.getD j 0 = 16 := by
  rw [h.at' j hj, if_neg (by simp [inE, isB, edK])]
theorem none_kinds (m : Nat) : Kinds (List.replicate m (16 : Int)) := fun x hx => by rw [List.eq_of_mem_replicate hx]; omega
theorem cnt_all (E : List Int) (h : ∀ j, j < 32768 → E.getD j 0 = 16) : ∀ n, n ≤ 32768 → cnt E 16 n = n
  | 0, _ => rfl
  | n + 1, hn => by
    show cnt E 16 n + (if E.getD n 0 = 16 then 1 else 0) = _
    rw [cnt_all E h n (by omega), if_pos (h n (by omega))]
    omega
theorem many_none {E : List Int} (h : ∀ j, j < 32768 → E.getD j 0 = 16) : manyE E = 0 := by
  unfold manyE
  rw [cnt_all E h 32768 (Nat.le_refl _)]
  rfl
end Go.Proofs.Ythanmgejgmhccaa
