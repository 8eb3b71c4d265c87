/-
  Places are packed one by one.
-/
import Derived.Test.YtdkihhjhjfkjjaaErunsc
import Derived.Test.YtdkihhjhjfkjjaaDlefts
import Derived.Laws.BitsAllLaws
namespace Go.Proofs.Ytdkihhjhjfkjjaa
open Go.RowKit

theorem undig_snoc (w : Nat) : ∀ (ps : List Int) (p : Int), undig w (ps ++ [p]) = undig w ps + p * 2 ^ (w * ps.length)
  | [], p => by simp [undig]
  | q :: r, p => by
    have ih := undig_snoc w r p
    rw [List.cons_append, undig, undig, ih, List.length_cons, Nat.mul_add, Nat.mul_one, Int.pow_add, Int.mul_add]
    rw [show p * (2 ^ (w * r.length) * 2 ^ w) = 2 ^ w * (p * 2 ^ (w * r.length)) by rw [Int.mul_comm (2 ^ w) (p * _), Int.mul_assoc]]
    omega
theorem grpP_take (l cs : List Int) (m j I : Nat) : grpP l (cs.take I) m j = ((cs.drop (j * m)).take (min m (I - j * m))).map fun c => (plc l c : Int) := by
  unfold grpP
  rw [List.drop_take, List.take_take]
theorem packTo_get (l cs : List Int) (w m : Nat) : ∀ (n j : Nat), j < n → (packTo l cs w m n).getD j 0 = undig w (grpP l cs m j)
  | n + 1, j, h => by
    rw [packTo, List.getD_eq_getElem?_getD]
    by_cases e : j < n
    · rw [List.getElem?_append_left (by rw [packTo_len]; exact e), ← List.getD_eq_getElem?_getD, packTo_get l cs w m n j e]
    · obtain rfl : j = n := by omega
      rw [List.getElem?_append_right (by rw [packTo_len]; exact Nat.le_refl _), packTo_len, Nat.sub_self]
      rfl
/-- The places ahead of cell I in its byte. -/
theorem grp_now (l cs : List Int) (m j I : Nat) (hI : I < cs.length) (h1 : j * m ≤ I) (h2 : I < j * m + m) :
    grpP l (cs.take (I + 1)) m j = grpP l (cs.take I) m j ++ [(plc l cs[I] : Int)] ∧ (grpP l (cs.take I) m j).length = I - j * m := by
  rw [grpP_take, grpP_take, show min m (I + 1 - j * m) = (I - j * m) + 1 by omega, show min m (I - j * m) = I - j * m by omega]
  constructor
  · rw [List.take_add_one, List.map_append, List.getElem?_drop, show j * m + (I - j * m) = I by omega, List.getElem?_eq_getElem hI]
    rfl
  · rw [List.length_map, List.length_take, List.length_drop]
    omega
theorem pack_step (l cs : List Int) (w m n I j : Nat) (hI : I < cs.length) (hj : j < n) (h1 : j * m ≤ I) (h2 : I < j * m + m) :
    packTo l (cs.take (I + 1)) w m n = (packTo l (cs.take I) w m n).set j ((packTo l (cs.take I) w m n).getD j 0 + (plc l cs[I] : Int) * 2 ^ (w * (I - j * m))) := by
  refine getD_ext (by rw [List.length_set, packTo_len, packTo_len]) fun i hi => ?_
  rw [packTo_len] at hi
  obtain ⟨g1, g2⟩ := grp_now l cs m j I hI h1 h2
  rw [packTo_get _ _ _ _ _ _ hi]
  by_cases e : i = j
  · subst e
    rw [List.getD_eq_getElem?_getD (l := List.set _ _ _), List.getElem?_set_self (by rw [packTo_len]; exact hi), Option.getD_some, packTo_get _ _ _ _ _ _ hi, g1, undig_snoc, g2]
  · rw [List.getD_eq_getElem?_getD, List.getElem?_set_ne (fun h => e h.symm), ← List.getD_eq_getElem?_getD, packTo_get _ _ _ _ _ _ hi, grpP_take, grpP_take]
    have : min m (I + 1 - i * m) = min m (I - i * m) := by
      rcases Nat.lt_or_gt_of_ne e with h | h
      · have := Nat.mul_le_mul_right m (show i + 1 ≤ j from h)
        rw [Nat.add_mul, Nat.one_mul] at this
        omega
      · have := Nat.mul_le_mul_right m (show j + 1 ≤ i from h)
        rw [Nat.add_mul, Nat.one_mul] at this
        omega
    rw [this]
/-- What stands in a byte by now, and what comes to it. -/
theorem byte_now (l cs : List Int) (w m n I j : Nat) (hI : I < cs.length) (hj : j < n) (h1 : j * m ≤ I) (h2 : I < j * m + m) (hm : ∀ x ∈ cs, x ∈ l) (hw : l.length ≤ 2 ^ w) :
    0 ≤ (packTo l (cs.take I) w m n).getD j 0 ∧ (packTo l (cs.take I) w m n).getD j 0 < 2 ^ (w * (I - j * m)) ∧ (plc l cs[I] : Int) < 2 ^ w := by
  obtain ⟨_, g2⟩ := grp_now l cs m j I hI h1 h2
  have hp : ∀ x ∈ cs, (plc l x : Int) < 2 ^ w := fun x hx => by
    have := plc_lt (hm x hx)
    have h3 : plc l x < 2 ^ w := by omega
    exact_mod_cast h3
  rw [packTo_get _ _ _ _ _ _ hj]
  have := undig_fit w (grpP l (cs.take I) m j) (fun p hp' => by
    unfold grpP at hp'
    obtain ⟨x, hx, rfl⟩ := List.mem_map.1 hp'
    exact ⟨Int.natCast_nonneg _, hp x (List.mem_of_mem_take (List.mem_of_mem_drop (List.mem_of_mem_take hx)))⟩)
  rw [g2] at this
  exact ⟨this.1, this.2, hp _ (List.getElem_mem hI)⟩
theorem or8_join (a p : Int) (s : Nat) (h0 : 0 ≤ a) (h1 : a < 2 ^ s) (hp : 0 ≤ p) (hs : a + p * 2 ^ s < 256) : bits .or .u8 a (p * 2 ^ s) = a + p * 2 ^ s := by
  obtain ⟨A, rfl⟩ := Int.eq_ofNat_of_zero_le h0
  obtain ⟨P, rfl⟩ := Int.eq_ofNat_of_zero_le hp
  have e : (P : Int) * 2 ^ s = ((P * 2 ^ s : Nat) : Int) := by simp
  rw [e] at hs ⊢
  have hA : A < 2 ^ s := by exact_mod_cast h1
  rw [u8_or_nat A (P * 2 ^ s) (by omega) (by omega), Nat.or_comm, nat_join s (P * 2 ^ s) A (Nat.mul_mod_left _ _) hA]
  omega
/-- All of it stays a byte. -/
theorem byte_fit {a p : Int} {w m r : Nat} (h8 : w * m = 8) (h1 : a < 2 ^ (w * r)) (hp : p < 2 ^ w) (hr : r < m) : a + p * 2 ^ (w * r) < 256 := by
  have hk : w * (r + 1) ≤ 8 := by rw [← h8]; exact Nat.mul_le_mul_left w hr
  have h2 : (2 : Int) ^ (w * (r + 1)) ≤ 256 := by
    have h : (2 : Nat) ^ (w * (r + 1)) ≤ 256 := Nat.pow_le_pow_right (n := 2) (by omega) hk
    have h' := Int.ofNat_le.2 h
    rw [Int.natCast_pow] at h'
    exact h'
  rw [Nat.mul_add, Nat.mul_one, Int.pow_add] at h2
  have hpos : (0 : Int) < 2 ^ (w * r) := Int.pow_pos (by omega)
  have h3 : (p + 1) * 2 ^ (w * r) ≤ 2 ^ w * 2 ^ (w * r) := Int.mul_le_mul_of_nonneg_right (by omega) (Int.le_of_lt hpos)
  rw [Int.add_mul, Int.one_mul] at h3
  rw [Int.mul_comm (2 ^ (w * r)) (2 ^ w)] at h2
  omega
theorem packTo_zero (l cs : List Int) (w m n : Nat) : packTo l (cs.take 0) w m n = List.replicate n 0 := by
  refine getD_ext (by rw [packTo_len, List.length_replicate]) fun i hi => ?_
  rw [packTo_len] at hi
  rw [packTo_get _ _ _ _ _ _ hi, List.take_zero]
  unfold grpP
  rw [List.drop_nil, List.take_nil, List.map_nil, List.getD_eq_getElem?_getD, List.getElem?_replicate, if_pos hi]
  rfl
end Go.Proofs.Ytdkihhjhjfkjjaa
