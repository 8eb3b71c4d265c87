/-
  The palette, kind by kind, and the numbers of kinds.
-/
import Derived.Test.YtdkihhjhjfkjjaaFits
import Derived.Test.YtdkihhjhjfkjjaaGiven
namespace Go.Proofs.Ytdkihhjhjfkjjaa
open Go.RowKit

theorem cnt_some (cs : List Int) (j : Nat) : ∀ n, 0 ≤ cnt cs j n ∧ (cnt cs j n = 0 ↔ ∀ i, i < n → cs.getD i 0 ≠ (j : Int))
  | 0 => ⟨by simp [cnt], by simp [cnt]⟩
  | n + 1 => by
    obtain ⟨h0, h1⟩ := cnt_some cs j n
    unfold cnt
    by_cases e : cs.getD n 0 = (j : Int)
    · rw [if_pos e]
      refine ⟨by omega, fun h => by omega, fun h => absurd e (h n (by omega))⟩
    · rw [if_neg e]
      refine ⟨by omega, fun h i hi => ?_, fun h => ?_⟩
      · by_cases e2 : i = n
        · subst e2; exact e
        · exact h1.1 (by omega) i (by omega)
      · have := h1.2 fun i hi => h i (by omega)
        omega
theorem cnt_mem {cs : List Int} (hl : cs.length = 32768) (hk : Kinds cs) (j : Nat) (hj : j < 17) : (cntTo cs 32768).getD j 0 = 0 ↔ ¬ (j : Int) ∈ cs := by
  rw [cntTo_cnt cs hk j hj, (cnt_some cs j 32768).2]
  constructor
  · intro h hm
    obtain ⟨i, hi, e⟩ := List.mem_iff_getElem.1 hm
    refine h i (by omega) ?_
    rw [List.getD_eq_getElem?_getD, List.getElem?_eq_getElem hi, ← e]
    rfl
  · intro h i hi e
    apply h
    rw [← e, List.getD_eq_getElem?_getD, List.getElem?_eq_getElem (by omega)]
    exact List.getElem_mem _
theorem palTo_front (cs : List Int) (k : Nat) : ∀ d, ∃ r, palTo cs (k + d) = palTo cs k ++ r
  | 0 => ⟨[], by simp⟩
  | d + 1 => by
    obtain ⟨r, hr⟩ := palTo_front cs k d
    rw [← Nat.add_assoc, palTo]
    split
    · exact ⟨r ++ [((k + d : Nat) : Int)], by rw [hr, List.append_assoc]⟩
    · exact ⟨r, hr⟩
/-- The kind k, if there is one, stands behind the lesser ones. -/
theorem pal_next (cs : List Int) (k : Nat) (hk : k < 17) (hm : (k : Int) ∈ cs) : ∃ r, pal cs = palTo cs k ++ (k : Int) :: r := by
  obtain ⟨r, hr⟩ := palTo_front cs (k + 1) (17 - (k + 1))
  have h1 : palTo cs (k + 1) = palTo cs k ++ [(k : Int)] := by rw [palTo, if_pos hm]
  rw [show k + 1 + (17 - (k + 1)) = 17 by omega, h1, List.append_assoc] at hr
  exact ⟨r, hr⟩
theorem enc_at {cs : List Int} {f : Int} {rest : List Int} (he : encL cs = headL f (pal cs) ++ rest) (k : Nat) (hk : k < 17) (hm : (k : Int) ∈ cs) : 2 + (palTo cs k).length < (encL cs).length ∧ (encL cs).getD (2 + (palTo cs k).length) 0 = k := by
  obtain ⟨r, hr⟩ := pal_next cs k hk hm
  have e : encL cs = (f :: ((pal cs).length : Int) :: palTo cs k) ++ ((k : Int) :: (r ++ rest)) := by
    rw [he]
    unfold headL
    conv => lhs; rw [show f :: ((pal cs).length : Int) :: pal cs ++ rest = f :: ((pal cs).length : Int) :: (pal cs ++ rest) from rfl]
    conv => lhs; arg 2; arg 2; rw [hr]
    simp
  have hl : (f :: ((pal cs).length : Int) :: palTo cs k).length = 2 + (palTo cs k).length := by simp; omega
  rw [e]
  constructor
  · rw [List.length_append, hl, List.length_cons]; omega
  · rw [List.getD_eq_getElem?_getD, List.getElem?_append_right (by rw [hl]; exact Nat.le_refl _), hl, Nat.sub_self]
    rfl
end Go.Proofs.Ytdkihhjhjfkjjaa
