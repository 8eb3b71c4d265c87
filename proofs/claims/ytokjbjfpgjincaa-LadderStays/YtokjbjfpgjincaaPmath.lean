/-
  Plain: how far away stages are needed only grows on the way down.
-/
import Derived.Test.YtokjbjfpgjincaaLmath
set_option maxRecDepth 20000
namespace Go.Proofs.Ytokjbjfpgjincaa

theorem stepR_ge (v : Int) (r : List Int) (x : Rd) (j : Nat) : gt r j ≤ gt (stepR v r x) j := by
  unfold stepR
  split
  · rename_i h
    rw [gt_set]
    split
    · rename_i h2
      rw [← h2.1]
      omega
    · exact Int.le_refl _
  · exact Int.le_refl _
theorem foldR_ge (v : Int) (j : Nat) : ∀ (xs : List Rd) (r : List Int), gt r j ≤ gt (xs.foldl (stepR v) r) j
  | [], _ => Int.le_refl _
  | x :: xs, r => by
    rw [List.foldl_cons]
    exact Int.le_trans (stepR_ge v r x j) (foldR_ge v j xs _)
theorem rowR_ge (l : Lad) (i : Nat) (r : List Int) (j : Nat) : gt r j ≤ gt (rowR l i r) j := by
  unfold rowR
  split
  · exact foldR_ge _ j _ _
  · exact Int.le_refl _
theorem downR_ge (l : Lad) (j : Nat) : ∀ (i : Nat) (r : List Int), gt r j ≤ gt (downR l i r) j
  | 0, _ => Int.le_refl _
  | i + 1, r => by
    rw [downR]
    exact Int.le_trans (rowR_ge l i r j) (downR_ge l j i _)
theorem gt_at {r : List Int} {s : Nat} (h : s < r.length) : gt r s = r[s] := by
  unfold gt
  rw [List.getD_eq_getElem?_getD, List.getElem?_eq_getElem h]
  rfl
theorem stepR_max {v : Int} {r : List Int} {s : Nat} {q : Int} (h : s < r.length) : stepR v r ((s : Int), q) = r.set s (max (gt r s) (v + q)) := by
  unfold stepR
  simp only [Int.toNat_natCast]
  by_cases hlt : gt r s < v + q
  · rw [if_pos hlt, show max (gt r s) (v + q) = v + q by omega]
  · rw [if_neg hlt, show max (gt r s) (v + q) = gt r s by omega, gt_at h, List.set_getElem_self]
theorem gt_mem {r : List Int} {s : Nat} (h : -1 < gt r s) : gt r s ∈ r := by
  have hs : s < r.length := by
    refine Nat.lt_of_not_le (fun hge => ?_)
    unfold gt at h
    rw [List.getD_eq_getElem?_getD, List.getElem?_eq_none hge] at h
    simp at h
  rw [gt_at hs]
  exact List.getElem_mem hs
/-- One that is too far away stays so. -/
theorem far_bad {l : Lad} {k i : Nat} {r rt : List Int} {xs : List Rd} {V q : Int} {S : Nat} (hd : downR l i (rowR l i r) = spreadL l k) (hf : xs.foldl (stepR V) (stepR V rt ((S : Int), q)) = rowR l i r) (hS : S < rt.length) (h8 : 8 < V + q) : ∃ v ∈ spreadL l k, 8 < v := by
  have h1 : 8 < gt (stepR V rt ((S : Int), q)) S := by
    rw [stepR_max hS, gt_set, if_pos ⟨rfl, hS⟩]
    omega
  have h2 := foldR_ge V S xs (stepR V rt ((S : Int), q))
  rw [hf] at h2
  have h3 := downR_ge l S i (rowR l i r)
  rw [hd] at h3
  exact ⟨gt (spreadL l k) S, gt_mem (by omega), by omega⟩
theorem le_mem {r : List Int} (h : ∀ j, gt r j ≤ 8) : ∀ v ∈ r, v ≤ 8 := fun v hv => by
  obtain ⟨i, hi, rfl⟩ := List.mem_iff_getElem.1 hv
  rw [← gt_at hi]
  exact h i
theorem may_far {l : Lad} {k : Nat} (hk : k < l.length) (h : ∃ v ∈ spreadL l k, 8 < v) : mayB l = false := by
  obtain ⟨v, hv, h⟩ := h
  rw [Bool.eq_false_iff]
  intro hf
  have := (may_iff.1 hf).le k hk v hv
  omega
end Go.Proofs.Ytokjbjfpgjincaa
