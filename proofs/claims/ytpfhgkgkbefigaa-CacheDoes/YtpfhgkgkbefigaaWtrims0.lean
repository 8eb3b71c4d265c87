/-
  What the walks of the laws share.
-/
import Derived.Test.YtpfhgkgkbefigaaW2
set_option maxRecDepth 20000
namespace Go.Proofs.Ytpfhgkgkbefigaa
open Go.RowKit Go.Maps

theorem getD_at {l : List (Int × Int)} {k : Nat} (h : k < l.length) : l.getD k (0, 0) = l[k] := by simp [h]
/-- The cells of chunk number k. -/
theorem Ats.at {w : World} {a : Option Addr} {l : List (Int × Int)} (h : Ats w a l) {k : Nat} (hk : k < l.length) : ∃ b off, a = some ⟨b, off, none⟩ ∧ w.cell? ⟨b, off + k * 2, none⟩ = some (.int .i64 (l.getD k (0, 0)).1) ∧ w.cell? ⟨b, off + k * 2 + 1, none⟩ = some (.int .i64 (l.getD k (0, 0)).2) := by
  rw [getD_at hk]
  exact h k hk
theorem ats_i64 {l : List (Int × Int)} (h : ∀ q ∈ l, I64 q.1 ∧ I64 q.2) (k : Nat) : I64 (l.getD k (0, 0)).1 ∧ I64 (l.getD k (0, 0)).2 := by
  by_cases hk : k < l.length
  · rw [getD_at hk]
    exact h _ (List.getElem_mem hk)
  · rw [List.getD_eq_getElem?_getD, List.getElem?_eq_none (by omega)]
    unfold I64
    simp
theorem CS.i64 {B : Nat} {w : World} {c : Nat} {m : Int} {l : List E} {N : Nat} (h : CS B w c m l N) : ∀ g ∈ keysE l, I64 g.1 ∧ I64 g.2 := fun g hg => by
  obtain ⟨_, _, _, D, q, I, _, H⟩ := h
  obtain ⟨e, he, rfl⟩ := List.mem_map.1 hg
  rw [H.eq] at he
  obtain ⟨b, hb, rfl⟩ := List.mem_map.1 he
  exact H.cc.mi.rng b hb
theorem CS.len {B : Nat} {w : World} {c : Nat} {m : Int} {l : List E} {N : Nat} (h : CS B w c m l N) : l.length ≤ N := by
  obtain ⟨_, _, _, D, q, I, _, H⟩ := h
  rw [H.eq, List.length_map]
  exact H.ln
theorem getD_in {l : List (Int × Int)} {k : Nat} (h : k < l.length) : l.getD k (0, 0) ∈ l := by
  rw [getD_at h]
  exact List.getElem_mem h
theorem getE_none {l : List E} {x z : Int} (h : findE l x z = none) : getE l x z = l := by
  unfold getE
  rw [h]
theorem CS.apart {B : Nat} {w : World} {c : Nat} {m : Int} {l : List E} {N : Nat} (h : CS B w c m l N) : Apart l := by
  obtain ⟨_, _, _, D, q, I, _, H⟩ := h
  rw [H.eq]
  unfold Apart
  rw [List.pairwise_map]
  exact H.cc.mi.nod.imp_of_mem (fun {a b} ha hb hne e => hne (H.cc.mi.one ha hb e.1 e.2))
end Go.Proofs.Ytpfhgkgkbefigaa
