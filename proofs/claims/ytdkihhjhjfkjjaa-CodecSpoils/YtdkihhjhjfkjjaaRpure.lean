/-
  Places one behind the other.
-/
import Derived.Test.YtdkihhjhjfkjjaaRruns
namespace Go.Proofs.Ytdkihhjhjfkjjaa
open Go.RowKit

theorem spread_cons (w m : Nat) (v : Int) (r : List Int) : spread w m (v :: r) = digsW w m v ++ spread w m r := by unfold spread; rw [List.flatMap_cons]
theorem spread_at (w m : Nat) : ∀ (bs : List Int) (i : Nat) (h : i < bs.length), (spread w m bs).drop (i * m) = digsW w m bs[i] ++ spread w m (bs.drop (i + 1))
  | v :: r, 0, _ => by simp [spread_cons]
  | v :: r, i + 1, h => by
    rw [spread_cons, Nat.add_mul, Nat.one_mul, Nat.add_comm, ← List.drop_drop, List.drop_append_of_le_length (by rw [digsW_len]; exact Nat.le_refl _)]
    rw [show (digsW w m v).drop m = [] from List.drop_eq_nil_of_le (by rw [digsW_len]; exact Nat.le_refl _), List.nil_append, spread_at w m r i (by simpa using h)]
    rfl
theorem spread_byte (w m : Nat) (bs : List Int) (i : Nat) (h : i < bs.length) : digsW w m bs[i] = ((spread w m bs).drop (i * m)).take m := by
  rw [spread_at w m bs i h, List.take_append_of_le_length (by rw [digsW_len]; exact Nat.le_refl _), List.take_of_length_le (by rw [digsW_len]; exact Nat.le_refl _)]
/-- One place is taken off. -/
theorem place_step {w K T : Nat} {V : Int} {L : List Int} (h : digsW w (K + 1) V = (L.drop T).take (K + 1)) (hT : T < L.length) : L[T] = V % 2 ^ w ∧ digsW w K (V / 2 ^ w) = (L.drop (T + 1)).take K := by
  rw [List.drop_eq_getElem_cons hT, List.take_succ_cons, digsW] at h
  injection h with h1 h2
  exact ⟨h1.symm, h2⟩
theorem packD_bad {l : List Int} {w : Nat} {bs : List Int} (h : 4096 * w ≤ bs.length) {p : Int} (hp : p ∈ spread w (8 / w) (bs.take (4096 * w))) (hb : (l.length : Int) ≤ p) : packD l w bs = (4, []) := by
  unfold packD
  rw [if_neg (by omega), if_pos]
  rw [List.all_eq_false]
  exact ⟨p, hp, by simp; omega⟩
theorem packD_end {l : List Int} {w : Nat} {bs : List Int} (h : 4096 * w ≤ bs.length) (ha : ∀ p ∈ spread w (8 / w) (bs.take (4096 * w)), p < l.length) :
    packD l w bs = if 4096 * w < bs.length then (2, []) else (0, (spread w (8 / w) (bs.take (4096 * w))).map fun p => l.getD p.toNat 0) := by
  unfold packD
  rw [if_neg (by omega), if_neg]
  rw [Bool.not_eq_false, List.all_eq_true]
  intro p hp
  exact decide_eq_true (ha p hp)
theorem packD_short {l : List Int} {w : Nat} {bs : List Int} (h : bs.length < 4096 * w) : packD l w bs = (3, []) := by
  unfold packD
  rw [if_pos h]
end Go.Proofs.Ytdkihhjhjfkjjaa
