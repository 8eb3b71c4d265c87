/-
  Parts of slices, bounds of numbers that are read, and runs one behind the other.
-/
import Derived.Test.YtdkihhjhjfkjjaaRsmall
namespace Go.Proofs.Ytdkihhjhjfkjjaa
open Go.RowKit

/-! ### numbers that are read -/
theorem getF_in : ∀ (f i : Nat) (acc : Int) (xs : List Int), 0 ≤ acc → (∀ z ∈ xs, 0 ≤ z ∧ z ≤ 255) → 0 ≤ (getF f i acc xs).1 ∧ (getF f i acc xs).1 ≤ 2147483647 ∧ 0 ≤ (getF f i acc xs).2 ∧ (getF f i acc xs).2 ≤ i + f ∧ (getF f i acc xs).2 ≤ i + xs.length
  | 0, _, _, _, _, _ => by simp [getF]; omega
  | _ + 1, i, _, [], _, _ => by simp [getF]; omega
  | f + 1, i, acc, z :: r, ha, hb => by
    have hz := hb z (List.mem_cons_self ..)
    have hp : (0 : Int) ≤ z % 128 * 128 ^ i := Int.mul_nonneg (by omega) (Int.le_of_lt (Int.pow_pos (by omega)))
    unfold getF
    split
    · split
      · simp only [List.length_cons]; omega
      · simp only [List.length_cons]; omega
    · have ih := getF_in f (i + 1) (acc + z % 128 * 128 ^ i) r (by omega) (fun y hy => hb y (List.mem_cons_of_mem _ hy))
      simp only [List.length_cons]
      omega
theorem getL_in {xs : List Int} (hb : ∀ z ∈ xs, 0 ≤ z ∧ z ≤ 255) : 0 ≤ (getL xs).1 ∧ (getL xs).1 ≤ 2147483647 ∧ 0 ≤ (getL xs).2 ∧ (getL xs).2 ≤ 5 ∧ (getL xs).2 ≤ xs.length := by
  have := getF_in 5 0 0 xs (by omega) hb
  unfold getL
  omega

/-! ### parts of slices -/
theorem Bytes.drop {w : World} {b off n : Nat} {xs : List Int} (h : Bytes w (some ⟨b, off, none⟩) n xs) (m : Nat) (hm : m ≤ n) : Bytes w (some ⟨b, off + m, none⟩) (n - m) (xs.drop m) := by
  have hn := h.n
  refine ⟨by rw [List.length_drop, hn], ?_, fun z hz => h.fit z (List.mem_of_mem_drop hz)⟩
  by_cases he : xs.drop m = []
  · exact Or.inl he
  · refine Or.inr ⟨b, off + m, rfl, fun k hk => ?_⟩
    rw [List.length_drop] at hk
    rcases h.cells with e | ⟨b', o', e, hc⟩
    · subst e; simp at he
    · cases e
      rw [Nat.add_assoc, hc (m + k) (by omega), List.getElem_drop]
/-- What lies from m on: where nothing is left the address is whatever. -/
theorem slice_from (b off n c m : Nat) (hm : m ≤ n) : ∃ o' : Nat, (∀ w, (Instr.sliceAt 25 (.slice (some ⟨b, off, none⟩) n c) (some (.int .i64 (m : Int))) none none).run Try.prog w = .ok (.slice (some ⟨b, o', none⟩) (n - m) (c - m)) w) ∧
    (m = c ∨ o' = off + m) := by
  refine ⟨if c = m then off else off + m, fun w => ?_, ?_⟩
  · rw [run_sliceAt_slice w 25 _ _ _ _ (by kernel_rfl), run_slice_l w 25 (some ⟨b, off, none⟩) n c (by kernel_rfl) .i64 m (by omega) (by omega), show Try.prog.elem 25 = 5 by kernel_rfl, sizeOf5, Result.andThen_ok, Int.toNat_natCast]
    unfold sliced
    split
    · rfl
    · rw [Nat.mul_one]; show Result.ok (Value.slice (some ((⟨b, off, none⟩ : Addr).add m)) _ _) w = _; rw [Addr.add_mid]
  · by_cases h : c = m
    · exact Or.inl h.symm
    · exact Or.inr (if_neg h)
theorem Bytes.from {w : World} {b off n c m o' : Nat} {xs : List Int} (h : Bytes w (some ⟨b, off, none⟩) n xs) (hm : m ≤ n) (hc : n ≤ c) (ha : m = c ∨ o' = off + m) : Bytes w (some ⟨b, o', none⟩) (n - m) (xs.drop m) := by
  have hd := h.drop m hm
  rcases ha with e | rfl
  · have hn := h.n
    have h0 : xs.drop m = [] := List.drop_eq_nil_of_le (by omega)
    exact ⟨hd.n, Or.inl h0, hd.fit⟩
  · exact hd

/-! ### runs one behind the other -/
def comb (out : List Int) (d : Int × List Int) : Int × List Int := if d.1 = 0 then (0, out ++ d.2) else (d.1, [])
theorem comb_nil (l : List Int) (need : Nat) (bs : List Int) : comb [] (runsD l need bs) = runsD l need bs := by
  unfold comb
  rw [List.nil_append]
  split
  · rename_i h; rw [← h]
  · rename_i h
    have h2 : (runsD l need bs).2 = [] := by
      revert h
      rw [runsD_eq]
      split
      · split
        · intro h; exact absurd rfl h
        · intro _; rfl
      · split
        · intro _; rfl
        · split
          · intro _; rfl
          · split
            · intro _; rfl
            · split
              · intro _; rfl
              · split
                · intro h; exact absurd rfl h
                · intro _; rfl
    rw [← h2]
theorem comb_comb (a b : List Int) (d : Int × List Int) : comb a (comb b d) = comb (a ++ b) d := by
  unfold comb
  by_cases h : d.1 = 0
  · rw [if_pos h, if_pos rfl, if_pos h, List.append_assoc]
  · rw [if_neg h, if_neg h, if_neg h]
theorem runsD_short (l : List Int) (need : Nat) (h : need ≠ 0) : runsD l need [] = (3, []) := by rw [runsD_eq, if_neg h, if_pos rfl]
theorem runsD_form (l : List Int) (need : Nat) (bs : List Int) (h : need ≠ 0) (hb : bs ≠ []) (hg : (getL bs).2 = 0 ∨ (getL bs).1 < 1 ∨ (need : Int) < (getL bs).1) : runsD l need bs = (4, []) := by
  rw [runsD_eq, if_neg h, if_neg hb, dif_pos hg]
theorem runsD_cut (l : List Int) (need : Nat) (bs : List Int) (h : need ≠ 0) (hb : bs ≠ []) (hg : ¬ ((getL bs).2 = 0 ∨ (getL bs).1 < 1 ∨ (need : Int) < (getL bs).1)) (hd : bs.drop (getL bs).2.toNat = []) : runsD l need bs = (3, []) := by
  rw [runsD_eq, if_neg h, if_neg hb, dif_neg hg, hd]
theorem runsD_far (l : List Int) (need : Nat) (bs : List Int) (h : need ≠ 0) (hb : bs ≠ []) (hg : ¬ ((getL bs).2 = 0 ∨ (getL bs).1 < 1 ∨ (need : Int) < (getL bs).1)) {p : Int} {r : List Int} (hd : bs.drop (getL bs).2.toNat = p :: r) (hp : (l.length : Int) ≤ p) : runsD l need bs = (4, []) := by
  rw [runsD_eq, if_neg h, if_neg hb, dif_neg hg, hd]
  simp only
  rw [if_pos hp]
theorem runsD_go (l : List Int) (need : Nat) (bs : List Int) (h : need ≠ 0) (hb : bs ≠ []) (hg : ¬ ((getL bs).2 = 0 ∨ (getL bs).1 < 1 ∨ (need : Int) < (getL bs).1)) {p : Int} {r : List Int} (hd : bs.drop (getL bs).2.toNat = p :: r) (hp : ¬ (l.length : Int) ≤ p) :
    runsD l need bs = comb (List.replicate (getL bs).1.toNat (l.getD p.toNat 0)) (runsD l (need - (getL bs).1.toNat) r) := by
  rw [runsD_eq, if_neg h, if_neg hb, dif_neg hg, hd]
  simp only
  rw [if_neg hp]
  rfl
end Go.Proofs.Ytdkihhjhjfkjjaa
