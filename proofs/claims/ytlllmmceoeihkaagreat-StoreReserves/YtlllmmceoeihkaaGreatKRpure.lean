/-
  The document's place, width and palette.
  Parts of slices, bounds of numbers that are read, and runs one behind the other.
  Places one behind the other.
-/
import Derived.Test.YtlllmmceoeihkaaGreatKAll
import Derived.Test.YtlllmmceoeihkaaGreatKOwns
import Derived.Test.YtlllmmceoeihkaaGreatKMores
import Derived.Deep.DeepCutAuto
namespace Go.Proofs.YtlllmmceoeihkaaGreat.K
open Go.RowKit
theorem cnt_pos (cs : List Int) (j : Int) : ∀ n, n ≤ cs.length → (0 < cnt cs j n ↔ j ∈ cs.take n)
 | 0, _ => by simp [cnt]
 | n + 1, h => by
   have ih := cnt_pos cs j n (by omega)
   have h0 : 0 ≤ cnt cs j n := by
    clear ih
    induction n with
    | zero => simp [cnt]
    | succ n ih' => have := ih' (by omega); unfold cnt; split <;> omega
   unfold cnt
   rw [List.take_succ_eq_append_getElem (by omega), List.mem_append, ← ih, List.mem_singleton, List.getD_eq_getElem?_getD, List.getElem?_eq_getElem (by omega), Option.getD_some]
   split
   ·rename_i e
    constructor
    ·intro _; exact Or.inr e.symm
    ·intro _; omega
   ·rename_i e
    rw [Int.add_zero]
    constructor
    ·intro h1; exact Or.inl h1
    ·rintro (h1 | h1)
     ·exact h1
     ·exact absurd h1.symm e
theorem cntTo_pos {cs : List Int} (hk : Kinds cs) (hl : cs.length = 32768) (j : Nat) (hj : j < 17) : 0 < (cntTo cs 32768).getD j 0 ↔ (j : Int) ∈ cs := by
 rw [cntTo_cnt cs hk j hj, cnt_pos cs j 32768 (by omega), List.take_of_length_le (by omega)]
theorem palTo_fit (cs : List Int) (n : Nat) (h : n ≤ 17) : ∀ z ∈ palTo cs n, 0 ≤ z ∧ z ≤ 255 := fun z hz => by
 obtain ⟨_, k, hk, rfl⟩ := (mem_palTo cs z n).1 hz
 omega
end Go.Proofs.YtlllmmceoeihkaaGreat.K
namespace Go.Proofs.YtlllmmceoeihkaaGreat.K
open Go.RowKit
/-! ### numbers that are read -/
theorem getF_in : ∀ (f i : Nat) (acc : Int) (xs : List Int), 0 ≤ acc → (∀ z ∈ xs, 0 ≤ z ∧ z ≤ 255) → 0 ≤ (getF f i acc xs).1 ∧ (getF f i acc xs).1 ≤ 2147483647 ∧ 0 ≤ (getF f i acc xs).2 ∧ (getF f i acc xs).2 ≤ i + f ∧ (getF f i acc xs).2 ≤ i + xs.length
 | 0, _, _, _, _, _ => by simp [getF]; omega
 | _ + 1, i, _, [], _, _ => by simp [getF]; omega
 | f + 1, i, acc, z :: r, ha, hb => by
   have hz := hb z (List.mem_cons_self ..)
   have hp : (0 : Int) ≤ z % 128 * 128 ^ i := Int.mul_nonneg (by omega) (Int.le_of_lt (Int.pow_pos (by omega)))
   unfold getF
   split
   ·split
    ·simp only [List.length_cons]; omega
    ·simp only [List.length_cons]; omega
   ·have ih := getF_in f (i + 1) (acc + z % 128 * 128 ^ i) r (by omega) (fun y hy => hb y (List.mem_cons_of_mem _ hy))
    simp only [List.length_cons]
    omega
theorem getL_in {xs : List Int} (hb : ∀ z ∈ xs, 0 ≤ z ∧ z ≤ 255) : 0 ≤ (getL xs).1 ∧ (getL xs).1 ≤ 2147483647 ∧ 0 ≤ (getL xs).2 ∧ (getL xs).2 ≤ 5 ∧ (getL xs).2 ≤ xs.length := by
 have := getF_in 5 0 0 xs (by omega) hb
 unfold getL
 omega
/-! ### parts of slices -/
theorem Bytes.drop {w : World} {b off n : Nat} {xs : List Int} (h : Bytes w (some ⟨b, off, none⟩) n xs) (m : Nat) (hm : m ≤ n) : Bytes w (some ⟨b, off + m, none⟩) (n - m) (xs.drop m) := by
 have hn := h.n
 refine ⟨by rw [List.length_drop, hn], ?_, fun z hz => h.fit z (List.mem_of_mem_drop hz)⟩
 by_cases he : xs.drop m = []
 ·exact Or.inl he
 ·refine Or.inr ⟨b, off + m, rfl, fun k hk => ?_⟩
  rw [List.length_drop] at hk
  rcases h.cells with e | ⟨b', o', e, hc⟩
  ·subst e; simp at he
  ·cases e
   rw [Nat.add_assoc, hc (m + k) (by omega), List.getElem_drop]
theorem slice_from (b off n c m : Nat) (hm : m ≤ n) : ∃ o' : Nat, (∀ w, (Instr.sliceAt 61 (.slice (some ⟨b, off, none⟩) n c) (some (.int .i64 (m : Int))) none none).run Tryz.prog w = .ok (.slice (some ⟨b, o', none⟩) (n - m) (c - m)) w) ∧
  (m = c ∨ o' = off + m) := by
 refine ⟨if c = m then off else off + m, fun w => ?_, ?_⟩
 ·rw [run_sliceAt_slice w 61 _ _ _ _ (by kernel_rfl), run_slice_l w 61 (some ⟨b, off, none⟩) n c (by kernel_rfl) .i64 m (by omega) (by omega), show Tryz.prog.elem 61 = 5 by kernel_rfl, sizeOf5, Result.andThen_ok, Int.toNat_natCast]
  unfold sliced
  split
  ·rfl
  ·rw [Nat.mul_one]; show Result.ok (Value.slice (some ((⟨b, off, none⟩ : Addr).add m)) _ _) w = _; rw [Addr.add_mid]
 ·by_cases h : c = m
  ·exact Or.inl h.symm
  ·exact Or.inr (if_neg h)
theorem Bytes.from {w : World} {b off n c m o' : Nat} {xs : List Int} (h : Bytes w (some ⟨b, off, none⟩) n xs) (hm : m ≤ n) (hc : n ≤ c) (ha : m = c ∨ o' = off + m) : Bytes w (some ⟨b, o', none⟩) (n - m) (xs.drop m) := by
 have hd := h.drop m hm
 rcases ha with e | rfl
 ·have hn := h.n
  have h0 : xs.drop m = [] := List.drop_eq_nil_of_le (by omega)
  exact ⟨hd.n, Or.inl h0, hd.fit⟩
 ·exact hd
/-! ### runs one behind the other -/
def comb (out : List Int) (d : Int × List Int) : Int × List Int := if d.1 = 0 then (0, out ++ d.2) else (d.1, [])
theorem comb_nil (l : List Int) (need : Nat) (bs : List Int) : comb [] (runsD l need bs) = runsD l need bs := by
 unfold comb
 rw [List.nil_append]
 split
 ·rename_i h; rw [← h]
 ·rename_i h
  have h2 : (runsD l need bs).2 = [] := by
   revert h
   rw [runsD_eq]
   split
   ·split
    ·intro h; exact absurd rfl h
    ·intro _; rfl
   ·split
    ·intro _; rfl
    ·split
     ·intro _; rfl
     ·split
      ·intro _; rfl
      ·split
       ·intro _; rfl
       ·split
        ·intro h; exact absurd rfl h
        ·intro _; rfl
  rw [← h2]
theorem comb_comb (a b : List Int) (d : Int × List Int) : comb a (comb b d) = comb (a ++ b) d := by
 unfold comb
 by_cases h : d.1 = 0
 ·rw [if_pos h, if_pos rfl, if_pos h, List.append_assoc]
 ·rw [if_neg h, if_neg h, if_neg h]
theorem runsD_short (l : List Int) (need : Nat) (h : need ≠ 0) : runsD l need [] = (3, []) := by rw [runsD_eq, if_neg h, if_pos rfl]
theorem runsD_form (l : List Int) (need : Nat) (bs : List Int) (h : need ≠ 0) (hb : bs ≠ []) (hg : (getL bs).2 = 0 ∨ (getL bs).1 < 1 ∨ (need : Int) < (getL bs).1) : runsD l need bs = (4, []) := by
 rw [runsD_eq, if_neg h, if_neg hb, dif_pos hg]
theorem runsD_cut (l : List Int) (need : Nat) (bs : List Int) (h : need ≠ 0) (hb : bs ≠ []) (hg : ¬ ((getL bs).2 = 0 ∨ (getL bs).1 < 1 ∨ (need : Int) < (getL bs).1)) (hd : bs.drop (getL bs).2.toNat = []) : runsD l need bs = (3, []) := by
 rw [runsD_eq, if_neg h, if_neg hb, dif_neg hg, hd]
theorem runsD_far (l : List Int) (need : Nat) (bs : List Int) (h : need ≠ 0) (hb : bs ≠ []) (hg : ¬ ((getL bs).2 = 0 ∨ (getL bs).1 < 1 ∨ (need : Int) < (getL bs).1)) {p : Int} {r : List Int} (hd : bs.drop (getL bs).2.toNat = p :: r) (hp : (l.length : Int) ≤ p) : runsD l need bs = (4, []) := by
 rw [runsD_eq, if_neg h, if_neg hb, dif_neg hg, hd]
 simp only
 rw [if_pos hp]
theorem runsD_go (l : List Int) (need : Nat) (bs : List Int) (h : need ≠ 0) (hb : bs ≠ []) (hg : ¬ ((getL bs).2 = 0 ∨ (getL bs).1 < 1 ∨ (need : Int) < (getL bs).1)) {p : Int} {r : List Int} (hd : bs.drop (getL bs).2.toNat = p :: r) (hp : ¬ (l.length : Int) ≤ p) :
  runsD l need bs = comb (List.replicate (getL bs).1.toNat (l.getD p.toNat 0)) (runsD l (need - (getL bs).1.toNat) r) := by
 rw [runsD_eq, if_neg h, if_neg hb, dif_neg hg, hd]
 simp only
 rw [if_neg hp]
 rfl
end Go.Proofs.YtlllmmceoeihkaaGreat.K
namespace Go.Proofs.YtlllmmceoeihkaaGreat.K
open Go.RowKit
theorem spread_cons (w m : Nat) (v : Int) (r : List Int) : spread w m (v :: r) = digsW w m v ++ spread w m r := by unfold spread; rw [List.flatMap_cons]
theorem spread_at (w m : Nat) : ∀ (bs : List Int) (i : Nat) (h : i < bs.length), (spread w m bs).drop (i * m) = digsW w m bs[i] ++ spread w m (bs.drop (i + 1))
 | v :: r, 0, _ => by simp [spread_cons]
 | v :: r, i + 1, h => by
   rw [spread_cons, Nat.add_mul, Nat.one_mul, Nat.add_comm, ← List.drop_drop, List.drop_append_of_le_length (by rw [digsW_len]; exact Nat.le_refl _)]
   rw [show (digsW w m v).drop m = [] from List.drop_eq_nil_of_le (by rw [digsW_len]; exact Nat.le_refl _), List.nil_append, spread_at w m r i (by simpa using h)]
   rfl
theorem spread_byte (w m : Nat) (bs : List Int) (i : Nat) (h : i < bs.length) : digsW w m bs[i] = ((spread w m bs).drop (i * m)).take m := by
 rw [spread_at w m bs i h, List.take_append_of_le_length (by rw [digsW_len]; exact Nat.le_refl _), List.take_of_length_le (by rw [digsW_len]; exact Nat.le_refl _)]
theorem packD_bad {l : List Int} {w : Nat} {bs : List Int} (h : 4096 * w ≤ bs.length) {p : Int} (hp : p ∈ spread w (8 / w) (bs.take (4096 * w))) (hb : (l.length : Int) ≤ p) : packD l w bs = (4, []) := by
 unfold packD
 rw [if_neg (by omega), if_pos]
 rw [List.all_eq_false]
 exact ⟨p, hp, by simp; omega⟩
theorem packD_end {l : List Int} {w : Nat} {bs : List Int} (h : 4096 * w ≤ bs.length) (ha : ∀ p ∈ spread w (8 / w) (bs.take (4096 * w)), p < l.length) :
  packD l w bs = if 4096 * w < bs.length then (2, []) else (0, (spread w (8 / w) (bs.take (4096 * w))).map fun p => l.getD p.toNat 0) := by
 unfold packD
 rw [if_neg (by omega), if_neg]
 rw [Bool.not_eq_false, List.all_eq_true]
 intro p hp
 exact decide_eq_true (ha p hp)
theorem packD_short {l : List Int} {w : Nat} {bs : List Int} (h : bs.length < 4096 * w) : packD l w bs = (3, []) := by
 unfold packD
 rw [if_pos h]
end Go.Proofs.YtlllmmceoeihkaaGreat.K
