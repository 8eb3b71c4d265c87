/-
  Plain: the first vein that has a cell, by the list of origins; a chunk into which veins are laid one behind the other.
-/
import Derived.Test.YtbcadklodjdokaaPab
set_option maxRecDepth 20000
namespace Go.Proofs.Ytbcadklodjdokaa
open C G Go.RowKit

def covP (S : Nat) (x y z : Int) (p : P3) : Bool := covN S p.x p.y p.z x y z
def oreP (S : Nat) (p : P3) : Int := oreN S p.x p.y p.z
def pickL (S : Nat) (x y z d : Int) : List P3 → Int
  | [] => d
  | p :: L => if covP S x y z p = true then oreP S p else pickL S x y z d L
theorem pickL_is (S : Nat) (x y z d : Int) (f : Nat → P3) : ∀ (k i : Nat), pick (fun i => covP S x y z (f i)) (fun i => oreP S (f i)) d k i = pickL S x y z d ((List.range' i k).map f)
  | 0, _ => rfl
  | k + 1, i => by
    rw [List.range'_succ, List.map_cons]
    unfold pick pickL
    rw [pickL_is S x y z d f k (i + 1)]
theorem pickL_filter (S : Nat) (x y z d : Int) : ∀ L, pickL S x y z d (L.filter (vhP S)) = pickL S x y z d L
  | [] => rfl
  | p :: L => by
    rcases hv : vhP S p with _ | _
    · have hc : covP S x y z p = false := by
        unfold covP covN covH
        have : vHas (R.hashN S 30 p.x p.y p.z) = false := hv
        rw [this]; rfl
      rw [List.filter_cons_of_neg (by rw [hv]; exact Bool.false_ne_true), pickL_filter S x y z d L]
      conv => rhs; unfold pickL
      rw [hc]; rfl
    · rw [List.filter_cons_of_pos hv]
      unfold pickL
      rw [pickL_filter S x y z d L]
theorem pickL_none {S : Nat} {x y z d : Int} : ∀ {L : List P3}, (∀ p ∈ L, covP S x y z p = false) → pickL S x y z d L = d
  | [], _ => rfl
  | p :: L, h => by
    unfold pickL
    rw [if_neg (by rw [h p List.mem_cons_self]; exact Bool.false_ne_true)]
    exact pickL_none fun q hq => h q (List.mem_cons_of_mem _ hq)
theorem pickL_first {S : Nat} {x y z d : Int} {p : P3} {L : List P3} (hp : covP S x y z p = true) : ∀ {K : List P3}, (∀ q ∈ K, covP S x y z q = false) → pickL S x y z d (K ++ p :: L) = oreP S p
  | [], _ => by show (if covP S x y z p = true then oreP S p else _) = _; rw [if_pos hp]
  | q :: K, h => by
    show (if covP S x y z q = true then oreP S q else pickL S x y z d (K ++ p :: L)) = _
    rw [if_neg (by rw [h q List.mem_cons_self]; exact Bool.false_ne_true)]
    exact pickL_first hp fun r hr => h r (List.mem_cons_of_mem _ hr)
/-- What a cell asks for, by the list of the 27 origins about it. -/
theorem of_list (S : Nat) (x y z : Int) : ofN S x y z = pickL S x y z 0 (upto (x / 8 - 1) (y / 8 - 1) (z / 8 - 1) 3 3 (3 * 3 * 3)) := by
  unfold upto
  rw [List.range_eq_range', ← pickL_is S x y z 0 (cellAt (x / 8 - 1) (y / 8 - 1) (z / 8 - 1) 3 3) 27 0]
  unfold ofN
  have e1 : c27 S x y z = fun i => covP S x y z (cellAt (x / 8 - 1) (y / 8 - 1) (z / 8 - 1) 3 3 i) := funext fun i => by
    unfold c27 covP cellAt
    simp only
    rw [show x / 8 - 1 + ((i % 3 : Nat) : Int) = x / 8 + (i : Int) % 3 - 1 by omega, show y / 8 - 1 + ((i / 3 / 3 : Nat) : Int) = y / 8 + (i : Int) / 9 - 1 by omega, show z / 8 - 1 + ((i / 3 % 3 : Nat) : Int) = z / 8 + (i : Int) / 3 % 3 - 1 by omega]
  have e2 : o27 S x y z = fun i => oreP S (cellAt (x / 8 - 1) (y / 8 - 1) (z / 8 - 1) 3 3 i) := funext fun i => by
    unfold o27 oreP cellAt
    simp only
    rw [show x / 8 - 1 + ((i % 3 : Nat) : Int) = x / 8 + (i : Int) % 3 - 1 by omega, show y / 8 - 1 + ((i / 3 / 3 : Nat) : Int) = y / 8 + (i : Int) / 9 - 1 by omega, show z / 8 - 1 + ((i / 3 % 3 : Nat) : Int) = z / 8 + (i : Int) / 3 % 3 - 1 by omega]
  rw [e1, e2]
theorem of_none {S : Nat} {x y z : Int} {L : List P3} (hL : L = (upto (x / 8 - 1) (y / 8 - 1) (z / 8 - 1) 3 3 (3 * 3 * 3)).filter (vhP S)) (h : ∀ p ∈ L, covP S x y z p = false) : ofN S x y z = 0 := by
  rw [of_list, ← pickL_filter, ← hL]
  exact pickL_none h
theorem of_first {S : Nat} {x y z : Int} {K : List P3} {p : P3} (hL : K ++ [p] <+: (upto (x / 8 - 1) (y / 8 - 1) (z / 8 - 1) 3 3 (3 * 3 * 3)).filter (vhP S)) (h : ∀ q ∈ K, covP S x y z q = false) (hp : covP S x y z p = true) : ofN S x y z = oreP S p := by
  obtain ⟨L, hL⟩ := hL
  rw [of_list, ← pickL_filter, ← hL, List.append_assoc]
  exact pickL_first hp h
/-! ### a chunk into which veins are laid -/
def layO (S : Nat) (cx cz : Int) (cs : List Int) (p : P3) : List Int := layF cx cz (vOre (R.hashN S 30 p.x p.y p.z)) (vX (R.hashN S 30 p.x p.y p.z) p.x) (vY (R.hashN S 30 p.x p.y p.z) p.y) (vZ (R.hashN S 30 p.x p.y p.z) p.z) (vReach (R.hashN S 30 p.x p.y p.z)) cs
def layV (S : Nat) (cx cz : Int) (cs : List Int) (L : List P3) : List Int := L.foldl (layO S cx cz) cs
theorem layV_snoc (S : Nat) (cx cz : Int) (cs : List Int) (L : List P3) (p : P3) : layV S cx cz cs (L ++ [p]) = layO S cx cz (layV S cx cz cs L) p := by unfold layV; rw [List.foldl_append, List.foldl_cons, List.foldl_nil]
theorem layV_cons (S : Nat) (cx cz : Int) (cs : List Int) (p : P3) (L : List P3) : layV S cx cz cs (p :: L) = layV S cx cz (layO S cx cz cs p) L := by unfold layV; rw [List.foldl_cons]
theorem layV_nil (S : Nat) (cx cz : Int) (cs : List Int) : layV S cx cz cs [] = cs := by unfold layV; rw [List.foldl_nil]
theorem layO_len (S : Nat) (cx cz : Int) (cs : List Int) (p : P3) : (layO S cx cz cs p).length = 32768 := layF_len _ _ _ _ _ _ _ _
theorem layV_len (S : Nat) (cx cz : Int) : ∀ (L : List P3) (cs : List Int), cs.length = 32768 → (layV S cx cz cs L).length = 32768
  | [], _, h => by rw [layV_nil]; exact h
  | p :: L, cs, _ => by rw [layV_cons]; exact layV_len S cx cz L (layO S cx cz cs p) (layO_len _ _ _ _ _)
theorem vOre_kind (h : Nat) : 2 ≤ vOre h ∧ vOre h ≤ 16 := by have := vOre_bd h; omega
theorem layV_kinds (S : Nat) (cx cz : Int) : ∀ (L : List P3) (cs : List Int), Kinds cs → Kinds (layV S cx cz cs L)
  | [], _, h => by rw [layV_nil]; exact h
  | p :: L, cs, h => by rw [layV_cons]; exact layV_kinds S cx cz L (layO S cx cz cs p) (layF_kinds (vOre_kind _) h)
theorem layO_at {S : Nat} {cx cz : Int} {cs : List Int} {p : P3} (hv : vhP S p = true) {i : Nat} (hi : i < 32768) : (layO S cx cz cs p).getD i 0 = if cs.getD i 0 = 1 ∧ covP S (cx * 16 + (i : Int) % 16) ((i : Int) / 256) (cz * 16 + (i : Int) / 16 % 16) p = true then oreP S p else cs.getD i 0 := by
  unfold layO
  rw [layF_at _ _ _ _ _ _ _ _ _ hi]
  unfold layAt covP covN covH oreP oreN
  have : vHas (R.hashN S 30 p.x p.y p.z) = true := hv
  rw [this]
  simp only [Bool.true_and, decide_eq_true_eq]
theorem layV_at {S : Nat} {cx cz : Int} {i : Nat} (hi : i < 32768) (L : List P3) : ∀ (cs : List Int), (∀ p ∈ L, vhP S p = true) → (layV S cx cz cs L).getD i 0 = if cs.getD i 0 = 1 then pickL S (cx * 16 + (i : Int) % 16) ((i : Int) / 256) (cz * 16 + (i : Int) / 16 % 16) 1 L else cs.getD i 0 := by
  induction L with
  | nil =>
    intro cs _
    rw [layV_nil]
    unfold pickL
    split
    · assumption
    · rfl
  | cons p L ih =>
    intro cs h
    have e0 := layO_at (cx := cx) (cz := cz) (cs := cs) (h p List.mem_cons_self) hi
    rw [layV_cons, ih _ (fun q hq => h q (List.mem_cons_of_mem _ hq))]
    have e1 : pickL S (cx * 16 + (i : Int) % 16) ((i : Int) / 256) (cz * 16 + (i : Int) / 16 % 16) 1 (p :: L) = if covP S (cx * 16 + (i : Int) % 16) ((i : Int) / 256) (cz * 16 + (i : Int) / 16 % 16) p = true then oreP S p else pickL S (cx * 16 + (i : Int) % 16) ((i : Int) / 256) (cz * 16 + (i : Int) / 16 % 16) 1 L := rfl
    rw [e1]
    have h3 : oreP S p ≠ 1 := fun e => by
      have := (oreN_bd S p.x p.y p.z).1
      unfold oreP at e
      omega
    generalize (layO S cx cz cs p).getD i 0 = v at *
    generalize pickL S (cx * 16 + (i : Int) % 16) ((i : Int) / 256) (cz * 16 + (i : Int) / 16 % 16) 1 L = q at *
    generalize covP S (cx * 16 + (i : Int) % 16) ((i : Int) / 256) (cz * 16 + (i : Int) / 16 % 16) p = c at *
    generalize cs.getD i 0 = u at *
    generalize oreP S p = o at *
    clear e1 ih h
    subst e0
    by_cases h1 : u = 1
    · cases c with
      | false => simp [h1]
      | true => simp [h1, h3]
    · simp [h1]
theorem paint_list (S : Nat) (cx cz x y z d : Int) : paintN S cx cz x y z d 0 = pickL S x y z d (upto (cx * 2 - 1) (-1) (cz * 2 - 1) 4 4 (18 * 4 * 4)) := by
  unfold upto
  rw [List.range_eq_range', ← pickL_is S x y z d (cellAt (cx * 2 - 1) (-1) (cz * 2 - 1) 4 4) 288 0]
  unfold paintN
  have e1 : c288 S cx cz x y z = fun i => covP S x y z (cellAt (cx * 2 - 1) (-1) (cz * 2 - 1) 4 4 i) := funext fun i => by
    unfold c288 covP cellAt
    simp only
    rw [show cx * 2 - 1 + ((i % 4 : Nat) : Int) = cx * 2 + (i : Int) % 4 - 1 by omega, show -1 + ((i / 4 / 4 : Nat) : Int) = (i : Int) / 16 - 1 by omega, show cz * 2 - 1 + ((i / 4 % 4 : Nat) : Int) = cz * 2 + (i : Int) / 4 % 4 - 1 by omega]
  have e2 : o288 S cx cz = fun i => oreP S (cellAt (cx * 2 - 1) (-1) (cz * 2 - 1) 4 4 i) := funext fun i => by
    unfold o288 oreP cellAt
    simp only
    rw [show cx * 2 - 1 + ((i % 4 : Nat) : Int) = cx * 2 + (i : Int) % 4 - 1 by omega, show -1 + ((i / 4 / 4 : Nat) : Int) = (i : Int) / 16 - 1 by omega, show cz * 2 - 1 + ((i / 4 % 4 : Nat) : Int) = cz * 2 + (i : Int) / 4 % 4 - 1 by omega]
  rw [e1, e2]
/-- Veins of all origins about the chunk, laid in their order, make what the document says. -/
theorem layV_all {S : Nat} {cx cz : Int} {cs : List Int} {L : List P3} (hl : cs.length = 32768) (hL : L = (upto (cx * 2 - 1) (-1) (cz * 2 - 1) 4 4 (18 * 4 * 4)).filter (vhP S)) : layV S cx cz cs L = applyN S cx cz cs := by
  refine C.getD_ext (by rw [layV_len S cx cz L cs hl, applyN_len]) fun i hi => ?_
  rw [layV_len S cx cz L cs hl] at hi
  rw [layV_at hi L cs (fun p hp => by rw [hL] at hp; exact (List.mem_filter.1 hp).2), applyN_at _ _ _ _ _ hi]
  unfold applyAt oreAt
  rw [hL, pickL_filter, ← paint_list, paint_of (by omega) (by omega) (by omega)]
  by_cases h1 : cs.getD i 0 = 1
  · by_cases h2 : ofN S (cx * 16 + (i : Int) % 16) ((i : Int) / 256) (cz * 16 + (i : Int) / 16 % 16) = 0
    · rw [if_pos h1, if_pos h2, if_neg (fun h => h.2 h2), h1]
    · rw [if_pos h1, if_neg h2, if_pos ⟨h1, h2⟩]
  · rw [if_neg h1, if_neg (fun h => h1 h.1)]
end Go.Proofs.Ytbcadklodjdokaa
