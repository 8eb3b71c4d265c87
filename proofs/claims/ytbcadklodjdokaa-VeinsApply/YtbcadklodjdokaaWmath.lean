/-
  Plain: veins of origins, the ore that a cell is of, a chunk with its ores.
-/
import Derived.Test.YtbcadklodjdokaaRMath
import Derived.Test.YtbcadklodjdokaaCPures
set_option maxRecDepth 20000
namespace Go.Proofs.Ytbcadklodjdokaa
open R

def vHas (h : Nat) : Bool := decide (belowN h 100 < 40)
def vOre (h : Nat) : Int := if h / 256 % 16 < 9 then 7 else if h / 256 % 16 < 14 then 8 else 9
def vReach (h : Nat) : Int := 1 + ((h / 33554432 % 2 : Nat) : Int)
def vX (h : Nat) (o : Int) : Int := 8 * o + ((h / 65536 % 8 : Nat) : Int)
def vY (h : Nat) (o : Int) : Int := 8 * o + ((h / 524288 % 8 : Nat) : Int)
def vZ (h : Nat) (o : Int) : Int := 8 * o + ((h / 4194304 % 8 : Nat) : Int)
def absI (n : Int) : Int := if n < 0 then -n else n
def awayN (a b c x y z : Int) : Int := absI (a - x) + absI (b - y) + absI (c - z)
/-- An origin's vein reaches a cell (P16.1). -/
def covH (h : Nat) (ox oy oz x y z : Int) : Bool := vHas h && decide (awayN (vX h ox) (vY h oy) (vZ h oz) x y z ≤ vReach h)
def covN (S : Nat) (ox oy oz x y z : Int) : Bool := covH (hashN S 30 ox oy oz) ox oy oz x y z
def oreN (S : Nat) (ox oy oz : Int) : Int := vOre (hashN S 30 ox oy oz)
theorem vOre_bd (h : Nat) : 7 ≤ vOre h ∧ vOre h ≤ 9 := by unfold vOre; split <;> (try split) <;> omega
theorem oreN_bd (S : Nat) (x y z : Int) : 7 ≤ oreN S x y z ∧ oreN S x y z ≤ 9 := vOre_bd _
theorem vReach_bd (h : Nat) : 1 ≤ vReach h ∧ vReach h ≤ 2 := by unfold vReach; omega
theorem absI_le {n m : Int} (h : absI n ≤ m) : -m ≤ n ∧ n ≤ m := by unfold absI at h; split at h <;> omega
theorem absI_pos (n : Int) : 0 ≤ absI n := by unfold absI; split <;> omega
theorem awayN_le {a b c x y z m : Int} (h : awayN a b c x y z ≤ m) : (-m ≤ a - x ∧ a - x ≤ m) ∧ (-m ≤ b - y ∧ b - y ≤ m) ∧ -m ≤ c - z ∧ c - z ≤ m := by
  unfold awayN at h
  have := absI_pos (a - x)
  have := absI_pos (b - y)
  have := absI_pos (c - z)
  exact ⟨absI_le (by omega), absI_le (by omega), absI_le (by omega)⟩
theorem vX_bd (h : Nat) (o : Int) : 8 * o ≤ vX h o ∧ vX h o ≤ 8 * o + 7 := by unfold vX; omega
theorem vY_bd (h : Nat) (o : Int) : 8 * o ≤ vY h o ∧ vY h o ≤ 8 * o + 7 := by unfold vY; omega
theorem vZ_bd (h : Nat) (o : Int) : 8 * o ≤ vZ h o ∧ vZ h o ≤ 8 * o + 7 := by unfold vZ; omega
/-- A vein reaches cells of its own origin and of those about it alone. -/
theorem cov_near {S : Nat} {ox oy oz x y z : Int} (h : covN S ox oy oz x y z = true) : (x / 8 - 1 ≤ ox ∧ ox ≤ x / 8 + 1) ∧ (y / 8 - 1 ≤ oy ∧ oy ≤ y / 8 + 1) ∧ z / 8 - 1 ≤ oz ∧ oz ≤ z / 8 + 1 := by
  unfold covN covH at h
  simp only [Bool.and_eq_true, decide_eq_true_eq] at h
  have h1 := awayN_le h.2
  have := vReach_bd (hashN S 30 ox oy oz)
  have := vX_bd (hashN S 30 ox oy oz) ox
  have := vY_bd (hashN S 30 ox oy oz) oy
  have := vZ_bd (hashN S 30 ox oy oz) oz
  omega

/-! ### the first of several -/
def pick (cov : Nat → Bool) (val : Nat → Int) (d : Int) : Nat → Nat → Int
  | 0, _ => d
  | k + 1, i => if cov i = true then val i else pick cov val d k (i + 1)
section
variable {cov : Nat → Bool} {val : Nat → Int} {d : Int}
theorem pick_none : ∀ (k i : Nat), (∀ j, i ≤ j → j < i + k → cov j = false) → pick cov val d k i = d
  | 0, _, _ => rfl
  | k + 1, i, h => by
    unfold pick
    rw [if_neg (by rw [h i (by omega) (by omega)]; exact Bool.false_ne_true)]
    exact pick_none k (i + 1) fun j h1 h2 => h j (by omega) (by omega)
theorem pick_first : ∀ (k i n : Nat), i ≤ n → n < i + k → cov n = true → (∀ j, i ≤ j → j < n → cov j = false) → pick cov val d k i = val n
  | 0, i, n, h1, h2, _, _ => by omega
  | k + 1, i, n, h1, h2, h3, h4 => by
    unfold pick
    by_cases e : i = n
    · subst e; rw [if_pos h3]
    · rw [if_neg (by rw [h4 i (by omega) (by omega)]; exact Bool.false_ne_true)]
      exact pick_first k (i + 1) n (by omega) (by omega) h3 fun j h5 h6 => h4 j (by omega) h6
theorem pick_cases : ∀ (k i : Nat), (∃ n, i ≤ n ∧ n < i + k ∧ cov n = true ∧ (∀ j, i ≤ j → j < n → cov j = false) ∧ pick cov val d k i = val n) ∨ ((∀ j, i ≤ j → j < i + k → cov j = false) ∧ pick cov val d k i = d)
  | 0, i => .inr ⟨fun j h1 h2 => by omega, rfl⟩
  | k + 1, i => by
    rcases hc : cov i with _ | _
    · have e : pick cov val d (k + 1) i = pick cov val d k (i + 1) := by
        conv => lhs; unfold pick
        rw [if_neg (by rw [hc]; exact Bool.false_ne_true)]
      rw [e]
      rcases pick_cases k (i + 1) with ⟨n, h1, h2, h3, h4, h5⟩ | ⟨h1, h2⟩
      · refine .inl ⟨n, by omega, by omega, h3, fun j h6 h7 => ?_, h5⟩
        by_cases e : j = i
        · rw [e]; exact hc
        · exact h4 j (by omega) h7
      · refine .inr ⟨fun j h3 h4 => ?_, h2⟩
        by_cases e : j = i
        · rw [e]; exact hc
        · exact h1 j (by omega) (by omega)
    · exact .inl ⟨i, Nat.le_refl _, by omega, hc, fun j h1 h2 => by omega, by unfold pick; rw [if_pos hc]⟩
end
/-! ### the ore of a cell (P16.2) -/
def c27 (S : Nat) (x y z : Int) (i : Nat) : Bool := covN S (x / 8 + (i : Int) % 3 - 1) (y / 8 + (i : Int) / 9 - 1) (z / 8 + (i : Int) / 3 % 3 - 1) x y z
def o27 (S : Nat) (x y z : Int) (i : Nat) : Int := oreN S (x / 8 + (i : Int) % 3 - 1) (y / 8 + (i : Int) / 9 - 1) (z / 8 + (i : Int) / 3 % 3 - 1)
def ofN (S : Nat) (x y z : Int) : Int := pick (c27 S x y z) (o27 S x y z) 0 27 0
theorem ofN_bd (S : Nat) (x y z : Int) : ofN S x y z = 0 ∨ (7 ≤ ofN S x y z ∧ ofN S x y z ≤ 9) := by
  unfold ofN
  rcases pick_cases (cov := c27 S x y z) (val := o27 S x y z) (d := 0) 27 0 with ⟨n, _, _, _, _, h⟩ | ⟨_, h⟩
  · rw [h]; exact .inr (oreN_bd _ _ _ _)
  · exact .inl h
theorem ofN_first {S : Nat} {x y z : Int} {n : Nat} (hn : n < 27) (h : c27 S x y z n = true) (h0 : ∀ j, j < n → c27 S x y z j = false) : ofN S x y z = o27 S x y z n :=
  pick_first 27 0 n (by omega) (by omega) h fun j _ hj => h0 j hj
theorem ofN_none {S : Nat} {x y z : Int} (h0 : ∀ j, j < 27 → c27 S x y z j = false) : ofN S x y z = 0 := pick_none 27 0 fun j _ hj => h0 j (by omega)
/-! ### origins of a chunk -/
def c288 (S : Nat) (cx cz x y z : Int) (i : Nat) : Bool := covN S (cx * 2 + (i : Int) % 4 - 1) ((i : Int) / 16 - 1) (cz * 2 + (i : Int) / 4 % 4 - 1) x y z
def o288 (S : Nat) (cx cz : Int) (i : Nat) : Int := oreN S (cx * 2 + (i : Int) % 4 - 1) ((i : Int) / 16 - 1) (cz * 2 + (i : Int) / 4 % 4 - 1)
/-- What a cell is painted by the origins from number I on. -/
def paintN (S : Nat) (cx cz x y z d : Int) (I : Nat) : Int := pick (c288 S cx cz x y z) (o288 S cx cz) d (288 - I) I
theorem digits3 (j : Nat) (hj : j < 27) : ∃ a b c : Int, (j : Int) % 3 = a ∧ (j : Int) / 3 % 3 = b ∧ (j : Int) / 9 = c ∧ (j : Int) = 9 * c + 3 * b + a ∧ (0 ≤ a ∧ a ≤ 2) ∧ (0 ≤ b ∧ b ≤ 2) ∧ 0 ≤ c ∧ c ≤ 2 :=
  ⟨_, _, _, rfl, rfl, rfl, by omega, by omega, by omega, by omega, by omega⟩
theorem digits4 (m : Nat) (hm : m < 288) : ∃ a b c : Int, (m : Int) % 4 = a ∧ (m : Int) / 4 % 4 = b ∧ (m : Int) / 16 = c ∧ (m : Int) = 16 * c + 4 * b + a ∧ (0 ≤ a ∧ a ≤ 3) ∧ (0 ≤ b ∧ b ≤ 3) ∧ 0 ≤ c ∧ c ≤ 17 :=
  ⟨_, _, _, rfl, rfl, rfl, by omega, by omega, by omega, by omega, by omega⟩
theorem make4 (a b c : Int) (ha : 0 ≤ a ∧ a ≤ 3) (hb : 0 ≤ b ∧ b ≤ 3) (hc : 0 ≤ c ∧ c ≤ 17) : ∃ m : Nat, m < 288 ∧ (m : Int) = 16 * c + 4 * b + a ∧ (m : Int) % 4 = a ∧ (m : Int) / 4 % 4 = b ∧ (m : Int) / 16 = c :=
  ⟨(16 * c + 4 * b + a).toNat, by omega, by omega, by omega, by omega, by omega⟩
theorem make3 (a b c : Int) (ha : 0 ≤ a ∧ a ≤ 2) (hb : 0 ≤ b ∧ b ≤ 2) (hc : 0 ≤ c ∧ c ≤ 2) : ∃ m : Nat, m < 27 ∧ (m : Int) = 9 * c + 3 * b + a ∧ (m : Int) % 3 = a ∧ (m : Int) / 3 % 3 = b ∧ (m : Int) / 9 = c :=
  ⟨(9 * c + 3 * b + a).toNat, by omega, by omega, by omega, by omega, by omega⟩
theorem lex_up {a b c a' b' c' : Int} (ha : 0 ≤ a ∧ a ≤ 2) (hb : 0 ≤ b ∧ b ≤ 2) (ha' : 0 ≤ a' ∧ a' ≤ 2) (hb' : 0 ≤ b' ∧ b' ≤ 2) (h : 9 * c + 3 * b + a < 9 * c' + 3 * b' + a') : 16 * c + 4 * b + a < 16 * c' + 4 * b' + a' := by
  by_cases h1 : c < c'
  · omega
  · have : c = c' := by omega
    by_cases h2 : b < b'
    · omega
    · omega
theorem eighth (x cx : Int) (hx : cx * 16 ≤ x ∧ x ≤ cx * 16 + 15) : cx * 2 ≤ x / 8 ∧ x / 8 ≤ cx * 2 + 1 := by omega
theorem first_cases (cov : Nat → Bool) : ∀ k, (∃ n, n < k ∧ cov n = true ∧ ∀ j, j < n → cov j = false) ∨ ∀ j, j < k → cov j = false
  | 0 => .inr fun j h => by omega
  | k + 1 => by
    rcases first_cases cov k with ⟨n, h1, h2, h3⟩ | h
    · exact .inl ⟨n, by omega, h2, h3⟩
    · rcases hc : cov k with _ | _
      · exact .inr fun j hj => by
          by_cases e : j = k
          · rw [e]; exact hc
          · exact h j (by omega)
      · exact .inl ⟨k, by omega, hc, h⟩
section
variable (f : Int → Int → Int → Bool) (cx cz X Y Z : Int)
def f27 (i : Nat) : Bool := f (X + (i : Int) % 3 - 1) (Y + (i : Int) / 9 - 1) (Z + (i : Int) / 3 % 3 - 1)
def f288 (i : Nat) : Bool := f (cx * 2 + (i : Int) % 4 - 1) ((i : Int) / 16 - 1) (cz * 2 + (i : Int) / 4 % 4 - 1)
variable {f cx cz X Y Z}
theorem up_first (ex : cx * 2 ≤ X ∧ X ≤ cx * 2 + 1) (ez : cz * 2 ≤ Z ∧ Z ≤ cz * 2 + 1) (ey : 0 ≤ Y ∧ Y ≤ 15) {j : Nat} (hj : j < 27) (hc : f27 f X Y Z j = true) :
    ∃ i, i < 288 ∧ f288 f cx cz i = true ∧ ∃ a b c : Int, (j : Int) = 9 * c + 3 * b + a ∧ (0 ≤ a ∧ a ≤ 2) ∧ (0 ≤ b ∧ b ≤ 2) ∧ (i : Int) = 16 * (c + Y) + 4 * (b + (Z - cz * 2)) + (a + (X - cx * 2)) := by
  obtain ⟨a, b, c, e1, e2, e3, e4, h1, h2, h3⟩ := digits3 j hj
  unfold f27 at hc
  rw [e1, e2, e3] at hc
  obtain ⟨i, hi, f1, f2, f3, f4⟩ := make4 (a + (X - cx * 2)) (b + (Z - cz * 2)) (c + Y) (by omega) (by omega) (by omega)
  refine ⟨i, hi, ?_, a, b, c, e4, h1, h2, f1⟩
  unfold f288
  rw [f2, f3, f4, show cx * 2 + (a + (X - cx * 2)) - 1 = X + a - 1 by omega, show c + Y - 1 = Y + c - 1 by omega, show cz * 2 + (b + (Z - cz * 2)) - 1 = Z + b - 1 by omega]
  exact hc
theorem lo_first {i m : Nat} {a b c A B C p q r : Int} (hA : 0 ≤ A - p ∧ A - p ≤ 2) (hB : 0 ≤ B - q ∧ B - q ≤ 2) (k2 : 0 ≤ a ∧ a ≤ 2) (k3 : 0 ≤ b ∧ b ≤ 2) {j n : Nat} (hj : j < n) (g1 : (n : Int) = 9 * (C - r) + 3 * (B - q) + (A - p)) (k1 : (j : Int) = 9 * c + 3 * b + a) (k4 : (i : Int) = 16 * (c + r) + 4 * (b + q) + (a + p)) (e4 : (m : Int) = 16 * C + 4 * B + A) : i < m := by
  have hl := lex_up (a := a) (b := b) (c := c) (a' := A - p) (b' := B - q) (c' := C - r) k2 k3 hA hB (by omega)
  clear k1 g1 k2 k3 hA hB hj
  omega
/-- The first one of the chunk's that reaches is the first one of those about the cell. -/
theorem both_dig (ex : cx * 2 ≤ X ∧ X ≤ cx * 2 + 1) (ez : cz * 2 ≤ Z ∧ Z ≤ cz * 2 + 1) (ey : 0 ≤ Y ∧ Y ≤ 15) {m : Nat} {A B C : Int} (e4 : (m : Int) = 16 * C + 4 * B + A) (hc' : f (cx * 2 + A - 1) (C - 1) (cz * 2 + B - 1) = true)
    (hA : 0 ≤ A - (X - cx * 2) ∧ A - (X - cx * 2) ≤ 2) (hB : 0 ≤ B - (Z - cz * 2) ∧ B - (Z - cz * 2) ≤ 2) (hC : 0 ≤ C - Y ∧ C - Y ≤ 2) (hf : ∀ j, j < m → f288 f cx cz j = false) :
    ∃ n, n < 27 ∧ f27 f X Y Z n = true ∧ (∀ j, j < n → f27 f X Y Z j = false) ∧ X + (n : Int) % 3 - 1 = cx * 2 + A - 1 ∧ Y + (n : Int) / 9 - 1 = C - 1 ∧ Z + (n : Int) / 3 % 3 - 1 = cz * 2 + B - 1 := by
  have q1 : X + (A - (X - cx * 2)) - 1 = cx * 2 + A - 1 := by omega
  have q2 : Y + (C - Y) - 1 = C - 1 := by omega
  have q3 : Z + (B - (Z - cz * 2)) - 1 = cz * 2 + B - 1 := by omega
  obtain ⟨n, hn, g1, g2, g3, g4⟩ := make3 (A - (X - cx * 2)) (B - (Z - cz * 2)) (C - Y) hA hB hC
  have hcn : f27 f X Y Z n = true := by unfold f27; rw [g2, g3, g4, q1, q2, q3]; exact hc'
  refine ⟨n, hn, hcn, fun j hj => ?_, by rw [g2, q1], by rw [g4, q2], by rw [g3, q3]⟩
  rcases hcj : f27 f X Y Z j with _ | _
  · rfl
  exfalso
  obtain ⟨i, hi, hci, a, b, c, k1, k2, k3, k4⟩ := up_first ex ez ey (Nat.lt_trans hj hn) hcj
  rw [hf i (lo_first hA hB k2 k3 hj g1 k1 k4 e4)] at hci
  cases hci
theorem both_first (ex : cx * 2 ≤ X ∧ X ≤ cx * 2 + 1) (ez : cz * 2 ≤ Z ∧ Z ≤ cz * 2 + 1) (ey : 0 ≤ Y ∧ Y ≤ 15) (near : ∀ a b c, f a b c = true → (X - 1 ≤ a ∧ a ≤ X + 1) ∧ (Y - 1 ≤ b ∧ b ≤ Y + 1) ∧ Z - 1 ≤ c ∧ c ≤ Z + 1) {m : Nat} (hm : m < 288) (hc : f288 f cx cz m = true) (hf : ∀ j, j < m → f288 f cx cz j = false) :
    ∃ n, n < 27 ∧ f27 f X Y Z n = true ∧ (∀ j, j < n → f27 f X Y Z j = false) ∧ X + (n : Int) % 3 - 1 = cx * 2 + (m : Int) % 4 - 1 ∧ Y + (n : Int) / 9 - 1 = (m : Int) / 16 - 1 ∧ Z + (n : Int) / 3 % 3 - 1 = cz * 2 + (m : Int) / 4 % 4 - 1 := by
  obtain ⟨A, B, C, e1, e2, e3, e4, _, _, _⟩ := digits4 m hm
  unfold f288 at hc
  rw [e1, e2, e3] at hc ⊢
  clear e1 e2 e3
  obtain ⟨n1, n2, n3⟩ := near _ _ _ hc
  exact both_dig ex ez ey e4 hc (by clear ez ey e4 n2 n3; omega) (by clear ex ey e4 n1 n2; omega) (by clear ex ez e4 n1 n3; omega) hf
end
/-- Painted by all origins of its chunk, a cell is of the ore that it asks for itself. -/
theorem paint_of {S : Nat} {cx cz x y z d : Int} (hx : cx * 16 ≤ x ∧ x ≤ cx * 16 + 15) (hy : 0 ≤ y ∧ y ≤ 127) (hz : cz * 16 ≤ z ∧ z ≤ cz * 16 + 15) : paintN S cx cz x y z d 0 = if ofN S x y z = 0 then d else ofN S x y z := by
  have ex := eighth x cx hx
  have ez := eighth z cz hz
  have ey : 0 ≤ y / 8 ∧ y / 8 ≤ 15 := by omega
  clear hx hy hz
  have near := fun a b c => cov_near (S := S) (ox := a) (oy := b) (oz := c) (x := x) (y := y) (z := z)
  rcases first_cases (f288 (fun a b c => covN S a b c x y z) cx cz) 288 with ⟨m, hm, hc, hf⟩ | hf
  · obtain ⟨n, hn, hcn, hfn, q1, q2, q3⟩ := both_first ex ez ey near hm hc hf
    have h1 : ofN S x y z = o27 S x y z n := ofN_first hn hcn hfn
    have h2 : o27 S x y z n = o288 S cx cz m := by unfold o27 o288; rw [q1, q2, q3]
    have h3 : paintN S cx cz x y z d 0 = o288 S cx cz m := pick_first (288 - 0) 0 m (Nat.zero_le _) (by omega) hc fun j _ hj => hf j hj
    have h4 : o288 S cx cz m ≠ 0 := fun h => by have h5 : 7 ≤ o288 S cx cz m := (oreN_bd S _ _ _).1; rw [h] at h5; exact absurd h5 (by decide)
    rw [h3, h1, h2, if_neg h4]
  · have h1 : ofN S x y z = 0 := ofN_none fun j hj => by
      rcases hcj : c27 S x y z j with _ | _
      · rfl
      exfalso
      obtain ⟨i, hi, hci, _⟩ := up_first (f := fun a b c => covN S a b c x y z) ex ez ey hj hcj
      rw [hf i hi] at hci
      cases hci
    have h3 : paintN S cx cz x y z d 0 = d := pick_none (288 - 0) 0 fun j _ hj => hf j (by omega)
    rw [h3, h1, if_pos rfl]
/-! ### a chunk with its ores (P16.3) -/
def oreAt (S : Nat) (cx cz : Int) (i : Nat) : Int := ofN S (cx * 16 + (i : Int) % 16) ((i : Int) / 256) (cz * 16 + (i : Int) / 16 % 16)
def applyAt (S : Nat) (cx cz : Int) (cs : List Int) (i : Nat) : Int := if cs.getD i 0 = 1 ∧ oreAt S cx cz i ≠ 0 then oreAt S cx cz i else cs.getD i 0
def applyN (S : Nat) (cx cz : Int) (cs : List Int) : List Int := (List.range 32768).map (applyAt S cx cz cs)
theorem range_getI (f : Nat → Int) (n j : Nat) (h : j < n) : ((List.range n).map f).getD j 0 = f j := by
  rw [List.getD_eq_getElem?_getD, List.getElem?_map, List.getElem?_range h]
  rfl
theorem range_congr {f g : Nat → Int} (n : Nat) (h : ∀ i, i < n → f i = g i) : (List.range n).map f = (List.range n).map g := List.map_congr_left fun i hi => h i (List.mem_range.1 hi)
theorem range_len (f : Nat → Int) (n : Nat) : ((List.range n).map f).length = n := by simp
theorem applyN_len (S : Nat) (cx cz : Int) (cs : List Int) : (applyN S cx cz cs).length = 32768 := range_len _ 32768
theorem applyN_at (S : Nat) (cx cz : Int) (cs : List Int) (i : Nat) (h : i < 32768) : (applyN S cx cz cs).getD i 0 = applyAt S cx cz cs i := range_getI _ 32768 i h
theorem apply_says (S : Nat) (cx cz : Int) (cs : List Int) (i : Nat) : applyAt S cx cz cs i = cs.getD i 0 ∨ (cs.getD i 0 = 1 ∧ 7 ≤ applyAt S cx cz cs i ∧ applyAt S cx cz cs i ≤ 9) := by
  unfold applyAt
  split
  · rename_i h
    rcases ofN_bd S (cx * 16 + (i : Int) % 16) ((i : Int) / 256) (cz * 16 + (i : Int) / 16 % 16) with e | e
    · exact absurd e h.2
    · exact .inr ⟨h.1, e⟩
  · exact .inl rfl
theorem apply_kinds {S : Nat} {cx cz : Int} {cs : List Int} (hk : C.Kinds cs) : C.Kinds (applyN S cx cz cs) := fun x hx => by
  unfold applyN at hx
  obtain ⟨i, _, rfl⟩ := List.mem_map.1 hx
  have := hk.at i
  rcases apply_says S cx cz cs i with h | h <;> omega
/-- Once more changes nothing. -/
theorem apply_twice (S : Nat) (cx cz : Int) (cs : List Int) : applyN S cx cz (applyN S cx cz cs) = applyN S cx cz cs := by
  have h : ∀ i, i < 32768 → applyAt S cx cz (applyN S cx cz cs) i = applyAt S cx cz cs i := fun i hi => by
    have e := applyN_at S cx cz cs i hi
    show (if (applyN S cx cz cs).getD i 0 = 1 ∧ oreAt S cx cz i ≠ 0 then oreAt S cx cz i else (applyN S cx cz cs).getD i 0) = _
    rw [e]
    split
    · rename_i h
      exfalso
      unfold applyAt at h
      split at h
      · rename_i h'
        rcases ofN_bd S (cx * 16 + (i : Int) % 16) ((i : Int) / 256) (cz * 16 + (i : Int) / 16 % 16) with q | q
        · exact h'.2 q
        · have : oreAt S cx cz i = 1 := h.1
          unfold oreAt at this
          omega
      · rename_i h'
        exact h' h
    · rfl
  exact range_congr 32768 h
/-! ### numbers of kinds -/
open C in
theorem cnt_says (cs ds : List Int) (M : Nat) (h : ∀ k, k < M → ds.getD k 0 = cs.getD k 0 ∨ (cs.getD k 0 = 1 ∧ 7 ≤ ds.getD k 0 ∧ ds.getD k 0 ≤ 9)) : ∀ n, n ≤ M →
    cnt ds 1 n ≤ cnt cs 1 n ∧ cnt ds 1 n + cnt ds 7 n + cnt ds 8 n + cnt ds 9 n = cnt cs 1 n + cnt cs 7 n + cnt cs 8 n + cnt cs 9 n
  | 0, _ => ⟨Int.le_refl _, rfl⟩
  | n + 1, hn => by
    obtain ⟨h1, h2⟩ := cnt_says cs ds M h n (by omega)
    unfold cnt
    rcases h n (by omega) with e | ⟨e, h3, h4⟩
    · rw [e]
      constructor
      · omega
      · omega
    · rw [e]
      have : ds.getD n 0 = 7 ∨ ds.getD n 0 = 8 ∨ ds.getD n 0 = 9 := by omega
      rcases this with q | q | q <;> rw [q] <;> simp <;> omega
open C in
theorem cnt_apply (S : Nat) (cx cz : Int) (cs : List Int) :
    cnt (applyN S cx cz cs) 1 32768 ≤ cnt cs 1 32768 ∧ cnt (applyN S cx cz cs) 1 32768 + cnt (applyN S cx cz cs) 7 32768 + cnt (applyN S cx cz cs) 8 32768 + cnt (applyN S cx cz cs) 9 32768 = cnt cs 1 32768 + cnt cs 7 32768 + cnt cs 8 32768 + cnt cs 9 32768 :=
  cnt_says cs (applyN S cx cz cs) 32768 (fun k hk => by rw [applyN_at S cx cz cs k hk]; exact apply_says S cx cz cs k) 32768 (Nat.le_refl _)
/-- How many of the first n numbers a list has. -/
def hits (L : List Int) : Nat → Nat
  | 0 => 0
  | n + 1 => hits L n + if (n : Int) ∈ L then 1 else 0
theorem hits_cons (a : Int) (L : List Int) : ∀ n : Nat, hits (a :: L) n ≤ hits L n + (if a < n then 1 else 0)
  | 0 => by unfold hits; omega
  | n + 1 => by
    have ih := hits_cons a L n
    unfold hits
    by_cases h : (n : Int) ∈ L
    · rw [if_pos h, if_pos (List.mem_cons_of_mem _ h)]
      split at ih <;> split <;> omega
    · rw [if_neg h]
      by_cases e : (n : Int) = a
      · rw [if_pos (by rw [e]; exact List.mem_cons_self)]
        rw [if_neg (by omega)] at ih
        rw [if_pos (by omega)]
        omega
      · rw [if_neg (by simp [e, h])]
        split at ih <;> split <;> omega
theorem hits_le (L : List Int) (n : Nat) : hits L n ≤ L.length := by
  induction L with
  | nil => induction n with
    | zero => exact Nat.le_refl _
    | succ n ih => unfold hits; simpa using ih
  | cons a L ih =>
    have := hits_cons a L n
    rw [List.length_cons]
    split at this <;> omega
open C in
theorem cnt_hits (cs : List Int) (j : Int) (L : List Int) (m : Nat) (h : ∀ k, k < m → cs.getD k 0 = j ∨ (k : Int) ∈ L) : ∀ n : Nat, n ≤ m → (n : Int) ≤ cnt cs j n + hits L n
  | 0, _ => by unfold cnt hits; omega
  | n + 1, hn => by
    have ih := cnt_hits cs j L m h n (by omega)
    unfold cnt hits
    rcases h n (by omega) with e | e
    · rw [if_pos e]; split <;> omega
    · rw [if_pos e]; split <;> omega
/-- The cells at most two away from a middle. -/
def ball : List (Int × Int × Int) := [(0,0,0),(1,0,0),(-1,0,0),(0,1,0),(0,-1,0),(0,0,1),(0,0,-1),(2,0,0),(-2,0,0),(0,2,0),(0,-2,0),(0,0,2),(0,0,-2),(1,1,0),(1,-1,0),(-1,1,0),(-1,-1,0),(1,0,1),(1,0,-1),(-1,0,1),(-1,0,-1),(0,1,1),(0,1,-1),(0,-1,1),(0,-1,-1)]
theorem ball_all : ∀ a : Fin 5, ∀ b : Fin 5, ∀ c : Fin 5, absI ((a.val : Int) - 2) + absI ((b.val : Int) - 2) + absI ((c.val : Int) - 2) ≤ 2 → (((a.val : Int) - 2, (b.val : Int) - 2, (c.val : Int) - 2) : Int × Int × Int) ∈ ball := by decide
theorem ball_in {a b c : Int} (h : absI a + absI b + absI c ≤ 2) : ((a, b, c) : Int × Int × Int) ∈ ball := by
  have p1 := absI_pos a
  have p2 := absI_pos b
  have p3 := absI_pos c
  obtain ⟨a1, a2⟩ := absI_le (n := a) (m := 2) (by omega)
  obtain ⟨b1, b2⟩ := absI_le (n := b) (m := 2) (by omega)
  obtain ⟨c1, c2⟩ := absI_le (n := c) (m := 2) (by omega)
  have := ball_all ⟨(a + 2).toNat, by omega⟩ ⟨(b + 2).toNat, by omega⟩ ⟨(c + 2).toNat, by omega⟩
  simp only [] at this
  rw [show (((a + 2).toNat : Nat) : Int) - 2 = a by omega, show (((b + 2).toNat : Nat) : Int) - 2 = b by omega, show (((c + 2).toNat : Nat) : Int) - 2 = c by omega] at this
  exact this h
/-- The places that the veins of a chunk's origins may reach. -/
def reachL (S : Nat) : List Int := (List.range 288).flatMap fun (i : Nat) => ball.map fun d =>
  let h := hashN S 30 (0 * 2 + (i : Int) % 4 - 1) ((i : Int) / 16 - 1) (0 * 2 + (i : Int) / 4 % 4 - 1)
  (vY h ((i : Int) / 16 - 1) + d.2.1) * 256 + (vZ h (0 * 2 + (i : Int) / 4 % 4 - 1) + d.2.2) * 16 + (vX h (0 * 2 + (i : Int) % 4 - 1) + d.1)
theorem flat_len {α : Type} (f : Nat → List α) (m : Nat) (hf : ∀ i, (f i).length = m) : ∀ n, ((List.range n).flatMap f).length = n * m
  | 0 => by simp
  | n + 1 => by
    rw [List.range_succ, List.flatMap_append, List.length_append, flat_len f m hf n]
    simp [hf]
    rw [Nat.add_mul, Nat.one_mul]
theorem reachL_len (S : Nat) : (reachL S).length = 7200 := flat_len _ 25 (fun i => by rw [List.length_map]; rfl) 288
theorem reach_of {S : Nat} {i : Nat} (hi : i < 32768) (h : oreAt S 0 0 i ≠ 0) : (i : Int) ∈ reachL S := by
  rcases first_cases (c288 S 0 0 (0 * 16 + (i : Int) % 16) ((i : Int) / 256) (0 * 16 + (i : Int) / 16 % 16)) 288 with ⟨m, hm, hc, _⟩ | hf
  · clear h
    unfold reachL
    refine List.mem_flatMap.2 ⟨m, List.mem_range.2 hm, List.mem_map.2 ?_⟩
    have hc' : covN S (0 * 2 + (m : Int) % 4 - 1) ((m : Int) / 16 - 1) (0 * 2 + (m : Int) / 4 % 4 - 1) (0 * 16 + (i : Int) % 16) ((i : Int) / 256) (0 * 16 + (i : Int) / 16 % 16) = true := hc
    unfold covN covH at hc'
    simp only [Bool.and_eq_true, decide_eq_true_eq] at hc'
    have hr := vReach_bd (hashN S 30 (0 * 2 + (m : Int) % 4 - 1) ((m : Int) / 16 - 1) (0 * 2 + (m : Int) / 4 % 4 - 1))
    have h2 := hc'.2
    clear hc hc'
    show ∃ a ∈ ball, (vY (hashN S 30 (0 * 2 + (m : Int) % 4 - 1) ((m : Int) / 16 - 1) (0 * 2 + (m : Int) / 4 % 4 - 1)) ((m : Int) / 16 - 1) + a.2.1) * 256 + (vZ (hashN S 30 (0 * 2 + (m : Int) % 4 - 1) ((m : Int) / 16 - 1) (0 * 2 + (m : Int) / 4 % 4 - 1)) (0 * 2 + (m : Int) / 4 % 4 - 1) + a.2.2) * 16 + (vX (hashN S 30 (0 * 2 + (m : Int) % 4 - 1) ((m : Int) / 16 - 1) (0 * 2 + (m : Int) / 4 % 4 - 1)) (0 * 2 + (m : Int) % 4 - 1) + a.1) = (i : Int)
    generalize hashN S 30 (0 * 2 + (m : Int) % 4 - 1) ((m : Int) / 16 - 1) (0 * 2 + (m : Int) / 4 % 4 - 1) = H at *
    generalize vX H (0 * 2 + (m : Int) % 4 - 1) = A at *
    generalize vY H ((m : Int) / 16 - 1) = B at *
    generalize vZ H (0 * 2 + (m : Int) / 4 % 4 - 1) = D at *
    generalize vReach H = R at *
    refine ⟨(0 * 16 + (i : Int) % 16 - A, (i : Int) / 256 - B, 0 * 16 + (i : Int) / 16 % 16 - D), ball_in ?_, ?_⟩
    · unfold awayN at h2
      have neg : ∀ a b : Int, absI (a - b) = absI (b - a) := fun a b => by unfold absI; split <;> split <;> omega
      rw [neg A, neg B, neg D] at h2
      omega
    · show (B + ((i : Int) / 256 - B)) * 256 + (D + (0 * 16 + (i : Int) / 16 % 16 - D)) * 16 + (A + (0 * 16 + (i : Int) % 16 - A)) = (i : Int)
      omega
  · have hp := paint_of (S := S) (cx := 0) (cz := 0) (x := 0 * 16 + (i : Int) % 16) (y := (i : Int) / 256) (z := 0 * 16 + (i : Int) / 16 % 16) (d := 0) (by omega) (by omega) (by omega)
    rw [if_neg (show ofN S (0 * 16 + (i : Int) % 16) ((i : Int) / 256) (0 * 16 + (i : Int) / 16 % 16) ≠ 0 from h)] at hp
    have h3 : paintN S 0 0 (0 * 16 + (i : Int) % 16) ((i : Int) / 256) (0 * 16 + (i : Int) / 16 % 16) 0 0 = 0 := pick_none (288 - 0) 0 fun j _ hj => hf j (by omega)
    exact absurd (hp.symm.trans h3) h
end Go.Proofs.Ytbcadklodjdokaa