/-
  Plain: how high the ground is, what land it is, a chunk's map; the ground of two columns side by side.
-/
import Derived.Test.YtajjaeaknonmfaaNRocts
set_option maxRecDepth 20000
namespace Go.Proofs.Ytajjaeaknonmfaa
open N Go.RowKit

def hOf (S : Nat) (x z : Int) : Int := 20 + 72 * octN S 10 x z 6 4 / 65536
def bandOf (S : Nat) (x z : Int) : Int := if octN S 11 x z 7 2 < 16000 then 2 else if octN S 11 x z 7 2 < 25000 then 0 else if octN S 11 x z 7 2 < 36000 then 1 else 3
theorem hOf_bd (S : Nat) (x z : Int) : 20 ≤ hOf S x z ∧ hOf S x z ≤ 91 := by
  have := octN_bd S 10 x z 6 4
  unfold hOf
  omega
theorem bandOf_bd (S : Nat) (x z : Int) : 0 ≤ bandOf S x z ∧ bandOf S x z ≤ 3 := by
  unfold bandOf
  repeat' split
  all_goals omega
def mapH (S : Nat) (x z : Int) : List Int := (List.range 256).map fun (i : Nat) => hOf S (x * 16 + (i : Int) % 16) (z * 16 + (i : Int) / 16)
def mapB (S : Nat) (x z : Int) : List Int := (List.range 256).map fun (i : Nat) => bandOf S (x * 16 + (i : Int) % 16) (z * 16 + (i : Int) / 16)
theorem mapH_len (S : Nat) (x z : Int) : (mapH S x z).length = 256 := by simp [mapH]
theorem mapB_len (S : Nat) (x z : Int) : (mapB S x z).length = 256 := by simp [mapB]
theorem mapH_at (S : Nat) (x z : Int) (i : Nat) (h : i < (mapH S x z).length) : (mapH S x z)[i] = hOf S (x * 16 + (i : Int) % 16) (z * 16 + (i : Int) / 16) := by simp [mapH]
theorem mapB_at (S : Nat) (x z : Int) (i : Nat) (h : i < (mapB S x z).length) : (mapB S x z)[i] = bandOf S (x * 16 + (i : Int) % 16) (z * 16 + (i : Int) / 16) := by simp [mapB]
/-! ### side by side -/
theorem flat_near (S : Nat) (stage x z : Int) {shift d : Int} (h0 : 0 ≤ shift) (h1 : shift ≤ 20) (hd : wide shift * d = 65536) :
    (flatN S stage (x + 1) z shift - flatN S stage x z shift ≤ 98304 / wide shift + 6 ∧ flatN S stage x z shift - flatN S stage (x + 1) z shift ≤ 98304 / wide shift + 6) ∧
    flatN S stage x (z + 1) shift - flatN S stage x z shift ≤ 98304 / wide shift + 6 ∧ flatN S stage x z shift - flatN S stage x (z + 1) shift ≤ 98304 / wide shift + 6 := by
  have hP := wide_bd h0 h1
  rw [flatN_in S stage _ _ h0 h1, flatN_in S stage _ _ h0 h1, flatN_in S stage _ _ h0 h1]
  exact ⟨slope_x _ (plane_bd S stage) x z (by omega) (.inl hd), slope_z _ (plane_bd S stage) x z (by omega) (.inl hd)⟩
theorem oct4 (S : Nat) (x z : Int) : octN S 10 x z 6 4 = flatN S 10 x z 6 / 2 + flatN S 110 x z 5 / 4 + flatN S 210 x z 4 / 8 + flatN S 310 x z 3 / 16 := by
  rw [octN_in S 10 x z (by omega) (by omega) (by omega) (by omega)]
  show octs S 10 x z 6 4 = _
  simp only [octs]
  have e1 : wrap64 (10 + 100 * ((0 : Nat) : Int)) = 10 := by decide +kernel
  have e2 : wrap64 (10 + 100 * ((0 + 1 : Nat) : Int)) = 110 := by decide +kernel
  have e3 : wrap64 (10 + 100 * ((0 + 1 + 1 : Nat) : Int)) = 210 := by decide +kernel
  have e4 : wrap64 (10 + 100 * ((0 + 1 + 1 + 1 : Nat) : Int)) = 310 := by decide +kernel
  rw [e1, e2, e3, e4]
  have f1 : (6 : Int) - ((0 : Nat) : Int) = 6 := by decide
  have f2 : (6 : Int) - ((0 + 1 : Nat) : Int) = 5 := by decide
  have f3 : (6 : Int) - ((0 + 1 + 1 : Nat) : Int) = 4 := by decide
  have f4 : (6 : Int) - ((0 + 1 + 1 + 1 : Nat) : Int) = 3 := by decide
  rw [f1, f2, f3, f4]
  have g1 : (2 : Int) ^ (0 + 1) = 2 := by decide
  have g2 : (2 : Int) ^ (0 + 1 + 1) = 4 := by decide
  have g3 : (2 : Int) ^ (0 + 1 + 1 + 1) = 8 := by decide
  have g4 : (2 : Int) ^ (0 + 1 + 1 + 1 + 1) = 16 := by decide
  rw [g1, g2, g3, g4]
  omega
theorem w6 : wide 6 = 64 := by decide
theorem w5 : wide 5 = 32 := by decide
theorem w4 : wide 4 = 16 := by decide
theorem w3 : wide 3 = 8 := by decide
theorem hOf_near (S : Nat) (x z : Int) : (hOf S x z - hOf S (x + 1) z ≤ 5 ∧ hOf S (x + 1) z - hOf S x z ≤ 5) ∧ hOf S x z - hOf S x (z + 1) ≤ 5 ∧ hOf S x (z + 1) - hOf S x z ≤ 5 := by
  obtain ⟨⟨a1, a2⟩, a3, a4⟩ := flat_near S 10 x z (shift := 6) (d := 1024) (by omega) (by omega) (by decide)
  obtain ⟨⟨b1, b2⟩, b3, b4⟩ := flat_near S 110 x z (shift := 5) (d := 2048) (by omega) (by omega) (by decide)
  obtain ⟨⟨c1, c2⟩, c3, c4⟩ := flat_near S 210 x z (shift := 4) (d := 4096) (by omega) (by omega) (by decide)
  obtain ⟨⟨d1, d2⟩, d3, d4⟩ := flat_near S 310 x z (shift := 3) (d := 8192) (by omega) (by omega) (by decide)
  rw [w6] at a1 a2 a3 a4
  rw [w5] at b1 b2 b3 b4
  rw [w4] at c1 c2 c3 c4
  rw [w3] at d1 d2 d3 d4
  unfold hOf
  rw [oct4, oct4, oct4]
  generalize flatN S 10 x z 6 = A at *
  generalize flatN S 110 x z 5 = B at *
  generalize flatN S 210 x z 4 = C at *
  generalize flatN S 310 x z 3 = D at *
  generalize flatN S 10 (x + 1) z 6 = A1 at *
  generalize flatN S 110 (x + 1) z 5 = B1 at *
  generalize flatN S 210 (x + 1) z 4 = C1 at *
  generalize flatN S 310 (x + 1) z 3 = D1 at *
  generalize flatN S 10 x (z + 1) 6 = A2 at *
  generalize flatN S 110 x (z + 1) 5 = B2 at *
  generalize flatN S 210 x (z + 1) 4 = C2 at *
  generalize flatN S 310 x (z + 1) 3 = D2 at *
  have key : ∀ P Q : Int, P - Q ≤ 4000 → 20 + 72 * P / 65536 - (20 + 72 * Q / 65536) ≤ 5 := fun P Q h => by omega
  refine ⟨⟨key _ _ ?_, key _ _ ?_⟩, key _ _ ?_, key _ _ ?_⟩ <;> omega
theorem wake0 : hOf 1 0 0 = 62 := by decide +kernel
theorem wake1 : hOf 1 50 0 = 58 := by decide +kernel
end Go.Proofs.Ytajjaeaknonmfaa