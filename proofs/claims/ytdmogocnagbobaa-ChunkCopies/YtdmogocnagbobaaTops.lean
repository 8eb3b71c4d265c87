/-
  Top and Get, of the program and of the document.
-/
import Derived.Test.YtdmogocnagbobaaSets
namespace Go.Proofs.Ytdmogocnagbobaa
open Go.RowKit

/-- All cells are kinds. -/
def Kinds (cs : List Int) : Prop := ∀ x ∈ cs, 0 ≤ x ∧ x ≤ 16
theorem Kinds.at {cs : List Int} (h : Kinds cs) (j : Nat) : 0 ≤ cs.getD j 0 ∧ cs.getD j 0 ≤ 16 := by
  rw [List.getD_eq_getElem?_getD]
  rcases e : cs[j]? with _ | x
  · simp
  · exact h x (List.mem_of_getElem? e)
/-- The highest y below n whose cell, p in its layer, is neither 0 nor 16. -/
def topTo (cs : List Int) (p : Nat) : Nat → Int
  | 0 => -1
  | n + 1 => if cs.getD (n * 256 + p) 0 = 0 ∨ cs.getD (n * 256 + p) 0 = 16 then topTo cs p n else n
def okCol (x z : Int) : Bool := decide (0 ≤ x ∧ x ≤ 15 ∧ 0 ≤ z ∧ z ≤ 15)
def topC (cs : List Int) (x z : Int) : Int := if okCol x z then topTo cs (z * 16 + x).toNat 128 else -1
theorem topC_no {x z : Int} (h : ¬ (0 ≤ x ∧ x ≤ 15 ∧ 0 ≤ z ∧ z ≤ 15)) (cs : List Int) : topC cs x z = -1 := by unfold topC okCol; rw [decide_eq_false h]; rfl
theorem topC_yes {X Z : Nat} (h : X ≤ 15 ∧ Z ≤ 15) (cs : List Int) : topC cs X Z = topTo cs (Z * 16 + X) 128 := by
  unfold topC okCol
  rw [decide_eq_true (by omega), if_pos rfl, show ((Z : Int) * 16 + X).toNat = Z * 16 + X by omega]
def getC (cs : List Int) (i : Int) : Int := if 0 ≤ i ∧ i < 32768 then cs.getD i.toNat 0 else -1

set_option maxRecDepth 100000 in
theorem rtop_c (g : Nat) (cs : List Int) (x z : Int) (w : World) (hB : Blk w g 5 cs) (hl : cs.length = 32768) :
    Calls Try.prog 15 #[.slice (some ⟨g, 0, none⟩) 32768 32768, .int .i64 x, .int .i64 z] w fun e w' => e = .returned (.int .i64 (topC cs x z)) ∧ w' = w := by
  by_cases hok : 0 ≤ x ∧ x ≤ 15 ∧ 0 ≤ z ∧ z ≤ 15
  · obtain ⟨i0, i1, i2, i3⟩ := hok
    obtain ⟨X, rfl⟩ := Int.eq_ofNat_of_zero_le i0
    obtain ⟨Z, rfl⟩ := Int.eq_ofNat_of_zero_le i2
    rw [topC_yes (by omega) cs]
    have n0 : ¬ (X : Int) < 0 := by omega
    have n1 : ¬ (15 < (X : Int)) := by omega
    have n2 : ¬ (Z : Int) < 0 := by omega
    have n3 : ¬ (15 < (Z : Int)) := by omega
    obtain ⟨R, hR⟩ : ∃ R, R = topTo cs (Z * 16 + X) 128 := ⟨_, rfl⟩
    rw [← hR]
    have HR : Hid (topTo cs (Z * 16 + X) 128 = R) := hR.symm
    clear hR
    go_enter Try.func15, Try.ntmps15
    go_wp2
    go_loop [7] (fun y => ∃ n : Nat, n ≤ 128 ∧ y = .int .i64 ((n : Int) - 1) ∧ Hid (topTo cs (Z * 16 + X) n = R)) (fun y => (intOf y + 1).toNat)
    case atStart => exact ⟨128, Nat.le_refl _, rfl, HR⟩
    case round =>
      obtain ⟨n, hn, rfl, HR⟩ := hrel
      rcases n with _ | n
      · have e : R = -1 := HR.out.symm
        subst e
        rw [show ((0 : Nat) : Int) - 1 = -1 from rfl]
        go_wp2
        go_ret
        exact ⟨rfl, rfl⟩
      · have hy : ((n + 1 : Nat) : Int) - 1 = n := by omega
        rw [hy]
        obtain ⟨J, hJ⟩ : ∃ J : Nat, J = n * 256 + (Z * 16 + X) := ⟨_, rfl⟩
        have hJ' : (n : Int) * 256 + (Z : Int) * 16 + X = J := by omega
        have hlt : J < 32768 := by omega
        have hc := hB.cell (k := J) (by omega)
        have hD := HR.out
        unfold topTo at hD
        rw [← hJ] at hD
        generalize cs.getD J 0 = v at hc hD
        have HD : Hid ((if v = 0 ∨ v = 16 then topTo cs (Z * 16 + X) n else (n : Int)) = R) := hD
        clear hD HR hJ hy
        have hn0 : (0 : Int) ≤ n := by omega
        by_cases v0 : v = 0
        · subst v0
          have HR' : Hid (topTo cs (Z * 16 + X) n = R) := by have := HD.out; rwa [if_pos (Or.inl rfl)] at this
          clear HD
          go_wp2
          go_round
          case rel => exact ⟨n, by omega, by first | rfl | go_num, HR'⟩
          case measure => simp [intOf]
        · by_cases v1 : v = 16
          · subst v1
            have HR' : Hid (topTo cs (Z * 16 + X) n = R) := by have := HD.out; rwa [if_pos (Or.inr rfl)] at this
            clear HD
            go_wp2
            go_round
            case rel => exact ⟨n, by omega, by first | rfl | go_num, HR'⟩
            case measure => simp [intOf]
          · have e : (n : Int) = R := by have := HD.out; rwa [if_neg (by simp [v0, v1])] at this
            have b0 : (v != 0) = true := by simp [v0]
            have b1 : (v != 16) = true := by simp [v1]
            subst e
            clear HD v0 v1
            go_wp2
            go_ret
            exact ⟨rfl, rfl⟩
  · rw [topC_no hok cs]
    by_cases i0 : x < 0
    · go_enter Try.func15, Try.ntmps15
      go_wp2
      go_ret
      exact ⟨rfl, rfl⟩
    · by_cases i1 : 15 < x
      · go_enter Try.func15, Try.ntmps15
        go_wp2
        go_ret
        exact ⟨rfl, rfl⟩
      · by_cases i2 : z < 0
        · go_enter Try.func15, Try.ntmps15
          go_wp2
          go_ret
          exact ⟨rfl, rfl⟩
        · have i3 : 15 < z := by omega
          go_enter Try.func15, Try.ntmps15
          go_wp2
          go_ret
          exact ⟨rfl, rfl⟩

end Go.Proofs.Ytdmogocnagbobaa
