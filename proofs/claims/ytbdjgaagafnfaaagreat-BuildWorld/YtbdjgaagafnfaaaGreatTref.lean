/-
  Plain: what a cell of a column is of, and a chunk of columns.
  The document's At: what a cell is of.
-/
import Derived.Test.YtbdjgaagafnfaaaGreatProg
import Derived.WalkKit
import Derived.WalkLawsBesides
import Derived.WalkSpells
import Derived.Below
import Derived.Deep.MidRow
import Derived.Lib.Walk
import Derived.StillTailTactics
set_option maxRecDepth 20000
namespace Go.Proofs.YtbdjgaagafnfaaaGreat
section
/-- What a cell is of (P14.1). -/
def atN (h b y : Int) : Int :=
  if h < 0 ∨ 127 < h ∨ y < 0 ∨ 127 < y ∨ b < 0 ∨ 3 < b then 0
  else if y = 0 then 15
  else if h < y then (if y ≤ 44 then 5 else 0)
  else if y < h - 3 then 1
  else if b = 2 then 4
  else if b = 3 then (if y = h ∧ h ≤ 70 then 6 else 1)
  else if y = h ∧ 44 ≤ h then 3 else 2
theorem atN_bd (h b y : Int) : 0 ≤ atN h b y ∧ atN h b y ≤ 15 := by unfold atN; split <;> (try split) <;> (try split) <;> (try split) <;> (try split) <;> (try split) <;> (try split) <;> omega
theorem atN_out {h b y : Int} (hx : h < 0 ∨ 127 < h ∨ y < 0 ∨ 127 < y ∨ b < 0 ∨ 3 < b) : atN h b y = 0 := if_pos hx
/-- The columns may be. -/
def okCols (H B : List Int) : Prop := H.length = 256 ∧ B.length = 256 ∧ ∀ i, i < 256 → (0 ≤ H.getD i 0 ∧ H.getD i 0 ≤ 127) ∧ 0 ≤ B.getD i 0 ∧ B.getD i 0 ≤ 3
/-- The cells of a chunk of columns (P14.2). -/
def fillN (H B : List Int) : List Int := (List.range 32768).map fun i => atN (H.getD (i % 256) 0) (B.getD (i % 256) 0) ((i / 256 : Nat) : Int)
theorem fillN_len (H B : List Int) : (fillN H B).length = 32768 := by simp [fillN]
theorem range_getD (f : Nat → Int) (n j : Nat) (h : j < n) : ((List.range n).map f).getD j 0 = f j := by
  rw [List.getD_eq_getElem?_getD, List.getElem?_map, List.getElem?_range h]
  rfl
theorem fillN_at (H B : List Int) (j : Nat) (h : j < 32768) : (fillN H B).getD j 0 = atN (H.getD (j % 256) 0) (B.getD (j % 256) 0) ((j / 256 : Nat) : Int) := range_getD _ 32768 j h
theorem range_all (f : Nat → Int) (p : Int → Prop) (n : Nat) (h : ∀ i, p (f i)) : ∀ x ∈ (List.range n).map f, p x := by
  intro x hx
  obtain ⟨i, _, rfl⟩ := List.mem_map.1 hx
  exact h i
theorem fillN_bd (H B : List Int) : ∀ x ∈ fillN H B, 0 ≤ x ∧ x ≤ 16 := range_all _ _ 32768 fun i => by
  have := atN_bd (H.getD (i % 256) 0) (B.getD (i % 256) 0) ((i / 256 : Nat) : Int)
  omega
end
section
open Go.RowKit

set_option maxHeartbeats 1000000 in
theorem rat_c (h b y : Int) (w : World) : Calls Tryz.prog 30 #[.int .i64 h, .int .i64 b, .int .i64 y] w fun e w' => e = .returned (.int .i64 (atN h b y)) ∧ w' = w := by
  obtain ⟨v, hv⟩ : ∃ v, atN h b y = v := ⟨_, rfl⟩
  rw [hv]
  have HV : Hid (atN h b y = v) := hv
  clear hv
  go_enter Tryz.func30, Tryz.ntmps30
  by_cases h0 : h < 0
  · have e := (atN_out (.inl h0)).symm.trans HV.out
    subst e
    clear HV
    go_wp2
    go_ret
    exact ⟨rfl, rfl⟩
  by_cases h1 : 128 ≤ h
  · have e := (atN_out (h := h) (b := b) (y := y) (by omega)).symm.trans HV.out
    subst e
    clear HV
    go_wp2
    go_ret
    exact ⟨rfl, rfl⟩
  by_cases y0 : y < 0
  · have e := (atN_out (h := h) (b := b) (y := y) (by omega)).symm.trans HV.out
    subst e
    clear HV
    go_wp2
    go_ret
    exact ⟨rfl, rfl⟩
  by_cases y1 : 128 ≤ y
  · have e := (atN_out (h := h) (b := b) (y := y) (by omega)).symm.trans HV.out
    subst e
    clear HV
    go_wp2
    go_ret
    exact ⟨rfl, rfl⟩
  by_cases b0 : b < 0
  · have e := (atN_out (h := h) (b := b) (y := y) (by omega)).symm.trans HV.out
    subst e
    clear HV
    go_wp2
    go_ret
    exact ⟨rfl, rfl⟩
  by_cases b1 : 4 ≤ b
  · have e := (atN_out (h := h) (b := b) (y := y) (by omega)).symm.trans HV.out
    subst e
    clear HV
    go_wp2
    go_ret
    exact ⟨rfl, rfl⟩
  have HI : Hid (¬ (h < 0 ∨ 127 < h ∨ y < 0 ∨ 127 < y ∨ b < 0 ∨ 3 < b)) := fun h => by omega
  by_cases hy : y = 0
  · have e : v = 15 := by have := HV.out; unfold atN at this; rw [if_neg HI.out, if_pos hy] at this; exact this.symm
    subst e
    clear HV HI
    subst hy
    go_wp2
    go_ret
    exact ⟨rfl, rfl⟩
  by_cases hh : h < y
  · by_cases hs : y ≤ 44
    · have e : v = 5 := by have := HV.out; unfold atN at this; rw [if_neg HI.out, if_neg hy, if_pos hh, if_pos hs] at this; exact this.symm
      subst e
      clear HV HI
      go_wp2
      go_ret
      exact ⟨rfl, rfl⟩
    · have e : v = 0 := by have := HV.out; unfold atN at this; rw [if_neg HI.out, if_neg hy, if_pos hh, if_neg hs] at this; exact this.symm
      subst e
      clear HV HI
      go_wp2
      go_ret
      exact ⟨rfl, rfl⟩
  by_cases hd : y < h - 3
  · have e : v = 1 := by have := HV.out; unfold atN at this; rw [if_neg HI.out, if_neg hy, if_neg hh, if_pos hd] at this; exact this.symm
    subst e
    clear HV HI
    go_wp2
    go_ret
    exact ⟨rfl, rfl⟩
  by_cases hb2 : b = 2
  · have e : v = 4 := by have := HV.out; unfold atN at this; rw [if_neg HI.out, if_neg hy, if_neg hh, if_neg hd, if_pos hb2] at this; exact this.symm
    subst e
    clear HV HI
    subst hb2
    go_wp2
    go_ret
    exact ⟨rfl, rfl⟩
  by_cases hb3 : b = 3
  · by_cases ht : y = h
    · by_cases h7 : h ≤ 70
      · have e : v = 6 := by have := HV.out; unfold atN at this; rw [if_neg HI.out, if_neg hy, if_neg hh, if_neg hd, if_neg hb2, if_pos hb3, if_pos ⟨ht, h7⟩] at this; exact this.symm
        subst e
        clear HV HI
        subst hb3
        subst ht
        go_wp2
        go_ret
        exact ⟨rfl, rfl⟩
      · have e : v = 1 := by have := HV.out; unfold atN at this; rw [if_neg HI.out, if_neg hy, if_neg hh, if_neg hd, if_neg hb2, if_pos hb3, if_neg (fun h => h7 h.2)] at this; exact this.symm
        subst e
        clear HV HI
        subst hb3
        subst ht
        go_wp2
        go_ret
        exact ⟨rfl, rfl⟩
    · have e : v = 1 := by have := HV.out; unfold atN at this; rw [if_neg HI.out, if_neg hy, if_neg hh, if_neg hd, if_neg hb2, if_pos hb3, if_neg (fun h => ht h.1)] at this; exact this.symm
      subst e
      clear HV HI
      subst hb3
      go_wp2
      go_ret
      exact ⟨rfl, rfl⟩
  by_cases ht : y = h
  · by_cases h4 : 44 ≤ h
    · have e : v = 3 := by have := HV.out; unfold atN at this; rw [if_neg HI.out, if_neg hy, if_neg hh, if_neg hd, if_neg hb2, if_neg hb3, if_pos ⟨ht, h4⟩] at this; exact this.symm
      subst e
      clear HV HI
      subst ht
      go_wp2
      go_ret
      exact ⟨rfl, rfl⟩
    · have e : v = 2 := by have := HV.out; unfold atN at this; rw [if_neg HI.out, if_neg hy, if_neg hh, if_neg hd, if_neg hb2, if_neg hb3, if_neg (fun h => h4 h.2)] at this; exact this.symm
      subst e
      clear HV HI
      subst ht
      go_wp2
      go_ret
      exact ⟨rfl, rfl⟩
  · have e : v = 2 := by have := HV.out; unfold atN at this; rw [if_neg HI.out, if_neg hy, if_neg hh, if_neg hd, if_neg hb2, if_neg hb3, if_neg (fun h => ht h.1)] at this; exact this.symm
    subst e
    clear HV HI
    go_wp2
    go_ret
    exact ⟨rfl, rfl⟩
end
end Go.Proofs.YtbdjgaagafnfaaaGreat
