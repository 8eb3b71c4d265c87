/-
  The document's At: what a cell is of.
-/
import Derived.Test.YtajjaeaknonmfaaTmath
import Derived.WalkKit
import Derived.WalkLawsBesides
import Derived.WalkSpells
import Derived.Below
import Derived.Deep.MidRow
import Derived.Lib.Walk
import Derived.StillTailTactics
set_option maxRecDepth 20000
namespace Go.Proofs.Ytajjaeaknonmfaa
open Go.RowKit

set_option maxHeartbeats 1000000 in
theorem rat_c (h b y : Int) (w : World) : Calls Try.prog 42 #[.int .i64 h, .int .i64 b, .int .i64 y] w fun e w' => e = .returned (.int .i64 (atN h b y)) ∧ w' = w := by
  obtain ⟨v, hv⟩ : ∃ v, atN h b y = v := ⟨_, rfl⟩
  rw [hv]
  have HV : Hid (atN h b y = v) := hv
  clear hv
  go_enter Try.func42, Try.ntmps42
  by_cases h0 : h < 0
  · have e := (atN_out (.inl h0)).symm.trans HV.out
    subst e
    clear HV
    go_wp2
    go_ret
    exact ⟨rfl, rfl⟩
  by_cases h1 : 128 ≤ h
  · have e := (atN_out (h := h) (b := b) (y := y) (by omega)).symm.trans HV.out
    subst e
    clear HV
    go_wp2
    go_ret
    exact ⟨rfl, rfl⟩
  by_cases y0 : y < 0
  · have e := (atN_out (h := h) (b := b) (y := y) (by omega)).symm.trans HV.out
    subst e
    clear HV
    go_wp2
    go_ret
    exact ⟨rfl, rfl⟩
  by_cases y1 : 128 ≤ y
  · have e := (atN_out (h := h) (b := b) (y := y) (by omega)).symm.trans HV.out
    subst e
    clear HV
    go_wp2
    go_ret
    exact ⟨rfl, rfl⟩
  by_cases b0 : b < 0
  · have e := (atN_out (h := h) (b := b) (y := y) (by omega)).symm.trans HV.out
    subst e
    clear HV
    go_wp2
    go_ret
    exact ⟨rfl, rfl⟩
  by_cases b1 : 4 ≤ b
  · have e := (atN_out (h := h) (b := b) (y := y) (by omega)).symm.trans HV.out
    subst e
    clear HV
    go_wp2
    go_ret
    exact ⟨rfl, rfl⟩
  have HI : Hid (¬ (h < 0 ∨ 127 < h ∨ y < 0 ∨ 127 < y ∨ b < 0 ∨ 3 < b)) := fun h => by omega
  by_cases hy : y = 0
  · have e : v = 15 := by have := HV.out; unfold atN at this; rw [if_neg HI.out, if_pos hy] at this; exact this.symm
    subst e
    clear HV HI
    subst hy
    go_wp2
    go_ret
    exact ⟨rfl, rfl⟩
  by_cases hh : h < y
  · by_cases hs : y ≤ 44
    · have e : v = 5 := by have := HV.out; unfold atN at this; rw [if_neg HI.out, if_neg hy, if_pos hh, if_pos hs] at this; exact this.symm
      subst e
      clear HV HI
      go_wp2
      go_ret
      exact ⟨rfl, rfl⟩
    · have e : v = 0 := by have := HV.out; unfold atN at this; rw [if_neg HI.out, if_neg hy, if_pos hh, if_neg hs] at this; exact this.symm
      subst e
      clear HV HI
      go_wp2
      go_ret
      exact ⟨rfl, rfl⟩
  by_cases hd : y < h - 3
  · have e : v = 1 := by have := HV.out; unfold atN at this; rw [if_neg HI.out, if_neg hy, if_neg hh, if_pos hd] at this; exact this.symm
    subst e
    clear HV HI
    go_wp2
    go_ret
    exact ⟨rfl, rfl⟩
  by_cases hb2 : b = 2
  · have e : v = 4 := by have := HV.out; unfold atN at this; rw [if_neg HI.out, if_neg hy, if_neg hh, if_neg hd, if_pos hb2] at this; exact this.symm
    subst e
    clear HV HI
    subst hb2
    go_wp2
    go_ret
    exact ⟨rfl, rfl⟩
  by_cases hb3 : b = 3
  · by_cases ht : y = h
    · by_cases h7 : h ≤ 70
      · have e : v = 6 := by have := HV.out; unfold atN at this; rw [if_neg HI.out, if_neg hy, if_neg hh, if_neg hd, if_neg hb2, if_pos hb3, if_pos ⟨ht, h7⟩] at this; exact this.symm
        subst e
        clear HV HI
        subst hb3
        subst ht
        go_wp2
        go_ret
        exact ⟨rfl, rfl⟩
      · have e : v = 1 := by have := HV.out; unfold atN at this; rw [if_neg HI.out, if_neg hy, if_neg hh, if_neg hd, if_neg hb2, if_pos hb3, if_neg (fun h => h7 h.2)] at this; exact this.symm
        subst e
        clear HV HI
        subst hb3
        subst ht
        go_wp2
        go_ret
        exact ⟨rfl, rfl⟩
    · have e : v = 1 := by have := HV.out; unfold atN at this; rw [if_neg HI.out, if_neg hy, if_neg hh, if_neg hd, if_neg hb2, if_pos hb3, if_neg (fun h => ht h.1)] at this; exact this.symm
      subst e
      clear HV HI
      subst hb3
      go_wp2
      go_ret
      exact ⟨rfl, rfl⟩
  by_cases ht : y = h
  · by_cases h4 : 44 ≤ h
    · have e : v = 3 := by have := HV.out; unfold atN at this; rw [if_neg HI.out, if_neg hy, if_neg hh, if_neg hd, if_neg hb2, if_neg hb3, if_pos ⟨ht, h4⟩] at this; exact this.symm
      subst e
      clear HV HI
      subst ht
      go_wp2
      go_ret
      exact ⟨rfl, rfl⟩
    · have e : v = 2 := by have := HV.out; unfold atN at this; rw [if_neg HI.out, if_neg hy, if_neg hh, if_neg hd, if_neg hb2, if_neg hb3, if_neg (fun h => h4 h.2)] at this; exact this.symm
      subst e
      clear HV HI
      subst ht
      go_wp2
      go_ret
      exact ⟨rfl, rfl⟩
  · have e : v = 2 := by have := HV.out; unfold atN at this; rw [if_neg HI.out, if_neg hy, if_neg hh, if_neg hd, if_neg hb2, if_neg hb3, if_neg (fun h => ht h.1)] at this; exact this.symm
    subst e
    clear HV HI
    go_wp2
    go_ret
    exact ⟨rfl, rfl⟩
end Go.Proofs.Ytajjaeaknonmfaa