/-
  The landed overlay: New, Get, Set, Edits, Many, Dirty, Clean.
-/
import Derived.Test.YthanmgejgmhccaaOw
set_option maxRecDepth 20000
namespace Go.Proofs.Ythanmgejgmhccaa
open C Go.RowKit Go.Shelf

/-- What New answers. -/
def NewSay (es : Option (List Int)) (G : List Int) (w : World) (e : Ending) (w' : World) : Prop := ∃ (o x g : Nat) (E : List Int), e = .returned (.tuple #[.pointer (some ⟨o, 0, none⟩), .int .i64 0]) ∧ IsNew es G E ∧ Ov w.heap.size w' o x g E G false ∧ Below w.heap.size w w'
theorem new_ov (g : Nat) (G : List Int) (p : Option Addr) (es : Option (List Int)) (w : World) (hG : Blk w g 67 G) (gl : G.length = 32768) (gk : Kinds G) (hE : Ed w p es) :
    Calls Try.prog 18 #[.pointer (some ⟨g, 0, none⟩), .pointer p] w (NewSay es G w) := by
  obtain ⟨Post, hPost⟩ : ∃ Post : Ending → World → Prop, Post = NewSay es G w := ⟨_, rfl⟩
  rw [← hPost]
  have HP : Hid (∀ e w', NewSay es G w e w' → Post e w') := fun e w' h => by rw [hPost]; exact h
  clear hPost
  have hF := full_yes 16 (by omega) w
  obtain ⟨F, hFe⟩ : ∃ F, F = List.replicate 32768 (16 : Int) := ⟨_, rfl⟩
  have hFl : F.length = 32768 := by rw [hFe, List.length_replicate]
  have hFk : Kinds F := by rw [hFe]; exact none_kinds _
  have HFa : Hid (∀ j, j < 32768 → F.getD j 0 = 16) := fun j hj => by rw [hFe]; exact getD_replicate _ _ _ hj
  rw [← hFe] at hF
  clear hFe
  go_enter Try.func18, Try.ntmps18
  go_wp2_with fail
  refine hF.mono ?_
  clear hF
  rintro _ w1 ⟨rfl, hB1, hb1⟩
  go_wp2_with fail
  refine (edited_c p (some ⟨g, 0, none⟩) w1).mono ?_
  rintro _ w2 ⟨rfl, hw⟩
  have hb2 : Below w1.heap.size w1 w2 := by rw [hw]; exact ((Below.refl _ _).alloc (Nat.le_refl _) _).alloc (by simp) _
  have hx : w2.cell? ⟨w1.heap.size + 1, 0, none⟩ = some (.pointer p) := by
    have := heap_alloc_new (w1.alloc (.cells #[.pointer (some ⟨g, 0, none⟩)] 39)) (.cells #[.pointer p] 39)
    rw [hw, cell_of_row _ (w1.heap.size + 1) 0 #[.pointer p] 39 (0, 0) (by simpa using this)]
    rfl
  have hy : w2.cell? ⟨w1.heap.size, 0, none⟩ = some (.pointer (some ⟨g, 0, none⟩)) := by
    have h1 := heap_alloc_new w1 (.cells #[.pointer (some ⟨g, 0, none⟩)] 39)
    have h2 : w2.heap[w1.heap.size]? = some (.cells #[.pointer (some ⟨g, 0, none⟩)] 39 (0, 0)) := by
      rw [hw]
      exact (Below.heap_alloc _ _ _ (Array.getElem?_eq_some_iff.1 h1).1).trans h1
    rw [cell_of_row _ _ 0 _ 39 (0, 0) h2]
    rfl
  clear hw
  have hb12 : Below w.heap.size w w2 := hb1.trans (hb2.mono hb1.size)
  have hl := laid_c w.heap.size F p es g G (w1.heap.size + 1) w1.heap.size w2 (hB1.on hb2) hFl hFk (hE.below hb12) (hG.on hb12) gl gk hx hy
  clear hx hy hB1
  go_wp2_with fail
  refine hl.mono ?_
  clear hl
  rintro _ w3 ⟨rfl, E, hBE, el, ek, ea, hb3⟩
  have hb13 : Below w.heap.size w w3 := hb12.trans (hb3.mono hb12.size)
  have HN : Hid (IsNew es G E) := ⟨el, ek, fun j hj => by rw [ea j hj, HFa.out j hj]⟩
  have hcp := copy_c g G w3 (hG.on hb13) gl
  have hs3 := hb13.size
  have hs2 : w.heap.size ≤ w2.heap.size := hb12.size
  go_wp2_with fail
  refine hcp.mono ?_
  clear hcp
  rintro _ w4 ⟨rfl, hw⟩
  have hBG : Blk w4 w3.heap.size 67 G := by rw [hw]; exact Blk.new w3 67 _
  have hb4 : Below w3.heap.size w3 w4 := by rw [hw]; exact (Below.refl _ _).alloc (Nat.le_refl _) _
  have hb14 : Below w.heap.size w w4 := hb13.trans (hb4.mono hb13.size)
  have hBE4 := hBE.on hb4
  have hlt := hBE.lt
  have R : NewSay es G w (.returned (.tuple #[.pointer (some ⟨w4.heap.size, 0, none⟩), .int .i64 0])) (w4.alloc (.cells #[.pointer (some ⟨w2.heap.size, 0, none⟩), .pointer (some ⟨w3.heap.size, 0, none⟩), .bool false] 53)) := by
    have ha : Below w4.heap.size w4 (w4.alloc (.cells #[.pointer (some ⟨w2.heap.size, 0, none⟩), .pointer (some ⟨w3.heap.size, 0, none⟩), .bool false] 53)) := (Below.refl _ _).alloc (Nat.le_refl _) _
    refine ⟨_, _, _, E, rfl, HN.out, ⟨heap_alloc_new w4 _, hBE4.on ha, hBG.on ha, HN.out.sp gl gk, by omega, by have := hb14.size; omega, hs2, hs3⟩, hb14.trans (ha.mono hb14.size)⟩
  have HR := HP.out _ _ R
  clear R HP HN hBG hb4 hb14 hBE4 hw hBE hb13 hb3 hb12 hb2 hb1 ea HFa
  go_wp2
  exact HR
theorem new_nil (q : Value) (w : World) : Calls Try.prog 18 #[.pointer none, q] w fun e w' => e = .returned (.tuple #[.pointer none, .int .i64 1]) ∧ w' = w := by
  go_enter Try.func18, Try.ntmps18
  go_wp2
  go_ret2
  exact ⟨rfl, rfl⟩
theorem clean_c {B : Nat} {o e g : Nat} {E G : List Int} {d : Bool} {w : World} (h : Ov B w o e g E G d) : Calls Try.prog 10 #[.pointer (some ⟨o, 0, none⟩)] w fun r w' => r = .returned (.tuple #[]) ∧ Ov B w' o e g E G false ∧ Only2 o e w w' := by
  have c2 := h.c2
  have hf := h.free 2
  have R1 := h.setd false
  have R2 : Only2 o e w (w.setCell ⟨o, 2, none⟩ (.bool false)) := (Only2.refl o e w).set 2 _
  clear h
  go_enter Try.func10, Try.ntmps10
  go_wp2
  go_end0
  exact ⟨rfl, R1, R2⟩
theorem dirty_c {B : Nat} {o e g : Nat} {E G : List Int} {d : Bool} {w : World} (h : Ov B w o e g E G d) : Calls Try.prog 15 #[.pointer (some ⟨o, 0, none⟩)] w fun r w' => r = .returned (.bool d) ∧ w' = w := by
  have c2 := h.c2
  clear h
  go_enter Try.func15, Try.ntmps15
  go_wp2
  go_ret
  exact ⟨rfl, rfl⟩
theorem edits_c {B : Nat} {o e g : Nat} {E G : List Int} {d : Bool} {w : World} (h : Ov B w o e g E G d) : Calls Try.prog 19 #[.pointer (some ⟨o, 0, none⟩)] w fun r w' => r = .returned (.pointer (some ⟨w.heap.size, 0, none⟩)) ∧ Blk w' w.heap.size 67 E ∧ Below w.heap.size w w' := by
  have c0 := h.c0
  have hc := copy_c e E w h.eb h.sp.el
  clear h
  go_enter Try.func19, Try.ntmps19
  go_wp2_with fail
  refine hc.mono ?_
  clear hc
  rintro _ w1 ⟨rfl, hw⟩
  have hB : Blk w1 w.heap.size 67 E := by rw [hw]; exact Blk.new w 67 _
  have hb : Below w.heap.size w w1 := by rw [hw]; exact (Below.refl _ _).alloc (Nat.le_refl _) _
  clear hw
  go_wp2
  go_ret
  exact ⟨rfl, hB, hb⟩
theorem get_o {B : Nat} {o e g : Nat} {E G : List Int} {d : Bool} {w : World} (h : Ov B w o e g E G d) (i : Int) : Calls Try.prog 13 #[.pointer (some ⟨o, 0, none⟩), .int .i64 i] w fun r w' => r = .returned (.int .i64 (getO E G i)) ∧ w' = w := by
  have c0 := h.c0
  have c1 := h.c1
  have h1 := get_c e E i w h.eb h.sp.el h.sp.ek
  have h2 := get_c g G i w h.gb h.sp.gl h.sp.gk
  have h3 := block_c (getC E i) w
  have hv : getO E G i = if isB (getC E i) = true then getC E i else getC G i := by
    unfold getO
    by_cases c : 0 ≤ i ∧ i < 32768
    · rw [if_pos c]
      obtain ⟨I, rfl⟩ := Int.eq_ofNat_of_zero_le c.1
      have hI : I < 32768 := by omega
      rw [Int.toNat_natCast, getC_in hI, getC_in hI]
      have b := h.sp.ek.at I
      unfold finK
      by_cases e16 : E.getD I 0 = 16
      · rw [if_pos e16, e16]
        rw [if_neg (by simp [isB])]
      · rw [if_neg e16, if_pos (show isB (E.getD I 0) = true from decide_eq_true (by omega))]
    · rw [if_neg c]
      unfold getC
      rw [if_neg c, if_neg c]
      rw [if_neg (by simp [isB])]
  rw [hv]
  clear hv h
  generalize getC E i = k at *
  generalize getC G i = v at *
  cases hb : isB k
  · rw [hb] at h3
    go_enter Try.func13, Try.ntmps13
    go_wp2_with fail
    refine h1.mono ?_
    clear h1
    rintro _ _ ⟨rfl, hw⟩
    subst hw
    go_wp2_with fail
    refine h3.mono ?_
    clear h3
    rintro _ _ ⟨rfl, hw⟩
    subst hw
    go_wp2_with fail
    refine h2.mono ?_
    clear h2
    rintro _ _ ⟨rfl, hw⟩
    subst hw
    go_wp2
    go_ret
    exact ⟨rfl, rfl⟩
  · rw [hb] at h3
    go_enter Try.func13, Try.ntmps13
    go_wp2_with fail
    refine h1.mono ?_
    clear h1 h2
    rintro _ _ ⟨rfl, hw⟩
    subst hw
    go_wp2_with fail
    refine h3.mono ?_
    clear h3
    rintro _ _ ⟨rfl, hw⟩
    subst hw
    go_wp2
    go_ret
    exact ⟨rfl, rfl⟩
end Go.Proofs.Ythanmgejgmhccaa
