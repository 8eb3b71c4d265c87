/-
  The laws' own functions: awake, made, begun.
-/
import Derived.Test.YthanmgejgmhccaaOfi
import Derived.Test.YthanmgejgmhccaaRg
import Derived.Test.YthanmgejgmhccaaRn
set_option maxRecDepth 20000
namespace Go.Proofs.Ythanmgejgmhccaa
open C Go.RowKit Go.Shelf

theorem bad_kinds {bs : List Int} (h : Kinds bs) : ∀ n, badTo bs n = false
  | 0 => rfl
  | n + 1 => by
    show (badTo bs n || _) = false
    rw [bad_kinds h n]
    have := h.at n
    exact decide_eq_false (by omega)
theorem may_kinds {bs : List Int} (h : Kinds bs) (hl : bs.length = 32768) : mayC bs = 0 := by
  unfold mayC
  rw [if_neg (by omega), if_neg (by omega), bad_kinds h]
  rfl
/-- A chunk of cells is made. -/
theorem made_c (b cap : Nat) (bs : List Int) (w : World) (hB : Pre w b bs) (hl : bs.length = 32768) (hk : Kinds bs) : Calls Try.prog 16 #[.slice (some ⟨b, 0, none⟩) 32768 cap] w fun e w' => e = .returned (.pointer (some ⟨w.heap.size, 0, none⟩)) ∧ Blk w' w.heap.size 67 bs ∧ Below w.heap.size w w' := by
  have hS := hB.src hk
  rw [hl] at hS
  have hf := from_c (some ⟨b, 0, none⟩) 32768 cap bs w hS (by omega)
  have hm := may_kinds hk hl
  clear hS hB
  go_enter Try.func16, Try.ntmps16
  go_wp2_with fail
  refine hf.mono ?_
  clear hf
  rintro _ w1 ⟨hb, ⟨_, rfl, hB1⟩ | ⟨h, _⟩⟩
  · go_wp2
    go_ret
    exact ⟨rfl, hB1, hb⟩
  · exact absurd hm h
theorem Ov.only1 {B : Nat} {w w' : World} {o e g c : Nat} {E G : List Int} {d : Bool} (h : Ov B w o e g E G d) (ho : Only c w w') (hc : c < B) : Ov B w' o e g E G d := by
  have h1 := h.bo
  have h2 := h.be
  have h3 := h.bg
  exact ⟨(ho.block o (by omega)).trans h.hd, h.eb.only ho (by omega), h.gb.only ho (by omega), h.sp, h.ne, h1, h2, h3⟩
/-- The chapter's example, by its numbers. -/
structure AwP (Z E : List Int) : Prop where
  m1 : manyE (setE E Z 5 3) = 1
  g1 : getO (setE E Z 5 3) Z 5 = 3
  d1 : setD E Z false 5 3 = true
  e2 : setE (setE E Z 5 3) Z 5 3 = setE E Z 5 3
  d2 : setD (setE E Z 5 3) Z false 5 3 = false
  m3 : manyE (setE (setE E Z 5 3) Z 5 0) = 0
  d3 : setD (setE E Z 5 3) Z false 5 0 = true
theorem aw_plain {Z E : List Int} (hz : ∀ j, j < 32768 → Z.getD j 0 = 0) (h : IsNew none Z E) (hs : Sp E Z) : AwP Z E := by
  have h16 := fun j hj => new_none h j hj
  have hz5 := hz 5 (by omega)
  have k1 : newK Z 5 3 = 3 := by unfold newK; rw [hz5, if_neg (by omega)]
  have k2 : newK Z 5 0 = 16 := by unfold newK; rw [hz5, if_pos rfl]
  have e1 : setE E Z 5 3 = E.set 5 3 := by
    unfold setE
    rw [if_pos (by omega)]
    show E.set 5 (newK Z 5 3) = _
    rw [k1]
  have g0 : getO E Z 5 = 0 := by
    unfold getO
    rw [if_pos (by omega)]
    show finK E Z 5 = 0
    unfold finK
    rw [h16 5 (by omega), if_pos rfl, hz5]
  have g1 : getO (setE E Z 5 3) Z 5 = 3 := by
    unfold getO
    rw [if_pos (by omega)]
    show finK (setE E Z 5 3) Z 5 = 3
    rw [finK_set hs 5 3 5 (by omega), if_pos ⟨rfl, by omega, by omega⟩]
  have hs1 := hs.set 5 3
  refine ⟨?_, g1, ?_, setE_still hs1 g1, ?_, ?_, ?_⟩
  · rw [e1]
    unfold manyE
    rw [cnt_set E 5 3 16 (by rw [h.len]; omega) 32768 (by omega), cnt_all E h16 32768 (Nat.le_refl _), h16 5 (by omega), if_pos rfl, if_neg (by omega)]
    omega
  · unfold setD
    rw [g0, decide_eq_true ⟨by omega, by omega⟩]
    rfl
  · unfold setD
    rw [g1, decide_eq_false (fun q => q.2 rfl)]
    rfl
  · refine many_none fun j hj => ?_
    rw [setE_getD hs1 5 0 j hj]
    by_cases e : (5 : Int) = j ∧ (0 : Int) ≤ 0 ∧ (0 : Int) < 16
    · rw [if_pos e]
      obtain rfl : j = 5 := by omega
      exact k2
    · rw [if_neg e, setE_getD hs 5 3 j hj, if_neg (fun q => e ⟨q.1, by omega, by omega⟩), h16 j hj]
  · unfold setD
    rw [g1, decide_eq_true ⟨by omega, by omega⟩]
    rfl
theorem code53 : codeO 5 3 = 0 := by decide
theorem code50 : codeO 5 0 = 0 := by decide
set_option maxHeartbeats 2000000 in
/-- The chapter's example holds. -/
theorem awake_c (w : World) : Calls Try.prog 7 #[] w fun e w' => e = .returned (.bool true) ∧ Below w.heap.size w w' := by
  obtain ⟨Post, hPost⟩ : ∃ Post : Ending → World → Prop, Post = fun e w' => e = .returned (.bool true) ∧ Below w.heap.size w w' := ⟨_, rfl⟩
  rw [← hPost]
  have HP : Hid (∀ w', Below w.heap.size w w' → Post (.returned (.bool true)) w') := fun w' h => by rw [hPost]; exact ⟨rfl, h⟩
  clear hPost
  have hn := new_c w
  obtain ⟨Z, hZe⟩ : ∃ Z, Z = List.replicate 32768 (0 : Int) := ⟨_, rfl⟩
  have hZl : Z.length = 32768 := by rw [hZe, List.length_replicate]
  have hZk : Kinds Z := fun x hx => by rw [hZe] at hx; rw [List.eq_of_mem_replicate hx]; omega
  have HZ : Hid (∀ j, j < 32768 → Z.getD j 0 = 0) := fun j hj => by rw [hZe]; exact getD_replicate _ _ _ hj
  rw [← hZe] at hn
  clear hZe
  go_enter Try.func7, Try.ntmps7
  go_wp2_with fail
  refine hn.mono ?_
  clear hn
  rintro _ w1 ⟨rfl, hw⟩
  have hB1 : Blk w1 w.heap.size 67 Z := by rw [hw]; exact Blk.new w 67 _
  have hb1 : Below w.heap.size w w1 := by rw [hw]; exact (Below.refl _ _).alloc (Nat.le_refl _) _
  clear hw
  have hov := new_ov w.heap.size Z none none w1 hB1 hZl hZk ⟨.inl ⟨rfl, rfl⟩⟩
  go_wp2_with fail
  refine hov.mono ?_
  clear hov hB1
  rintro _ w2 ⟨o, e, g, E, rfl, hN, hO, hb2⟩
  have hA := aw_plain HZ.out hN hO.sp
  have hs1 := hb1.size
  have HO0 : Hid (Ov w.heap.size w2 o e g E Z false ∧ Below w.heap.size w w2) := ⟨hO.base hs1, hb1.trans (hb2.mono hs1)⟩
  clear hO hb2 hb1 hN HZ hZl hZk hs1
  have hc := set_o HO0.out.1 5 3
  unfold SetSay at hc
  rw [code53, hA.d1] at hc
  obtain ⟨F, hF⟩ : ∃ F, setE E Z 5 3 = F := ⟨_, rfl⟩
  obtain ⟨a1, a2, _, a4, a5, a6, a7⟩ := hA
  rw [hF] at a1 a2 a4 a5 a6 a7 hc
  clear hF
  go_wp2_with fail
  refine hc.mono ?_
  clear hc
  rintro _ w3 ⟨rfl, hO, ho⟩
  have HO1 : Hid (Ov w.heap.size w3 o e g F Z true ∧ Below w.heap.size w w3) := ⟨hO, HO0.out.2.trans (ho.below hO.bo hO.be)⟩
  clear hO ho HO0
  have hm := many_o HO1.out.1
  rw [a1] at hm
  go_wp2_with fail
  refine hm.mono ?_
  clear hm
  rintro _ w4 ⟨rfl, hb⟩
  have HO2 : Hid (Ov w.heap.size w4 o e g F Z true ∧ Below w.heap.size w w4) := ⟨HO1.out.1.on hb, HO1.out.2.trans (hb.mono HO1.out.2.size)⟩
  clear HO1 hb
  have hg := get_o HO2.out.1 5
  rw [a2] at hg
  have hd := dirty_c HO2.out.1
  go_wp2_with fail
  refine hg.mono ?_
  clear hg
  rintro _ w5 ⟨rfl, hw⟩
  subst hw
  go_wp2_with fail
  refine hd.mono ?_
  clear hd
  rintro _ w6 ⟨rfl, hw⟩
  subst hw
  have hcl := clean_c HO2.out.1
  go_wp2_with fail
  refine hcl.mono ?_
  clear hcl
  rintro _ w7 ⟨rfl, hO, ho⟩
  have HO3 : Hid (Ov w.heap.size w7 o e g F Z false ∧ Below w.heap.size w w7) := ⟨hO, HO2.out.2.trans (ho.below hO.bo hO.be)⟩
  clear hO ho HO2
  have hc := set_o HO3.out.1 5 3
  unfold SetSay at hc
  rw [code53, a5, a4] at hc
  go_wp2_with fail
  refine hc.mono ?_
  clear hc
  rintro _ w8 ⟨rfl, hO, ho⟩
  have HO4 : Hid (Ov w.heap.size w8 o e g F Z false ∧ Below w.heap.size w w8) := ⟨hO, HO3.out.2.trans (ho.below hO.bo hO.be)⟩
  clear hO ho HO3
  have hd := dirty_c HO4.out.1
  go_wp2_with fail
  refine hd.mono ?_
  clear hd
  rintro _ w9 ⟨rfl, hw⟩
  subst hw
  have hc := set_o HO4.out.1 5 0
  unfold SetSay at hc
  rw [code50, a7] at hc
  obtain ⟨H, hH⟩ : ∃ H, setE F Z 5 0 = H := ⟨_, rfl⟩
  rw [hH] at hc a6
  clear hH
  go_wp2_with fail
  refine hc.mono ?_
  clear hc
  rintro _ w10 ⟨rfl, hO, ho⟩
  have HO5 : Hid (Ov w.heap.size w10 o e g H Z true ∧ Below w.heap.size w w10) := ⟨hO, HO4.out.2.trans (ho.below hO.bo hO.be)⟩
  clear hO ho HO4
  go_wp2_with fail
  refine (new_nil _ _).mono ?_
  rintro _ w11 ⟨rfl, hw⟩
  subst hw
  have hm := many_o HO5.out.1
  rw [a6] at hm
  go_wp2_with fail
  refine hm.mono ?_
  clear hm
  rintro _ w12 ⟨rfl, hb⟩
  have HO6 : Hid (Ov w.heap.size w12 o e g H Z true ∧ Below w.heap.size w w12) := ⟨HO5.out.1.on hb, HO5.out.2.trans (hb.mono HO5.out.2.size)⟩
  clear HO5 hb
  have hd := dirty_c HO6.out.1
  go_wp2_with fail
  refine hd.mono ?_
  clear hd
  rintro _ w13 ⟨rfl, hw⟩
  subst hw
  have R := HP.out _ HO6.out.2
  go_wp2
  exact R
end Go.Proofs.Ythanmgejgmhccaa
