/-
  OverlayBack: an overlay over the same blocks with the edits of one tells the same.
-/
import Derived.Test.YthanmgejgmhccaaLw
set_option maxRecDepth 20000
namespace Go.Proofs.Ythanmgejgmhccaa
open C Go.RowKit Go.Shelf

set_option maxRecDepth 1000000 in
set_option maxHeartbeats 8000000 in
theorem overlayBack_walk (a la : Option Addr) (n c ln lc : Nat) (P : Nat → Nat → Int) (w : World) (hR : Runs w a n) (hO : Ops w la ln P) :
    Calls Try.prog 4 #[.slice a n c, .slice la ln lc] w fun e w' => e = .returned (.bool true) ∧ Below w.heap.size w w' := by
  obtain ⟨Post, hPost⟩ : ∃ Post : Ending → World → Prop, Post = fun e w' => e = .returned (.bool true) ∧ Below w.heap.size w w' := ⟨_, rfl⟩
  rw [← hPost]
  have HP : Hid (∀ w', Below w.heap.size w w' → Post (.returned (.bool true)) w') := fun w' h => by rw [hPost]; exact ⟨rfl, h⟩
  clear hPost
  have HS : Hid (Runs w a n ∧ Ops w la ln P) := ⟨hR, hO⟩
  have haw := awake_c w
  clear hR hO
  go_enter Try.func4, Try.ntmps4
  go_wp2_with fail
  refine haw.mono ?_
  clear haw
  rintro _ w1 ⟨rfl, hb1⟩
  by_cases hn : n ≤ 1000
  case neg =>
    have hn' : decide ((1000 : Int) < n) = true := decide_eq_true (by omega)
    have R := HP.out w1 hb1
    clear HP HS
    go_wp2
    first | exact R | (go_ret; exact R)
  have hn' : decide ((1000 : Int) < n) = false := decide_eq_false (by omega)
  by_cases hl : ln ≤ 200
  case neg =>
    have hl' : decide ((200 : Int) < ln) = true := decide_eq_true (by omega)
    have R := HP.out w1 hb1
    clear HP HS
    go_wp2
    first | exact R | (go_ret; exact R)
  have hl' : decide ((200 : Int) < ln) = false := decide_eq_false (by omega)
  have hc := cells_c a n c none 0 0 w1 (HS.out.1.on hb1) (nums_nil _) hn (by omega)
  go_wp2_with fail
  refine hc.mono ?_
  clear hc
  rintro _ w2 ⟨rfl, G, hB2, gl, gk, hb2⟩
  have hc := made_c w1.heap.size 32768 G w2 (blk_pre hB2) gl gk
  go_wp2_with fail
  refine hc.mono ?_
  clear hc
  rintro _ w3 ⟨rfl, hC3, hb3⟩
  have hb02 : Below w.heap.size w w2 := hb1.trans (hb2.mono hb1.size)
  have hb03 : Below w.heap.size w w3 := hb02.trans (hb3.mono hb02.size)
  have hD3 := hC3.lt
  have hD0 := hb02.size
  obtain ⟨D, hD⟩ : ∃ D, w2.heap.size = D := ⟨_, rfl⟩
  rw [hD] at hC3 hD3 hD0
  rw [hD]
  clear hD hB2 hb1 hb2 hb3 hb02
  have hc := new_ov D G none none w3 hC3 gl gk ⟨.inl ⟨rfl, rfl⟩⟩
  go_wp2_with fail
  refine hc.mono ?_
  clear hc
  rintro _ w4 ⟨o, e, g, E, rfl, hN, hV, hb4⟩
  have HL0 : Hid (Lo w w3.heap.size D o e g E G false w4) := ⟨hV, hC3.on hb4, hD3, hD0, hb03.trans (hb4.mono hb03.size)⟩
  have HG : Hid (G.length = 32768 ∧ Kinds G) := ⟨gl, gk⟩
  obtain ⟨B, hBe⟩ : ∃ B, w3.heap.size = B := ⟨_, rfl⟩
  rw [hBe] at HL0
  clear hBe hN hV hb4 hC3 hD3 hD0 hb03 gl gk hn' hl' hn
  go_wp2_with fail
  go_loopw [9] (fun vx wr => ∃ i : Nat, i ≤ ln ∧ vx = .int .i64 (i : Int) ∧ Hid (∃ E d, Lo w B D o e g E G d wr)) (fun vx _ => ln - (intOf vx).toNat)
  case atStart => exact ⟨0, by omega, rfl, _, _, HL0.out⟩
  case round =>
    clear HL0
    obtain ⟨i, hi, rfl, HJ⟩ := hrel
    by_cases hx : i < ln
    case neg =>
      have hx' : ¬ (i : Int) < (ln : Int) := by omega
      obtain ⟨E, d, hLo⟩ := HJ.out
      have HL : Hid (Lo w B D o e g E G d wr) := hLo
      clear hLo HJ HS
      have hc := edits_c HL.out.ov
      go_wp2_with fail
      refine hc.mono ?_
      clear hc
      rintro _ w5 ⟨rfl, hE5, hb5⟩
      have HL5 : Hid (Lo w B D o e g E G d w5 ∧ Blk w5 wr.heap.size 67 E) := ⟨HL.out.on hb5, hE5⟩
      clear HL hE5 hb5
      obtain ⟨y, hy⟩ : ∃ y, wr.heap.size = y := ⟨_, rfl⟩
      rw [hy] at HL5
      rw [hy]
      clear hy
      have hc := new_ov D G (some ⟨y, 0, none⟩) (some E) w5 HL5.out.1.c HG.out.1 HG.out.2 ⟨.inr ⟨y, E, rfl, rfl, HL5.out.2, HL5.out.1.ov.sp.el, HL5.out.1.ov.sp.ek⟩⟩
      go_wp2_with fail
      refine hc.mono ?_
      clear hc
      rintro _ w6 ⟨q, qe, qg, F, rfl, hN, hQ, hb6⟩
      have hFE := new_edits HL5.out.1.ov.sp hN
      rw [hFE] at hQ
      clear hFE hN
      have HL6 : Hid (Lo w B D o e g E G d w6 ∧ Ov w5.heap.size w6 q qe qg E G false) := ⟨HL5.out.1.on hb6, hQ⟩
      clear HL5 hQ hb6 F
      go_wp2_with fail
      obtain ⟨va, hva⟩ : ∃ va, w6.drew = va := ⟨_, rfl⟩
      refine region_L (Kq va []) 99 (by kernel_rfl) ?_
      have hd : Below w6.heap.size w6 va := by rw [← hva]; exact (Below.refl _ w6).drew
      rw [hva]
      clear hva
      have hHeld : Kq va [] va := Kq.nil (Below.refl _ _)
      have HX : Hid (Lo w B D o e g E G d va ∧ Ov w5.heap.size va q qe qg E G false) := ⟨HL6.out.1.on hd, HL6.out.2.on hd⟩
      clear HL6 hd
      obtain ⟨Z_E, hZ⟩ : ∃ X, strOfNums E = X := ⟨_, rfl⟩
      have Z_Ee : Hid (strOfNums E = Z_E) := hZ
      clear hZ
      have hne : Nonempty (Sub (Kq va [])) := ⟨⟨_, hHeld⟩⟩
      refine take_L (i := 0) rfl (by kernel_rfl) (by kernel_rfl) (by kernel_rfl) (by kernel_rfl) (fun _ _ _ _ h => h) (by exact hHeld) (fun K hK => ?_)
      go_simp
      refine hK _ ?_
      clear hK K
      refine take_L (i := 4) rfl (by kernel_rfl) (by kernel_rfl) (by kernel_rfl) (by kernel_rfl) (fun _ _ _ _ h => h) (by exact hHeld) (fun K hK => ?_)
      go_simp
      refine hK _ ?_
      clear hK K
      have hc := fin_q hHeld HX.out.2
      refine one_L (i := 1) (by kernel_rfl) rfl (fun K hK => ?_)
      go_simp
      refine hc.mono ?_
      clear hc
      rintro _ u1 ⟨x1, f1, rfl, hB1, hF1, hh⟩
      replace hHeld := hh
      clear hh
      have HMISSFF : Hid _ := hF1
      clear hF1
      obtain ⟨Z_F, hZ⟩ : ∃ X, strOfNums f1 = X := ⟨_, rfl⟩
      have Z_Fe : Hid (strOfNums f1 = Z_F) := hZ
      clear hZ
      refine hK.out _ _ (fun _ => hHeld) ?_
      clear hK K
      have hc := bytes_q hHeld hB1 HMISSFF.out.len HMISSFF.out.k
      refine one_L (i := 2) (by kernel_rfl) rfl (fun K hK => ?_)
      go_simp
      refine hc.mono ?_
      clear hc
      rintro _ u2 ⟨g2, rfl, hh⟩
      replace hHeld := hh
      clear hh hB1
      refine hK.out _ _ (fun _ => kq_less _ hHeld) ?_
      clear hK K hne  
      refine wpAnyL_strong (S' := Kq va ((g2, f1) :: [])) kq_less _ _ _ _ ?_
      have hne : Nonempty (Sub (Kq va ((g2, f1) :: []))) := ⟨⟨_, hHeld⟩⟩
      have kt : ∀ s : Sub (Kq va ((g2, f1) :: [])), (convert 32 9 (.slice (some ⟨g2, 0, none⟩) 32768 32768)).run Try.prog s.w = .ok (.string Z_F) s.w := kq_text Z_Fe.out
      refine take_L (i := 3) rfl (by kernel_rfl) (by kernel_rfl) (by kernel_rfl) (by kernel_rfl) (fun _ _ _ _ h => h) (by exact hHeld) (fun K hK => ?_)
      go_simp
      refine hK _ ?_
      clear hK K
      have hc := fin_q hHeld HX.out.1.ov
      refine one_L (i := 5) (by kernel_rfl) rfl (fun K hK => ?_)
      go_simp
      refine hc.mono ?_
      clear hc
      rintro _ u3 ⟨x3, f3, rfl, hB3, hF3, hh⟩
      replace hHeld := hh
      clear hh
      rw [hF3.same HMISSFF.out] at hB3
      clear hF3
      refine hK.out _ _ (fun _ => hHeld) ?_
      clear hK K
      have hc := bytes_q hHeld hB3 HMISSFF.out.len HMISSFF.out.k
      refine one_L (i := 6) (by kernel_rfl) rfl (fun K hK => ?_)
      go_simp
      refine hc.mono ?_
      clear hc
      rintro _ u4 ⟨g4, rfl, hh⟩
      replace hHeld := hh
      clear hh hB3
      refine hK.out _ _ (fun _ => kq_less _ hHeld) ?_
      clear hK K hne  kt
      refine wpAnyL_strong (S' := Kq va ((g4, f1) :: ((g2, f1) :: []))) kq_less _ _ _ _ ?_
      have hne : Nonempty (Sub (Kq va ((g4, f1) :: ((g2, f1) :: [])))) := ⟨⟨_, hHeld⟩⟩
      have kt : ∀ s : Sub (Kq va ((g4, f1) :: ((g2, f1) :: []))), (convert 32 9 (.slice (some ⟨g4, 0, none⟩) 32768 32768)).run Try.prog s.w = .ok (.string Z_F) s.w := kq_text Z_Fe.out
      refine take_L (i := 7) rfl (by kernel_rfl) (by kernel_rfl) (by kernel_rfl) (by kernel_rfl) (fun _ _ _ _ h => h) (by exact hHeld) (fun K hK => ?_)
      go_simp
      refine hK _ ?_
      clear hK K
      refine take_L (i := 8) rfl (by kernel_rfl) (by kernel_rfl) (by kernel_rfl) (by kernel_rfl) (fun _ _ _ _ h => h) (by exact hHeld) (fun K hK => ?_)
      go_simp
      refine hK _ ?_
      clear hK K
      refine take_L (i := 9) rfl (by kernel_rfl) (by kernel_rfl) (by kernel_rfl) (by kernel_rfl) (fun _ _ _ _ h => h) (by exact hHeld) (fun K hK => ?_)
      go_simp
      refine hK _ ?_
      clear hK K
      refine take_L (i := 10) rfl (by kernel_rfl) (by kernel_rfl) (by kernel_rfl) (by kernel_rfl) (fun _ _ _ _ h => h) (by exact hHeld) (fun K hK => ?_)
      go_simp
      refine hK _ ?_
      clear hK K
      refine take_L (i := 14) rfl (by kernel_rfl) (by kernel_rfl) (by kernel_rfl) (by kernel_rfl) (fun _ _ _ _ h => h) (by exact hHeld) (fun K hK => ?_)
      go_simp
      refine hK _ ?_
      clear hK K
      have hc := ed_q hHeld HX.out.2
      refine one_L (i := 11) (by kernel_rfl) rfl (fun K hK => ?_)
      go_simp
      refine hc.mono ?_
      clear hc
      rintro _ u5 ⟨x5, rfl, hB5, hh⟩
      replace hHeld := hh
      clear hh
      refine hK.out _ _ (fun _ => hHeld) ?_
      clear hK K
      have hc := bytes_q hHeld hB5 HX.out.2.sp.el HX.out.2.sp.ek
      refine one_L (i := 12) (by kernel_rfl) rfl (fun K hK => ?_)
      go_simp
      refine hc.mono ?_
      clear hc
      rintro _ u6 ⟨g6, rfl, hh⟩
      replace hHeld := hh
      clear hh hB5
      refine hK.out _ _ (fun _ => kq_less _ hHeld) ?_
      clear hK K hne  kt
      refine wpAnyL_strong (S' := Kq va ((g6, E) :: ((g4, f1) :: ((g2, f1) :: [])))) kq_less _ _ _ _ ?_
      have hne : Nonempty (Sub (Kq va ((g6, E) :: ((g4, f1) :: ((g2, f1) :: []))))) := ⟨⟨_, hHeld⟩⟩
      have kt : ∀ s : Sub (Kq va ((g6, E) :: ((g4, f1) :: ((g2, f1) :: [])))), (convert 32 9 (.slice (some ⟨g6, 0, none⟩) 32768 32768)).run Try.prog s.w = .ok (.string Z_E) s.w := kq_text Z_Ee.out
      refine take_L (i := 13) rfl (by kernel_rfl) (by kernel_rfl) (by kernel_rfl) (by kernel_rfl) (fun _ _ _ _ h => h) (by exact hHeld) (fun K hK => ?_)
      go_simp
      refine hK _ ?_
      clear hK K
      have hc := ed_q hHeld HX.out.1.ov
      refine one_L (i := 15) (by kernel_rfl) rfl (fun K hK => ?_)
      go_simp
      refine hc.mono ?_
      clear hc
      rintro _ u7 ⟨x7, rfl, hB7, hh⟩
      replace hHeld := hh
      clear hh
      refine hK.out _ _ (fun _ => hHeld) ?_
      clear hK K
      have hc := bytes_q hHeld hB7 HX.out.2.sp.el HX.out.2.sp.ek
      refine one_L (i := 16) (by kernel_rfl) rfl (fun K hK => ?_)
      go_simp
      refine hc.mono ?_
      clear hc
      rintro _ u8 ⟨g8, rfl, hh⟩
      replace hHeld := hh
      clear hh hB7
      refine hK.out _ _ (fun _ => kq_less _ hHeld) ?_
      clear hK K hne  kt
      refine wpAnyL_strong (S' := Kq va ((g8, E) :: ((g6, E) :: ((g4, f1) :: ((g2, f1) :: []))))) kq_less _ _ _ _ ?_
      have hne : Nonempty (Sub (Kq va ((g8, E) :: ((g6, E) :: ((g4, f1) :: ((g2, f1) :: [])))))) := ⟨⟨_, hHeld⟩⟩
      have kt : ∀ s : Sub (Kq va ((g8, E) :: ((g6, E) :: ((g4, f1) :: ((g2, f1) :: []))))), (convert 32 9 (.slice (some ⟨g8, 0, none⟩) 32768 32768)).run Try.prog s.w = .ok (.string Z_E) s.w := kq_text Z_Ee.out
      refine take_L (i := 17) rfl (by kernel_rfl) (by kernel_rfl) (by kernel_rfl) (by kernel_rfl) (fun _ _ _ _ h => h) (by exact hHeld) (fun K hK => ?_)
      go_simp
      refine hK _ ?_
      clear hK K
      refine take_L (i := 18) rfl (by kernel_rfl) (by kernel_rfl) (by kernel_rfl) (by kernel_rfl) (fun _ _ _ _ h => h) (by exact hHeld) (fun K hK => ?_)
      go_simp
      refine hK _ ?_
      clear hK K
      refine take_L (i := 19) rfl (by kernel_rfl) (by kernel_rfl) (by kernel_rfl) (by kernel_rfl) (fun _ _ _ _ h => h) (by exact hHeld) (fun K hK => ?_)
      go_simp
      refine hK _ ?_
      clear hK K
      refine take_L (i := 20) rfl (by kernel_rfl) (by kernel_rfl) (by kernel_rfl) (by kernel_rfl) (fun _ _ _ _ h => h) (by exact hHeld) (fun K hK => ?_)
      go_simp
      refine hK _ ?_
      clear hK K
      refine take_L (i := 21) rfl (by kernel_rfl) (by kernel_rfl) (by kernel_rfl) (by kernel_rfl) (fun _ _ _ _ h => h) (by exact hHeld) (fun K hK => ?_)
      go_simp
      refine hK _ ?_
      clear hK K
      refine take_L (i := 23) rfl (by kernel_rfl) (by kernel_rfl) (by kernel_rfl) (by kernel_rfl) (fun _ _ _ _ h => h) (by exact hHeld) (fun K hK => ?_)
      go_simp
      refine hK _ ?_
      clear hK K
      have hc := many_q hHeld HX.out.2
      refine one_L (i := 22) (by kernel_rfl) rfl (fun K hK => ?_)
      go_simp
      refine hc.mono ?_
      clear hc
      rintro _ u9 ⟨rfl, hh⟩
      replace hHeld := hh
      clear hh
      refine hK.out _ _ (fun _ => hHeld) ?_
      clear hK K
      have hc := many_q hHeld HX.out.1.ov
      refine one_L (i := 24) (by kernel_rfl) rfl (fun K hK => ?_)
      go_simp
      refine hc.mono ?_
      clear hc
      rintro _ u10 ⟨rfl, hh⟩
      replace hHeld := hh
      clear hh
      refine hK.out _ _ (fun _ => hHeld) ?_
      clear hK K
      refine take_L (i := 25) rfl (by kernel_rfl) (by kernel_rfl) (by kernel_rfl) (by kernel_rfl) (fun _ _ _ _ h => h) (by exact hHeld) (fun K hK => ?_)
      go_simp
      refine hK _ ?_
      clear hK K
      refine take_L (i := 26) rfl (by kernel_rfl) (by kernel_rfl) (by kernel_rfl) (by kernel_rfl) (fun _ _ _ _ h => h) (by exact hHeld) (fun K hK => ?_)
      go_simp
      refine hK _ ?_
      clear hK K
      refine take_L (i := 27) rfl (by kernel_rfl) (by kernel_rfl) (by kernel_rfl) (by kernel_rfl) (fun _ _ _ _ h => h) (by exact hHeld) (fun K hK => ?_)
      go_simp
      refine hK _ ?_
      clear hK K
      refine take_L (i := 28) rfl (by kernel_rfl) (by kernel_rfl) (by kernel_rfl) (by kernel_rfl) (fun _ _ _ _ h => h) (by exact hHeld) (fun K hK => ?_)
      go_simp
      refine hK _ ?_
      clear hK K
      have hc := dirty_q hHeld HX.out.2
      refine one_L (i := 29) (by kernel_rfl) rfl (fun K hK => ?_)
      go_simp
      refine hc.mono ?_
      clear hc
      rintro _ u11 ⟨rfl, hh⟩
      replace hHeld := hh
      clear hh
      refine hK.out _ _ (fun _ => hHeld) ?_
      clear hK K
      refine take_L (i := 30) rfl (by kernel_rfl) (by kernel_rfl) (by kernel_rfl) (by kernel_rfl) (fun _ _ _ _ h => h) (by exact hHeld) (fun K hK => ?_)
      go_simp
      refine hK _ ?_
      clear hK K
      refine take_L (i := 31) rfl (by kernel_rfl) (by kernel_rfl) (by kernel_rfl) (by kernel_rfl) (fun _ _ _ _ h => h) (by exact hHeld) (fun K hK => ?_)
      go_simp
      refine hK _ ?_
      clear hK K
      refine one_L (i := 32) (by kernel_rfl) rfl (fun K hK => ?_)
      go_simp
      refine hK.out _ _ (fun _ => hHeld) ?_
      clear hK K
      refine done_L (by kernel_rfl) ?_ _
      clear hne  kt
      have R := HP.out _ (HX.out.1.b.trans (hHeld.b.mono HX.out.1.b.size))
      clear HX HP HG HMISSFF Z_Fe Z_Ee hHeld
      go_wp2
      first | exact R | (go_ret; exact R)
    have hx' : (i : Int) < (ln : Int) := by omega
    obtain ⟨E, d, hLo⟩ := HJ.out
    have HL : Hid (Lo w B D o e g E G d wr) := hLo
    obtain ⟨lb, lo, rfl, hrd⟩ := HS.out.2.reads hx
    obtain ⟨x, hxx⟩ : ∃ x, P i 1 = x := ⟨_, rfl⟩
    obtain ⟨y, hyy⟩ : ∃ y, P i 2 = y := ⟨_, rfl⟩
    rw [hxx, hyy] at hrd
    have Hrd : Hid (∀ u, Below w.heap.size w u → u.cell? ⟨lb, lo + i * 3, none⟩ = some (.int .i64 (P i 0)) ∧ u.cell? ⟨lb, lo + i * 3 + 1, none⟩ = some (.int .i64 x) ∧ u.cell? ⟨lb, lo + i * 3 + 2, none⟩ = some (.int .i64 y)) := hrd
    clear hLo HJ hrd hxx hyy
    go_wp2_with fail
    refine region_L (fun u => Below w.heap.size w u) 99 (by kernel_rfl) ?_
    have HV : Hid (Lo w B D o e g E G d (wr.drew)) := HL.out.on (Below.refl _ wr).drew
    clear HL
    generalize wr.drew = va at *
    have hHeld : Below w.heap.size w va := HV.out.b
    have hne : Nonempty (Sub (fun u => Below w.heap.size w u)) := ⟨⟨_, hHeld⟩⟩
    have k1 : ∀ s : Sub (fun u => Below w.heap.size w u), s.w.cell? ⟨lb, lo + i * 3 + 1, none⟩ = some (.int .i64 x) := fun s => (Hrd.out s.w s.ok).2.1
    have k2 : ∀ s : Sub (fun u => Below w.heap.size w u), s.w.cell? ⟨lb, lo + i * 3 + 2, none⟩ = some (.int .i64 y) := fun s => (Hrd.out s.w s.ok).2.2
    refine take_L (i := 0) rfl (by kernel_rfl) (by kernel_rfl) (by kernel_rfl) (by kernel_rfl) (fun _ _ _ _ h => h) (by exact hHeld) (fun K hK => ?_)
    go_simp
    refine hK _ ?_
    clear hK K
    refine take_L (i := 1) rfl (by kernel_rfl) (by kernel_rfl) (by kernel_rfl) (by kernel_rfl) (fun _ _ _ _ h => h) (by exact hHeld) (fun K hK => ?_)
    go_simp
    refine hK _ ?_
    clear hK K
    refine take_L (i := 2) rfl (by kernel_rfl) (by kernel_rfl) (by kernel_rfl) (by kernel_rfl) (fun _ _ _ _ h => h) (by exact hHeld) (fun K hK => ?_)
    go_simp
    refine hK _ ?_
    clear hK K
    refine take_L (i := 3) rfl (by kernel_rfl) (by kernel_rfl) (by kernel_rfl) (by kernel_rfl) (fun _ _ _ _ h => h) (by exact hHeld) (fun K hK => ?_)
    go_simp
    refine hK _ ?_
    clear hK K
    refine take_L (i := 4) rfl (by kernel_rfl) (by kernel_rfl) (by kernel_rfl) (by kernel_rfl) (fun _ _ _ _ h => h) (by exact hHeld) (fun K hK => ?_)
    go_simp
    refine hK _ ?_
    clear hK K
    refine take_L (i := 5) rfl (by kernel_rfl) (by kernel_rfl) (by kernel_rfl) (by kernel_rfl) (fun _ _ _ _ h => h) (by exact hHeld) (fun K hK => ?_)
    go_simp
    refine hK _ ?_
    clear hK K
    refine take_L (i := 6) rfl (by kernel_rfl) (by kernel_rfl) (by kernel_rfl) (by kernel_rfl) (fun _ _ _ _ h => h) (by exact hHeld) (fun K hK => ?_)
    go_simp
    refine hK _ ?_
    clear hK K
    refine take_L (i := 7) rfl (by kernel_rfl) (by kernel_rfl) (by kernel_rfl) (by kernel_rfl) (fun _ _ _ _ h => h) (by exact hHeld) (fun K hK => ?_)
    go_simp
    refine hK _ ?_
    clear hK K
    refine take_L (i := 8) rfl (by kernel_rfl) (by kernel_rfl) (by kernel_rfl) (by kernel_rfl) (fun _ _ _ _ h => h) (by exact hHeld) (fun K hK => ?_)
    go_simp
    refine hK _ ?_
    clear hK K
    refine take_L (i := 9) rfl (by kernel_rfl) (by kernel_rfl) (by kernel_rfl) (by kernel_rfl) (fun _ _ _ _ h => h) (by exact hHeld) (fun K hK => ?_)
    go_simp
    refine hK _ ?_
    clear hK K
    refine take_L (i := 10) rfl (by kernel_rfl) (by kernel_rfl) (by kernel_rfl) (by kernel_rfl) (fun _ _ _ _ h => h) (by exact hHeld) (fun K hK => ?_)
    go_simp
    refine hK _ ?_
    clear hK K
    have hset := set_o HV.out.ov x y
    refine one_L (i := 11) (by kernel_rfl) rfl (fun K hK => ?_)
    go_simp
    refine hset.mono ?_
    clear hset
    rintro _ w4 ⟨rfl, hO4, ho4⟩
    have H4 : Hid (Lo w B D o e g (setE E G x y) G (setD E G d x y) w4) := HV.out.set hO4 ho4
    clear hO4 ho4
    have hHeld2 : Below w.heap.size w w4 := H4.out.b
    refine hK.out _ _ (fun _ => hHeld2) ?_
    clear hK K hHeld hne k1 k2 HV
    refine done_L (by kernel_rfl) ?_ _
    clear hHeld2
    go_wp2
    go_roundw
    case rel => exact ⟨i + 1, by omega, by go_num, _, _, H4.out⟩
    case measure => simp [intOf]; omega
end Go.Proofs.Ythanmgejgmhccaa
