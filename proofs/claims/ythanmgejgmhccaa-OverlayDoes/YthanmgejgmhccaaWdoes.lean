/-
  OverlayDoes: edits over any blocks, with any that there were, are what the document says behind any calls.
-/
import Derived.Test.YthanmgejgmhccaaLx
set_option maxRecDepth 20000
namespace Go.Proofs.Ythanmgejgmhccaa
open C Go.RowKit Go.Shelf

set_option maxRecDepth 1000000 in
set_option maxHeartbeats 8000000 in
theorem overlayDoes_walk (a b la : Option Addr) (n c m cm : Nat) (sm : Bool) (ln lc : Nat) (P : Nat → Nat → Int) (iq : Int) (w : World) (hR : Runs w a n) (hQ : Runs w b m) (hO : Ops w la ln P) :
    Calls Try.prog 3 #[.slice a n c, .slice b m cm, .bool sm, .slice la ln lc, .int .i64 iq] w fun e w' => e = .returned (.bool true) ∧ Below w.heap.size w w' := by
  obtain ⟨Post, hPost⟩ : ∃ Post : Ending → World → Prop, Post = fun e w' => e = .returned (.bool true) ∧ Below w.heap.size w w' := ⟨_, rfl⟩
  rw [← hPost]
  have HP : Hid (∀ w', Below w.heap.size w w' → Post (.returned (.bool true)) w') := fun w' h => by rw [hPost]; exact ⟨rfl, h⟩
  clear hPost
  have HS : Hid ((Runs w a n ∧ Runs w b m) ∧ Ops w la ln P) := ⟨⟨hR, hQ⟩, hO⟩
  have haw := awake_c w
  clear hR hO hQ
  go_enter Try.func3, Try.ntmps3
  go_wp2_with fail
  refine haw.mono ?_
  clear haw
  rintro _ w1 ⟨rfl, hb1⟩
  have hc := begun_c a n c b m cm sm w1 (HS.out.1.1.on hb1) (HS.out.1.2.on hb1)
  go_wp2_with fail
  refine hc.mono ?_
  clear hc
  rintro _ w2 (⟨_, rfl, hw⟩ | ⟨o, e, g, q, ra, ac, rb, bc, E, G, rfl, hX, hb2⟩)
  case inl =>
    subst hw
    have R := HP.out _ hb1
    clear HP HS
    go_wp2
    first | exact R | (go_ret; exact R)
  by_cases hl : ln ≤ 200
  case neg =>
    have hl' : decide ((200 : Int) < ln) = true := decide_eq_true (by omega)
    have R := HP.out w2 (hb1.trans (hb2.mono hb1.size))
    clear HP HS hX
    go_wp2
    first | exact R | (go_ret; exact R)
  have hl' : decide ((200 : Int) < ln) = false := decide_eq_false (by omega)
  have HL0 : Hid (Ld w w1.heap.size o e g q ra ac rb bc E G false w2) := ⟨hX, hb1.size, hb1.trans (hb2.mono hb1.size)⟩
  obtain ⟨B, hBe⟩ : ∃ B, w1.heap.size = B := ⟨_, rfl⟩
  rw [hBe] at HL0
  clear hBe hX hb1 hb2
  have hc := tells_c HL0.out.x
  go_wp2_with fail
  refine hc.mono ?_
  clear hc
  rintro _ w3 ⟨rfl, hb3⟩
  have HL1 : Hid (Ld w B o e g q ra ac rb bc E G false w3) := HL0.out.on hb3
  clear HL0 hb3 hl'
  go_wp2_with fail
  go_loopw [16, 17, 18] (fun vx _ _ wr => ∃ i : Nat, i ≤ ln ∧ vx = .int .i64 (i : Int) ∧ Hid (∃ E d, Ld w B o e g q ra ac rb bc E G d wr)) (fun vx _ _ _ => ln - (intOf vx).toNat)
  case atStart => exact ⟨0, by omega, rfl, _, _, HL1.out⟩
  case round =>
    clear HL1
    obtain ⟨i, hi, rfl, HJ⟩ := hrel
    by_cases hx : i < ln
    case pos =>
      have hx' : (i : Int) < (ln : Int) := by omega
      obtain ⟨E, d, hLd⟩ := HJ.out
      have HL : Hid (Ld w B o e g q ra ac rb bc E G d wr) := hLd
      obtain ⟨lb, lo, rfl, hrd⟩ := HS.out.2.reads hx
      obtain ⟨z, hzz⟩ : ∃ z, P i 0 = z := ⟨_, rfl⟩
      obtain ⟨x, hxx⟩ : ∃ x, P i 1 = x := ⟨_, rfl⟩
      obtain ⟨y, hyy⟩ : ∃ y, P i 2 = y := ⟨_, rfl⟩
      rw [hzz, hxx, hyy] at hrd
      have Hrd : Hid (∀ u, Below w.heap.size w u → u.cell? ⟨lb, lo + i * 3, none⟩ = some (.int .i64 z) ∧ u.cell? ⟨lb, lo + i * 3 + 1, none⟩ = some (.int .i64 x) ∧ u.cell? ⟨lb, lo + i * 3 + 2, none⟩ = some (.int .i64 y)) := hrd
      clear hLd HJ hrd hxx hyy hzz
      have k0 := (Hrd.out wr HL.out.b).1
      by_cases hz : z = 1
      case pos =>
        subst hz
        have hcl := clean_c HL.out.x.o
        go_wp2_with fail
        refine hcl.mono ?_
        clear hcl
        rintro _ w4 ⟨rfl, hO4, ho4⟩
        have HM : Hid (Lm w B o e g q ra ac rb bc E E G false d w4) := HL.out.seto hO4 ho4
        have HL4 : Hid (Ld w B o e g q ra ac rb bc E G false (w4.setCell ⟨q, 2, none⟩ (.bool false))) := HM.out.clean
        have q1 := HM.out.r.c2
        have q2 := HM.out.r.free 2
        clear hO4 ho4 HM HL k0
        go_wp2
        go_roundw
        case rel => exact ⟨i + 1, by omega, by go_num, _, _, HL4.out⟩
        case measure => simp [intOf]; omega
      have hz' : (z == 1) = false := by simp [hz]
      clear hz
      go_wp2_with fail
      refine region_L (fun u => Below w.heap.size w u) 99 (by kernel_rfl) ?_
      have HV : Hid (Ld w B o e g q ra ac rb bc E G d (wr.drew)) := HL.out.on (Below.refl _ wr).drew
      clear HL
      generalize wr.drew = va at *
      have hHeld : (fun u => Below w.heap.size w u) va := HV.out.b
      have hne : Nonempty (Sub (fun u => Below w.heap.size w u)) := ⟨⟨_, hHeld⟩⟩
      have k1 : ∀ s : Sub (fun u => Below w.heap.size w u), s.w.cell? ⟨lb, lo + i * 3 + 1, none⟩ = some (.int .i64 x) := fun s => (Hrd.out s.w (s.ok)).2.1
      have k2 : ∀ s : Sub (fun u => Below w.heap.size w u), s.w.cell? ⟨lb, lo + i * 3 + 2, none⟩ = some (.int .i64 y) := fun s => (Hrd.out s.w (s.ok)).2.2
      refine take_L (i := 0) rfl (by kernel_rfl) (by kernel_rfl) (by kernel_rfl) (by kernel_rfl) (fun _ _ _ _ h => h) (by exact hHeld) (fun K hK => ?_)
      go_simp
      refine hK _ ?_
      clear hK K
      refine take_L (i := 1) rfl (by kernel_rfl) (by kernel_rfl) (by kernel_rfl) (by kernel_rfl) (fun _ _ _ _ h => h) (by exact hHeld) (fun K hK => ?_)
      go_simp
      refine hK _ ?_
      clear hK K
      refine take_L (i := 2) rfl (by kernel_rfl) (by kernel_rfl) (by kernel_rfl) (by kernel_rfl) (fun _ _ _ _ h => h) (by exact hHeld) (fun K hK => ?_)
      go_simp
      refine hK _ ?_
      clear hK K
      refine take_L (i := 3) rfl (by kernel_rfl) (by kernel_rfl) (by kernel_rfl) (by kernel_rfl) (fun _ _ _ _ h => h) (by exact hHeld) (fun K hK => ?_)
      go_simp
      refine hK _ ?_
      clear hK K
      refine take_L (i := 4) rfl (by kernel_rfl) (by kernel_rfl) (by kernel_rfl) (by kernel_rfl) (fun _ _ _ _ h => h) (by exact hHeld) (fun K hK => ?_)
      go_simp
      refine hK _ ?_
      clear hK K
      refine take_L (i := 5) rfl (by kernel_rfl) (by kernel_rfl) (by kernel_rfl) (by kernel_rfl) (fun _ _ _ _ h => h) (by exact hHeld) (fun K hK => ?_)
      go_simp
      refine hK _ ?_
      clear hK K
      refine take_L (i := 6) rfl (by kernel_rfl) (by kernel_rfl) (by kernel_rfl) (by kernel_rfl) (fun _ _ _ _ h => h) (by exact hHeld) (fun K hK => ?_)
      go_simp
      refine hK _ ?_
      clear hK K
      refine take_L (i := 7) rfl (by kernel_rfl) (by kernel_rfl) (by kernel_rfl) (by kernel_rfl) (fun _ _ _ _ h => h) (by exact hHeld) (fun K hK => ?_)
      go_simp
      refine hK _ ?_
      clear hK K
      refine take_L (i := 8) rfl (by kernel_rfl) (by kernel_rfl) (by kernel_rfl) (by kernel_rfl) (fun _ _ _ _ h => h) (by exact hHeld) (fun K hK => ?_)
      go_simp
      refine hK _ ?_
      clear hK K
      refine take_L (i := 9) rfl (by kernel_rfl) (by kernel_rfl) (by kernel_rfl) (by kernel_rfl) (fun _ _ _ _ h => h) (by exact hHeld) (fun K hK => ?_)
      go_simp
      refine hK _ ?_
      clear hK K
      refine take_L (i := 10) rfl (by kernel_rfl) (by kernel_rfl) (by kernel_rfl) (by kernel_rfl) (fun _ _ _ _ h => h) (by exact hHeld) (fun K hK => ?_)
      go_simp
      refine hK _ ?_
      clear hK K
      have hset := set_o HV.out.x.o x y
      refine one_L (i := 11) (by kernel_rfl) rfl (fun K hK => ?_)
      go_simp
      refine hset.mono ?_
      clear hset
      rintro _ w4 ⟨rfl, hO4, ho4⟩
      have H4 : Hid (Lm w B o e g q ra ac rb bc (setE E G x y) E G (setD E G d x y) d w4) := HV.out.seto hO4 ho4
      clear hO4 ho4
      have hHeld2 : (fun u => Below w.heap.size w u) w4 := H4.out.b
      refine hK.out _ _ (fun _ => hHeld2) ?_
      clear hK K hHeld hne k1 k2 HV
      refine one_L (i := 12) (by kernel_rfl) rfl (fun K hK => ?_)
      go_simp
      refine hK.out _ _ (fun _ => hHeld2) ?_
      clear hK K
      refine done_L (by kernel_rfl) ?_ _
      clear hHeld2 k0
      go_wp2_with fail
      refine region_L (fun u => Below w.heap.size w u) 99 (by kernel_rfl) ?_
      have HV : Hid (Lm w B o e g q ra ac rb bc (setE E G x y) E G (setD E G d x y) d (w4.drew)) := H4.out.on (Below.refl _ w4).drew
      clear H4
      generalize w4.drew = va at *
      have hHeld : (fun u => Below w.heap.size w u) va := HV.out.b
      have hne : Nonempty (Sub (fun u => Below w.heap.size w u)) := ⟨⟨_, hHeld⟩⟩
      have k1 : ∀ s : Sub (fun u => Below w.heap.size w u), s.w.cell? ⟨lb, lo + i * 3 + 1, none⟩ = some (.int .i64 x) := fun s => (Hrd.out s.w (s.ok)).2.1
      have k2 : ∀ s : Sub (fun u => Below w.heap.size w u), s.w.cell? ⟨lb, lo + i * 3 + 2, none⟩ = some (.int .i64 y) := fun s => (Hrd.out s.w (s.ok)).2.2
      refine take_L (i := 0) rfl (by kernel_rfl) (by kernel_rfl) (by kernel_rfl) (by kernel_rfl) (fun _ _ _ _ h => h) (by exact hHeld) (fun K hK => ?_)
      go_simp
      refine hK _ ?_
      clear hK K
      refine take_L (i := 1) rfl (by kernel_rfl) (by kernel_rfl) (by kernel_rfl) (by kernel_rfl) (fun _ _ _ _ h => h) (by exact hHeld) (fun K hK => ?_)
      go_simp
      refine hK _ ?_
      clear hK K
      refine take_L (i := 2) rfl (by kernel_rfl) (by kernel_rfl) (by kernel_rfl) (by kernel_rfl) (fun _ _ _ _ h => h) (by exact hHeld) (fun K hK => ?_)
      go_simp
      refine hK _ ?_
      clear hK K
      refine take_L (i := 3) rfl (by kernel_rfl) (by kernel_rfl) (by kernel_rfl) (by kernel_rfl) (fun _ _ _ _ h => h) (by exact hHeld) (fun K hK => ?_)
      go_simp
      refine hK _ ?_
      clear hK K
      refine take_L (i := 4) rfl (by kernel_rfl) (by kernel_rfl) (by kernel_rfl) (by kernel_rfl) (fun _ _ _ _ h => h) (by exact hHeld) (fun K hK => ?_)
      go_simp
      refine hK _ ?_
      clear hK K
      refine take_L (i := 5) rfl (by kernel_rfl) (by kernel_rfl) (by kernel_rfl) (by kernel_rfl) (fun _ _ _ _ h => h) (by exact hHeld) (fun K hK => ?_)
      go_simp
      refine hK _ ?_
      clear hK K
      refine take_L (i := 6) rfl (by kernel_rfl) (by kernel_rfl) (by kernel_rfl) (by kernel_rfl) (fun _ _ _ _ h => h) (by exact hHeld) (fun K hK => ?_)
      go_simp
      refine hK _ ?_
      clear hK K
      refine take_L (i := 7) rfl (by kernel_rfl) (by kernel_rfl) (by kernel_rfl) (by kernel_rfl) (fun _ _ _ _ h => h) (by exact hHeld) (fun K hK => ?_)
      go_simp
      refine hK _ ?_
      clear hK K
      refine take_L (i := 8) rfl (by kernel_rfl) (by kernel_rfl) (by kernel_rfl) (by kernel_rfl) (fun _ _ _ _ h => h) (by exact hHeld) (fun K hK => ?_)
      go_simp
      refine hK _ ?_
      clear hK K
      refine take_L (i := 9) rfl (by kernel_rfl) (by kernel_rfl) (by kernel_rfl) (by kernel_rfl) (fun _ _ _ _ h => h) (by exact hHeld) (fun K hK => ?_)
      go_simp
      refine hK _ ?_
      clear hK K
      refine take_L (i := 10) rfl (by kernel_rfl) (by kernel_rfl) (by kernel_rfl) (by kernel_rfl) (fun _ _ _ _ h => h) (by exact hHeld) (fun K hK => ?_)
      go_simp
      refine hK _ ?_
      clear hK K
      have hset := rset_o HV.out.r x y
      refine one_L (i := 11) (by kernel_rfl) rfl (fun K hK => ?_)
      go_simp
      refine hset.mono ?_
      clear hset
      rintro _ w5 ⟨rfl, hO5, ho5⟩
      have H5 : Hid (Ld w B o e g q ra ac rb bc (setE E G x y) G (setD E G d x y) w5) := HV.out.setr hO5 ho5
      clear hO5 ho5
      have hHeld2 : (fun u => Below w.heap.size w u) w5 := H5.out.b
      refine hK.out _ _ (fun _ => hHeld2) ?_
      clear hK K hHeld hne k1 k2 HV
      refine one_L (i := 12) (by kernel_rfl) rfl (fun K hK => ?_)
      go_simp
      refine hK.out _ _ (fun _ => hHeld2) ?_
      clear hK K
      refine done_L (by kernel_rfl) ?_ _
      clear hHeld2
      obtain ⟨E5, hE5⟩ : ∃ E5, setE E G x y = E5 := ⟨_, rfl⟩
      obtain ⟨d5, hd5⟩ : ∃ d5, setD E G d x y = d5 := ⟨_, rfl⟩
      rw [hE5, hd5] at H5
      clear hE5 hd5
      obtain ⟨cc, hcc⟩ : ∃ cc, codeO x y = cc := ⟨_, rfl⟩
      rw [hcc]
      clear hcc
      go_wp2_with fail
      obtain ⟨va, hva⟩ : ∃ va, w5.drew = va := ⟨_, rfl⟩
      refine region_L (Kq va []) 99 (by kernel_rfl) ?_
      have HX : Hid (Ld w B o e g q ra ac rb bc E5 G d5 va) := by rw [← hva]; exact H5.out.on (Below.refl _ w5).drew
      rw [hva]
      clear hva H5
      have hHeld : Kq va [] va := Kq.nil (Below.refl _ _)
      obtain ⟨gv, hgv⟩ : ∃ gv, getO E5 G x = gv := ⟨_, rfl⟩
      have HGV : Hid (getO E5 G x = gv) := hgv
      clear hgv
      have hne : Nonempty (Sub (Kq va [])) := ⟨⟨_, hHeld⟩⟩
      have k1 : ∀ s : Sub (Kq va []), s.w.cell? ⟨lb, lo + i * 3 + 1, none⟩ = some (.int .i64 x) := fun s => (Hrd.out s.w (HX.out.on s.ok.b).b).2.1
      have c2 : ∀ s : Sub (Kq va []), s.w.cell? ⟨q, 2, none⟩ = some (.bool d5) := fun s => (HX.out.on s.ok.b).x.r.c2
      refine take_L (i := 0) rfl (by kernel_rfl) (by kernel_rfl) (by kernel_rfl) (by kernel_rfl) (fun _ _ _ _ h => h) (by exact hHeld) (fun K hK => ?_)
      go_simp
      refine hK _ ?_
      clear hK K
      refine take_L (i := 1) rfl (by kernel_rfl) (by kernel_rfl) (by kernel_rfl) (by kernel_rfl) (fun _ _ _ _ h => h) (by exact hHeld) (fun K hK => ?_)
      go_simp
      refine hK _ ?_
      clear hK K
      refine take_L (i := 2) rfl (by kernel_rfl) (by kernel_rfl) (by kernel_rfl) (by kernel_rfl) (fun _ _ _ _ h => h) (by exact hHeld) (fun K hK => ?_)
      go_simp
      refine hK _ ?_
      clear hK K
      refine take_L (i := 3) rfl (by kernel_rfl) (by kernel_rfl) (by kernel_rfl) (by kernel_rfl) (fun _ _ _ _ h => h) (by exact hHeld) (fun K hK => ?_)
      go_simp
      refine hK _ ?_
      clear hK K
      refine take_L (i := 4) rfl (by kernel_rfl) (by kernel_rfl) (by kernel_rfl) (by kernel_rfl) (fun _ _ _ _ h => h) (by exact hHeld) (fun K hK => ?_)
      go_simp
      refine hK _ ?_
      clear hK K
      refine take_L (i := 5) rfl (by kernel_rfl) (by kernel_rfl) (by kernel_rfl) (by kernel_rfl) (fun _ _ _ _ h => h) (by exact hHeld) (fun K hK => ?_)
      go_simp
      refine hK _ ?_
      clear hK K
      refine take_L (i := 6) rfl (by kernel_rfl) (by kernel_rfl) (by kernel_rfl) (by kernel_rfl) (fun _ _ _ _ h => h) (by exact hHeld) (fun K hK => ?_)
      go_simp
      refine hK _ ?_
      clear hK K
      refine take_L (i := 7) rfl (by kernel_rfl) (by kernel_rfl) (by kernel_rfl) (by kernel_rfl) (fun _ _ _ _ h => h) (by exact hHeld) (fun K hK => ?_)
      go_simp
      refine hK _ ?_
      clear hK K
      refine take_L (i := 8) rfl (by kernel_rfl) (by kernel_rfl) (by kernel_rfl) (by kernel_rfl) (fun _ _ _ _ h => h) (by exact hHeld) (fun K hK => ?_)
      go_simp
      refine hK _ ?_
      clear hK K
      refine take_L (i := 9) rfl (by kernel_rfl) (by kernel_rfl) (by kernel_rfl) (by kernel_rfl) (fun _ _ _ _ h => h) (by exact hHeld) (fun K hK => ?_)
      go_simp
      refine hK _ ?_
      clear hK K
      refine take_L (i := 11) rfl (by kernel_rfl) (by kernel_rfl) (by kernel_rfl) (by kernel_rfl) (fun _ _ _ _ h => h) (by exact hHeld) (fun K hK => ?_)
      go_simp
      refine hK _ ?_
      clear hK K
      refine take_L (i := 12) rfl (by kernel_rfl) (by kernel_rfl) (by kernel_rfl) (by kernel_rfl) (fun _ _ _ _ h => h) (by exact hHeld) (fun K hK => ?_)
      go_simp
      refine hK _ ?_
      clear hK K
      refine take_L (i := 13) rfl (by kernel_rfl) (by kernel_rfl) (by kernel_rfl) (by kernel_rfl) (fun _ _ _ _ h => h) (by exact hHeld) (fun K hK => ?_)
      go_simp
      refine hK _ ?_
      clear hK K
      refine take_L (i := 14) rfl (by kernel_rfl) (by kernel_rfl) (by kernel_rfl) (by kernel_rfl) (fun _ _ _ _ h => h) (by exact hHeld) (fun K hK => ?_)
      go_simp
      refine hK _ ?_
      clear hK K
      refine take_L (i := 15) rfl (by kernel_rfl) (by kernel_rfl) (by kernel_rfl) (by kernel_rfl) (fun _ _ _ _ h => h) (by exact hHeld) (fun K hK => ?_)
      go_simp
      refine hK _ ?_
      clear hK K
      refine take_L (i := 16) rfl (by kernel_rfl) (by kernel_rfl) (by kernel_rfl) (by kernel_rfl) (fun _ _ _ _ h => h) (by exact hHeld) (fun K hK => ?_)
      go_simp
      refine hK _ ?_
      clear hK K
      have hc := (by have h := get_q hHeld HX.out.x.o x; rw [HGV.out] at h; exact h)
      refine one_L (i := 10) (by kernel_rfl) rfl (fun K hK => ?_)
      go_simp
      refine hc.mono ?_
      clear hc
      rintro _ u1 ⟨rfl, hh⟩
      replace hHeld := hh
      clear hh
      refine hK.out _ _ (fun _ => hHeld) ?_
      clear hK K
      have hc := (by have h := rget_q hHeld HX.out.x.r x; rw [HGV.out] at h; exact h)
      refine one_L (i := 17) (by kernel_rfl) rfl (fun K hK => ?_)
      go_simp
      refine hc.mono ?_
      clear hc
      rintro _ u2 ⟨rfl, hh⟩
      replace hHeld := hh
      clear hh
      refine hK.out _ _ (fun _ => hHeld) ?_
      clear hK K
      refine take_L (i := 18) rfl (by kernel_rfl) (by kernel_rfl) (by kernel_rfl) (by kernel_rfl) (fun _ _ _ _ h => h) (by exact hHeld) (fun K hK => ?_)
      go_simp
      refine hK _ ?_
      clear hK K
      refine take_L (i := 19) rfl (by kernel_rfl) (by kernel_rfl) (by kernel_rfl) (by kernel_rfl) (fun _ _ _ _ h => h) (by exact hHeld) (fun K hK => ?_)
      go_simp
      refine hK _ ?_
      clear hK K
      refine take_L (i := 20) rfl (by kernel_rfl) (by kernel_rfl) (by kernel_rfl) (by kernel_rfl) (fun _ _ _ _ h => h) (by exact hHeld) (fun K hK => ?_)
      go_simp
      refine hK _ ?_
      clear hK K
      refine take_L (i := 21) rfl (by kernel_rfl) (by kernel_rfl) (by kernel_rfl) (by kernel_rfl) (fun _ _ _ _ h => h) (by exact hHeld) (fun K hK => ?_)
      go_simp
      refine hK _ ?_
      clear hK K
      refine take_L (i := 23) rfl (by kernel_rfl) (by kernel_rfl) (by kernel_rfl) (by kernel_rfl) (fun _ _ _ _ h => h) (by exact hHeld) (fun K hK => ?_)
      go_simp
      refine hK _ ?_
      clear hK K
      refine take_L (i := 24) rfl (by kernel_rfl) (by kernel_rfl) (by kernel_rfl) (by kernel_rfl) (fun _ _ _ _ h => h) (by exact hHeld) (fun K hK => ?_)
      go_simp
      refine hK _ ?_
      clear hK K
      refine take_L (i := 25) rfl (by kernel_rfl) (by kernel_rfl) (by kernel_rfl) (by kernel_rfl) (fun _ _ _ _ h => h) (by exact hHeld) (fun K hK => ?_)
      go_simp
      refine hK _ ?_
      clear hK K
      refine take_L (i := 26) rfl (by kernel_rfl) (by kernel_rfl) (by kernel_rfl) (by kernel_rfl) (fun _ _ _ _ h => h) (by exact hHeld) (fun K hK => ?_)
      go_simp
      refine hK _ ?_
      clear hK K
      have hc := dirty_q hHeld HX.out.x.o
      refine one_L (i := 22) (by kernel_rfl) rfl (fun K hK => ?_)
      go_simp
      refine hc.mono ?_
      clear hc
      rintro _ u3 ⟨rfl, hh⟩
      replace hHeld := hh
      clear hh
      refine hK.out _ _ (fun _ => hHeld) ?_
      clear hK K
      refine take_L (i := 27) rfl (by kernel_rfl) (by kernel_rfl) (by kernel_rfl) (by kernel_rfl) (fun _ _ _ _ h => h) (by exact hHeld) (fun K hK => ?_)
      go_simp
      refine hK _ ?_
      clear hK K
      refine one_L (i := 28) (by kernel_rfl) rfl (fun K hK => ?_)
      go_simp
      refine hK.out _ _ (fun _ => hHeld) ?_
      clear hK K
      refine done_L (by kernel_rfl) ?_ _
      clear hne k1 c2 
      have HL6 : Hid (Ld w B o e g q ra ac rb bc E5 G d5 _) := HX.out.on hHeld.b
      clear HX hHeld HGV
      go_wp2
      go_roundw
      case rel => exact ⟨i + 1, by omega, by go_num, _, _, HL6.out⟩
      case measure => simp [intOf]; omega
    case neg =>
      have hx' : ¬ (i : Int) < (ln : Int) := by omega
      obtain ⟨E, d, hLd⟩ := HJ.out
      have HL : Hid (Ld w B o e g q ra ac rb bc E G d wr) := hLd
      clear hLd HJ HS
      have hc := tells_c HL.out.x
      go_wp2_with fail
      refine hc.mono ?_
      clear hc
      rintro _ w4 ⟨rfl, hb4⟩
      have HL4 : Hid (Ld w B o e g q ra ac rb bc E G d w4) := HL.out.on hb4
      clear HL hb4
      have h1 := get_o HL4.out.x.o iq
      have h2 := rget_c HL4.out.x.r iq
      obtain ⟨gv, hgv⟩ : ∃ gv, getO E G iq = gv := ⟨_, rfl⟩
      rw [hgv] at h1 h2
      clear hgv
      go_wp2_with fail
      refine h1.mono ?_
      clear h1
      rintro _ w5 ⟨rfl, hw⟩
      subst hw
      go_wp2_with fail
      refine h2.mono ?_
      clear h2
      rintro _ w6 ⟨rfl, hw⟩
      subst hw
      have R := HP.out _ HL4.out.b
      go_wp2
      first | exact R | (go_ret; exact R)
end Go.Proofs.Ythanmgejgmhccaa
