/-
  OverlayOrder: cells that are set in one order or the other end the same; the last Set of a cell counts.
-/
import Derived.Test.YthanmgejgmhccaaLx
set_option maxRecDepth 20000
namespace Go.Proofs.Ythanmgejgmhccaa
open C Go.RowKit Go.Shelf

set_option maxRecDepth 1000000 in
set_option maxHeartbeats 8000000 in
theorem overlayOrder_walk (a la : Option Addr) (n c ln lc : Nat) (P : Nat → Nat → Int) (iq kq : Int) (w : World) (hR : Runs w a n) (hO : Ops w la ln P) :
    Calls Try.prog 6 #[.slice a n c, .slice la ln lc, .int .i64 iq, .int .i64 kq] w fun e w' => e = .returned (.bool true) ∧ Below w.heap.size w w' := by
  obtain ⟨Post, hPost⟩ : ∃ Post : Ending → World → Prop, Post = fun e w' => e = .returned (.bool true) ∧ Below w.heap.size w w' := ⟨_, rfl⟩
  rw [← hPost]
  have HP : Hid (∀ w', Below w.heap.size w w' → Post (.returned (.bool true)) w') := fun w' h => by rw [hPost]; exact ⟨rfl, h⟩
  clear hPost
  have HS : Hid (Runs w a n ∧ Ops w la ln P) := ⟨hR, hO⟩
  have haw := awake_c w
  clear hR hO
  go_enter Try.func6, Try.ntmps6
  go_wp2_with fail
  refine haw.mono ?_
  clear haw
  rintro _ w1 ⟨rfl, hb1⟩
  by_cases hn : n ≤ 1000
  case neg =>
    have hn' : decide ((1000 : Int) < n) = true := decide_eq_true (by omega)
    have R := HP.out w1 hb1
    clear HP HS
    go_wp2
    first | exact R | (go_ret; exact R)
  have hn' : decide ((1000 : Int) < n) = false := decide_eq_false (by omega)
  by_cases hl : ln ≤ 100
  case neg =>
    have hl' : decide ((100 : Int) < ln) = true := decide_eq_true (by omega)
    have R := HP.out w1 hb1
    clear HP HS
    go_wp2
    first | exact R | (go_ret; exact R)
  have hl' : decide ((100 : Int) < ln) = false := decide_eq_false (by omega)
  by_cases hi0 : iq < 0
  case pos =>
    have R := HP.out w1 hb1
    clear HP HS
    go_wp2
    first | exact R | (go_ret; exact R)
  by_cases hi1 : 32768 ≤ iq
  case pos =>
    have R := HP.out w1 hb1
    clear HP HS
    go_wp2
    first | exact R | (go_ret; exact R)
  by_cases hk0 : kq < 0
  case pos =>
    have R := HP.out w1 hb1
    clear HP HS
    go_wp2
    first | exact R | (go_ret; exact R)
  by_cases hk1 : 16 ≤ kq
  case pos =>
    have R := HP.out w1 hb1
    clear HP HS
    go_wp2
    first | exact R | (go_ret; exact R)
  have hc := cells_c a n c none 0 0 w1 (HS.out.1.on hb1) (nums_nil _) hn (by omega)
  go_wp2_with fail
  refine hc.mono ?_
  clear hc
  rintro _ w2 ⟨rfl, G, hB2, gl, gk, hb2⟩
  have HIK : Hid ((0 ≤ iq ∧ iq < 32768) ∧ 0 ≤ kq ∧ kq < 16) := ⟨⟨by omega, by omega⟩, by omega, by omega⟩
  clear hi0 hi1 hk0 hk1
  have hc := made_c w1.heap.size 32768 G w2 (blk_pre hB2) gl gk
  go_wp2_with fail
  refine hc.mono ?_
  clear hc
  rintro _ w3 ⟨rfl, hC3, hb3⟩
  have hb02 : Below w.heap.size w w2 := hb1.trans (hb2.mono hb1.size)
  have hb03 : Below w.heap.size w w3 := hb02.trans (hb3.mono hb02.size)
  have hD3 := hC3.lt
  have hD0 := hb02.size
  obtain ⟨D, hD⟩ : ∃ D, w2.heap.size = D := ⟨_, rfl⟩
  rw [hD] at hC3 hD3 hD0
  rw [hD]
  clear hD hB2 hb1 hb2 hb3 hb02
  have hc := new_ov D G none none w3 hC3 gl gk ⟨.inl ⟨rfl, rfl⟩⟩
  go_wp2_with fail
  refine hc.mono ?_
  clear hc
  rintro _ w4 ⟨o, e, g, E, rfl, hN, hV, hb4⟩
  have HL0 : Hid (Lo w w3.heap.size D o e g E G false w4) := ⟨hV, hC3.on hb4, hD3, hD0, hb03.trans (hb4.mono hb03.size)⟩
  obtain ⟨B, hBe⟩ : ∃ B, w3.heap.size = B := ⟨_, rfl⟩
  have hs4 := hb4.size
  rw [hBe] at HL0 hs4
  clear hBe hV hb4 hC3 hD3 hD0 hb03
  have hc := new_ov D G none none w4 HL0.out.c gl gk ⟨.inl ⟨rfl, rfl⟩⟩
  go_wp2_with fail
  refine hc.mono ?_
  clear hc
  rintro _ w5 ⟨p, q, r, F, rfl, hM, hV, hb5⟩
  have hFE := hM.same hN
  rw [hFE] at hV
  clear hFE hM hN
  have HB0 : Hid (Lb w B w4.heap.size D o e g p q r E E G false false w5) := ⟨HL0.out.on hb5, hV, hs4, HL0.out.ov.lt, HL0.out.ov.eb.lt, HL0.out.ov.gb.lt⟩
  obtain ⟨B2, hBe⟩ : ∃ B2, w4.heap.size = B2 := ⟨_, rfl⟩
  rw [hBe] at HB0
  clear hBe hV hb5 HL0 hs4 gl gk hn' hl' hn F
  have hc := set_o HB0.out.b iq kq
  go_wp2_with fail
  refine hc.mono ?_
  clear hc
  rintro _ w6 ⟨rfl, hO6, ho6⟩
  have HB1 : Hid (Lb w B B2 D o e g p q r E (setE E G iq kq) G false (setD E G false iq kq) w6) := HB0.out.setb hO6 ho6
  have HA1 : Hid (Alike E (setE E G iq kq) G iq kq) := Alike.first HB0.out.b.sp HIK.out.2
  clear hO6 ho6 HB0
  go_wp2_with fail
  go_loopw [15] (fun vx wr => ∃ i : Nat, i ≤ ln ∧ vx = .int .i64 (i : Int) ∧ Hid (∃ E F d c, Lb w B B2 D o e g p q r E F G d c wr ∧ Alike E F G iq kq)) (fun vx _ => ln - (intOf vx).toNat)
  case atStart => exact ⟨0, by omega, rfl, _, _, _, _, HB1.out, HA1.out⟩
  case round =>
    clear HB1 HA1
    obtain ⟨i, hi, rfl, HJ⟩ := hrel
    by_cases hx : i < ln
    case pos =>
      have hx' : (i : Int) < (ln : Int) := by omega
      obtain ⟨E, F, d, c, hLb, hAl⟩ := HJ.out
      have HL : Hid (Lb w B B2 D o e g p q r E F G d c wr) := hLb
      have HA : Hid (Alike E F G iq kq) := hAl
      obtain ⟨lb, lo, rfl, hrd⟩ := HS.out.2.reads hx
      obtain ⟨z, hzz⟩ : ∃ z, P i 0 = z := ⟨_, rfl⟩
      obtain ⟨x, hxx⟩ : ∃ x, P i 1 = x := ⟨_, rfl⟩
      obtain ⟨y, hyy⟩ : ∃ y, P i 2 = y := ⟨_, rfl⟩
      rw [hzz, hxx, hyy] at hrd
      have Hrd : Hid (∀ u, Below w.heap.size w u → u.cell? ⟨lb, lo + i * 3, none⟩ = some (.int .i64 z) ∧ u.cell? ⟨lb, lo + i * 3 + 1, none⟩ = some (.int .i64 x) ∧ u.cell? ⟨lb, lo + i * 3 + 2, none⟩ = some (.int .i64 y)) := hrd
      clear hLb hAl HJ hrd hxx hyy hzz
      go_wp2_with fail
      refine region_L (fun u => Below w.heap.size w u) 99 (by kernel_rfl) ?_
      have HV : Hid (Lb w B B2 D o e g p q r E F G d c (wr.drew)) := HL.out.on (Below.refl _ wr).drew
      clear HL
      generalize wr.drew = va at *
      have hHeld : (fun u => Below w.heap.size w u) va := HV.out.a.b
      have hne : Nonempty (Sub (fun u => Below w.heap.size w u)) := ⟨⟨_, hHeld⟩⟩
      have k1 : ∀ s : Sub (fun u => Below w.heap.size w u), s.w.cell? ⟨lb, lo + i * 3 + 1, none⟩ = some (.int .i64 x) := fun s => (Hrd.out s.w (s.ok)).2.1
      have k2 : ∀ s : Sub (fun u => Below w.heap.size w u), s.w.cell? ⟨lb, lo + i * 3 + 2, none⟩ = some (.int .i64 y) := fun s => (Hrd.out s.w (s.ok)).2.2
      refine take_L (i := 0) rfl (by kernel_rfl) (by kernel_rfl) (by kernel_rfl) (by kernel_rfl) (fun _ _ _ _ h => h) (by exact hHeld) (fun K hK => ?_)
      go_simp
      refine hK _ ?_
      clear hK K
      refine take_L (i := 1) rfl (by kernel_rfl) (by kernel_rfl) (by kernel_rfl) (by kernel_rfl) (fun _ _ _ _ h => h) (by exact hHeld) (fun K hK => ?_)
      go_simp
      refine hK _ ?_
      clear hK K
      refine take_L (i := 2) rfl (by kernel_rfl) (by kernel_rfl) (by kernel_rfl) (by kernel_rfl) (fun _ _ _ _ h => h) (by exact hHeld) (fun K hK => ?_)
      go_simp
      refine hK _ ?_
      clear hK K
      refine take_L (i := 3) rfl (by kernel_rfl) (by kernel_rfl) (by kernel_rfl) (by kernel_rfl) (fun _ _ _ _ h => h) (by exact hHeld) (fun K hK => ?_)
      go_simp
      refine hK _ ?_
      clear hK K
      refine take_L (i := 4) rfl (by kernel_rfl) (by kernel_rfl) (by kernel_rfl) (by kernel_rfl) (fun _ _ _ _ h => h) (by exact hHeld) (fun K hK => ?_)
      go_simp
      refine hK _ ?_
      clear hK K
      refine take_L (i := 5) rfl (by kernel_rfl) (by kernel_rfl) (by kernel_rfl) (by kernel_rfl) (fun _ _ _ _ h => h) (by exact hHeld) (fun K hK => ?_)
      go_simp
      refine hK _ ?_
      clear hK K
      refine take_L (i := 6) rfl (by kernel_rfl) (by kernel_rfl) (by kernel_rfl) (by kernel_rfl) (fun _ _ _ _ h => h) (by exact hHeld) (fun K hK => ?_)
      go_simp
      refine hK _ ?_
      clear hK K
      refine take_L (i := 7) rfl (by kernel_rfl) (by kernel_rfl) (by kernel_rfl) (by kernel_rfl) (fun _ _ _ _ h => h) (by exact hHeld) (fun K hK => ?_)
      go_simp
      refine hK _ ?_
      clear hK K
      refine take_L (i := 8) rfl (by kernel_rfl) (by kernel_rfl) (by kernel_rfl) (by kernel_rfl) (fun _ _ _ _ h => h) (by exact hHeld) (fun K hK => ?_)
      go_simp
      refine hK _ ?_
      clear hK K
      refine take_L (i := 9) rfl (by kernel_rfl) (by kernel_rfl) (by kernel_rfl) (by kernel_rfl) (fun _ _ _ _ h => h) (by exact hHeld) (fun K hK => ?_)
      go_simp
      refine hK _ ?_
      clear hK K
      refine take_L (i := 10) rfl (by kernel_rfl) (by kernel_rfl) (by kernel_rfl) (by kernel_rfl) (fun _ _ _ _ h => h) (by exact hHeld) (fun K hK => ?_)
      go_simp
      refine hK _ ?_
      clear hK K
      have hset := set_o HV.out.a.ov x y
      refine one_L (i := 11) (by kernel_rfl) rfl (fun K hK => ?_)
      go_simp
      refine hset.mono ?_
      clear hset
      rintro _ w4 ⟨rfl, hO4, ho4⟩
      have HE : Hid (Sp E G ∧ Sp F G) := ⟨HV.out.a.ov.sp, HV.out.b.sp⟩
      have H4 : Hid (Lb w B B2 D o e g p q r (setE E G x y) F G (setD E G d x y) c w4) := HV.out.seta hO4 ho4
      clear hO4 ho4
      have hHeld2 : (fun u => Below w.heap.size w u) w4 := H4.out.a.b
      refine hK.out _ _ (fun _ => hHeld2) ?_
      clear hK K hHeld hne k1 k2 HV
      refine done_L (by kernel_rfl) ?_ _
      clear hHeld2
      have k1 := (Hrd.out w4 H4.out.a.b).2.1
      by_cases hxi : x = iq
      case pos =>
        subst hxi
        have HA2 : Hid (Alike (setE E G x y) F G x kq) := HA.out.one HE.out.1
        go_wp2
        go_roundw
        case rel => exact ⟨i + 1, by omega, by go_num, _, _, _, _, H4.out, HA2.out⟩
        case measure => simp [intOf]; omega
      have hxi' : (x != iq) = true := by simp [hxi]
      have HA2 : Hid (Alike (setE E G x y) (setE F G x y) G iq kq) := HA.out.both HE.out.1 HE.out.2 hxi
      clear HA
      obtain ⟨E4, hE4⟩ : ∃ E4, setE E G x y = E4 := ⟨_, rfl⟩
      obtain ⟨d4, hd4⟩ : ∃ d4, setD E G d x y = d4 := ⟨_, rfl⟩
      rw [hE4] at H4 HA2
      rw [hd4] at H4
      clear hE4 hd4 HE
      go_wp2_with fail
      refine region_L (fun u => Below w.heap.size w u) 99 (by kernel_rfl) ?_
      have HV : Hid (Lb w B B2 D o e g p q r E4 F G d4 c (w4.drew)) := H4.out.on (Below.refl _ w4).drew
      clear H4
      generalize w4.drew = va at *
      have hHeld : (fun u => Below w.heap.size w u) va := HV.out.a.b
      have hne : Nonempty (Sub (fun u => Below w.heap.size w u)) := ⟨⟨_, hHeld⟩⟩
      have k1 : ∀ s : Sub (fun u => Below w.heap.size w u), s.w.cell? ⟨lb, lo + i * 3 + 1, none⟩ = some (.int .i64 x) := fun s => (Hrd.out s.w (s.ok)).2.1
      have k2 : ∀ s : Sub (fun u => Below w.heap.size w u), s.w.cell? ⟨lb, lo + i * 3 + 2, none⟩ = some (.int .i64 y) := fun s => (Hrd.out s.w (s.ok)).2.2
      refine take_L (i := 0) rfl (by kernel_rfl) (by kernel_rfl) (by kernel_rfl) (by kernel_rfl) (fun _ _ _ _ h => h) (by exact hHeld) (fun K hK => ?_)
      go_simp
      refine hK _ ?_
      clear hK K
      refine take_L (i := 1) rfl (by kernel_rfl) (by kernel_rfl) (by kernel_rfl) (by kernel_rfl) (fun _ _ _ _ h => h) (by exact hHeld) (fun K hK => ?_)
      go_simp
      refine hK _ ?_
      clear hK K
      refine take_L (i := 2) rfl (by kernel_rfl) (by kernel_rfl) (by kernel_rfl) (by kernel_rfl) (fun _ _ _ _ h => h) (by exact hHeld) (fun K hK => ?_)
      go_simp
      refine hK _ ?_
      clear hK K
      refine take_L (i := 3) rfl (by kernel_rfl) (by kernel_rfl) (by kernel_rfl) (by kernel_rfl) (fun _ _ _ _ h => h) (by exact hHeld) (fun K hK => ?_)
      go_simp
      refine hK _ ?_
      clear hK K
      refine take_L (i := 4) rfl (by kernel_rfl) (by kernel_rfl) (by kernel_rfl) (by kernel_rfl) (fun _ _ _ _ h => h) (by exact hHeld) (fun K hK => ?_)
      go_simp
      refine hK _ ?_
      clear hK K
      refine take_L (i := 5) rfl (by kernel_rfl) (by kernel_rfl) (by kernel_rfl) (by kernel_rfl) (fun _ _ _ _ h => h) (by exact hHeld) (fun K hK => ?_)
      go_simp
      refine hK _ ?_
      clear hK K
      refine take_L (i := 6) rfl (by kernel_rfl) (by kernel_rfl) (by kernel_rfl) (by kernel_rfl) (fun _ _ _ _ h => h) (by exact hHeld) (fun K hK => ?_)
      go_simp
      refine hK _ ?_
      clear hK K
      refine take_L (i := 7) rfl (by kernel_rfl) (by kernel_rfl) (by kernel_rfl) (by kernel_rfl) (fun _ _ _ _ h => h) (by exact hHeld) (fun K hK => ?_)
      go_simp
      refine hK _ ?_
      clear hK K
      refine take_L (i := 8) rfl (by kernel_rfl) (by kernel_rfl) (by kernel_rfl) (by kernel_rfl) (fun _ _ _ _ h => h) (by exact hHeld) (fun K hK => ?_)
      go_simp
      refine hK _ ?_
      clear hK K
      refine take_L (i := 9) rfl (by kernel_rfl) (by kernel_rfl) (by kernel_rfl) (by kernel_rfl) (fun _ _ _ _ h => h) (by exact hHeld) (fun K hK => ?_)
      go_simp
      refine hK _ ?_
      clear hK K
      refine take_L (i := 10) rfl (by kernel_rfl) (by kernel_rfl) (by kernel_rfl) (by kernel_rfl) (fun _ _ _ _ h => h) (by exact hHeld) (fun K hK => ?_)
      go_simp
      refine hK _ ?_
      clear hK K
      have hset := set_o HV.out.b x y
      refine one_L (i := 11) (by kernel_rfl) rfl (fun K hK => ?_)
      go_simp
      refine hset.mono ?_
      clear hset
      rintro _ w5 ⟨rfl, hO5, ho5⟩
      have H5 : Hid (Lb w B B2 D o e g p q r E4 (setE F G x y) G d4 (setD F G c x y) w5) := HV.out.setb hO5 ho5
      clear hO5 ho5
      have hHeld2 : (fun u => Below w.heap.size w u) w5 := H5.out.a.b
      refine hK.out _ _ (fun _ => hHeld2) ?_
      clear hK K hHeld hne k1 k2 HV
      refine done_L (by kernel_rfl) ?_ _
      clear hHeld2 k1
      go_wp2
      go_roundw
      case rel => exact ⟨i + 1, by omega, by go_num, _, _, _, _, H5.out, HA2.out⟩
      case measure => simp [intOf]; omega
    case neg =>
      have hx' : ¬ (i : Int) < (ln : Int) := by omega
      obtain ⟨E, F, d, c, hLb, hAl⟩ := HJ.out
      have HL : Hid (Lb w B B2 D o e g p q r E F G d c wr) := hLb
      have HA : Hid (setE E G iq kq = F) := hAl.last hLb.a.ov.sp hLb.b.sp HIK.out.2
      have HG : Hid (getO F G iq = kq) := by rw [← HA.out]; exact getO_set hLb.a.ov.sp HIK.out.1 HIK.out.2
      clear hLb hAl HJ HS
      have hc := set_o HL.out.a.ov iq kq
      unfold SetSay at hc
      rw [HA.out] at hc
      go_wp2_with fail
      refine hc.mono ?_
      clear hc
      rintro _ w7 ⟨rfl, hO7, ho7⟩
      have H7 : Hid (Lb w B B2 D o e g p q r F F G (setD E G d iq kq) c w7) := HL.out.seta hO7 ho7
      obtain ⟨d7, hd7⟩ : ∃ d7, setD E G d iq kq = d7 := ⟨_, rfl⟩
      rw [hd7] at H7
      clear hO7 ho7 HL hd7 HA
      go_wp2_with fail
      obtain ⟨va, hva⟩ : ∃ va, w7.drew = va := ⟨_, rfl⟩
      refine region_L (Kq va []) 99 (by kernel_rfl) ?_
      have HX : Hid (Lb w B B2 D o e g p q r F F G d7 c va) := by rw [← hva]; exact H7.out.on (Below.refl _ w7).drew
      rw [hva]
      clear hva H7
      have hHeld : Kq va [] va := Kq.nil (Below.refl _ _)
      obtain ⟨Z_E, hZ⟩ : ∃ X, strOfNums F = X := ⟨_, rfl⟩
      have Z_Ee : Hid (strOfNums F = Z_E) := hZ
      clear hZ
      have hne : Nonempty (Sub (Kq va [])) := ⟨⟨_, hHeld⟩⟩
      refine take_L (i := 0) rfl (by kernel_rfl) (by kernel_rfl) (by kernel_rfl) (by kernel_rfl) (fun _ _ _ _ h => h) (by exact hHeld) (fun K hK => ?_)
      go_simp
      refine hK _ ?_
      clear hK K
      refine take_L (i := 1) rfl (by kernel_rfl) (by kernel_rfl) (by kernel_rfl) (by kernel_rfl) (fun _ _ _ _ h => h) (by exact hHeld) (fun K hK => ?_)
      go_simp
      refine hK _ ?_
      clear hK K
      refine take_L (i := 3) rfl (by kernel_rfl) (by kernel_rfl) (by kernel_rfl) (by kernel_rfl) (fun _ _ _ _ h => h) (by exact hHeld) (fun K hK => ?_)
      go_simp
      refine hK _ ?_
      clear hK K
      have hc := (by have h := get_q hHeld HX.out.a.ov iq; rw [HG.out] at h; exact h)
      refine one_L (i := 2) (by kernel_rfl) rfl (fun K hK => ?_)
      go_simp
      refine hc.mono ?_
      clear hc
      rintro _ u1 ⟨rfl, hh⟩
      replace hHeld := hh
      clear hh
      refine hK.out _ _ (fun _ => hHeld) ?_
      clear hK K
      refine take_L (i := 4) rfl (by kernel_rfl) (by kernel_rfl) (by kernel_rfl) (by kernel_rfl) (fun _ _ _ _ h => h) (by exact hHeld) (fun K hK => ?_)
      go_simp
      refine hK _ ?_
      clear hK K
      refine take_L (i := 5) rfl (by kernel_rfl) (by kernel_rfl) (by kernel_rfl) (by kernel_rfl) (fun _ _ _ _ h => h) (by exact hHeld) (fun K hK => ?_)
      go_simp
      refine hK _ ?_
      clear hK K
      refine take_L (i := 6) rfl (by kernel_rfl) (by kernel_rfl) (by kernel_rfl) (by kernel_rfl) (fun _ _ _ _ h => h) (by exact hHeld) (fun K hK => ?_)
      go_simp
      refine hK _ ?_
      clear hK K
      refine take_L (i := 10) rfl (by kernel_rfl) (by kernel_rfl) (by kernel_rfl) (by kernel_rfl) (fun _ _ _ _ h => h) (by exact hHeld) (fun K hK => ?_)
      go_simp
      refine hK _ ?_
      clear hK K
      have hc := fin_q hHeld HX.out.a.ov
      refine one_L (i := 7) (by kernel_rfl) rfl (fun K hK => ?_)
      go_simp
      refine hc.mono ?_
      clear hc
      rintro _ u2 ⟨x2, f2, rfl, hB2, hF2, hh⟩
      replace hHeld := hh
      clear hh
      have HMISSFF : Hid _ := hF2
      clear hF2
      obtain ⟨Z_F, hZ⟩ : ∃ X, strOfNums f2 = X := ⟨_, rfl⟩
      have Z_Fe : Hid (strOfNums f2 = Z_F) := hZ
      clear hZ
      refine hK.out _ _ (fun _ => hHeld) ?_
      clear hK K
      have hc := bytes_q hHeld hB2 HMISSFF.out.len HMISSFF.out.k
      refine one_L (i := 8) (by kernel_rfl) rfl (fun K hK => ?_)
      go_simp
      refine hc.mono ?_
      clear hc
      rintro _ u3 ⟨g3, rfl, hh⟩
      replace hHeld := hh
      clear hh hB2
      refine hK.out _ _ (fun _ => kq_less _ hHeld) ?_
      clear hK K hne  
      refine wpAnyL_strong (S' := Kq va ((g3, f2) :: [])) kq_less _ _ _ _ ?_
      have hne : Nonempty (Sub (Kq va ((g3, f2) :: []))) := ⟨⟨_, hHeld⟩⟩
      have kt : ∀ s : Sub (Kq va ((g3, f2) :: [])), (convert 32 9 (.slice (some ⟨g3, 0, none⟩) 32768 32768)).run Try.prog s.w = .ok (.string Z_F) s.w := kq_text Z_Fe.out
      refine take_L (i := 9) rfl (by kernel_rfl) (by kernel_rfl) (by kernel_rfl) (by kernel_rfl) (fun _ _ _ _ h => h) (by exact hHeld) (fun K hK => ?_)
      go_simp
      refine hK _ ?_
      clear hK K
      have hc := fin_q hHeld HX.out.b
      refine one_L (i := 11) (by kernel_rfl) rfl (fun K hK => ?_)
      go_simp
      refine hc.mono ?_
      clear hc
      rintro _ u4 ⟨x4, f4, rfl, hB4, hF4, hh⟩
      replace hHeld := hh
      clear hh
      rw [hF4.same HMISSFF.out] at hB4
      clear hF4
      refine hK.out _ _ (fun _ => hHeld) ?_
      clear hK K
      have hc := bytes_q hHeld hB4 HMISSFF.out.len HMISSFF.out.k
      refine one_L (i := 12) (by kernel_rfl) rfl (fun K hK => ?_)
      go_simp
      refine hc.mono ?_
      clear hc
      rintro _ u5 ⟨g5, rfl, hh⟩
      replace hHeld := hh
      clear hh hB4
      refine hK.out _ _ (fun _ => kq_less _ hHeld) ?_
      clear hK K hne  kt
      refine wpAnyL_strong (S' := Kq va ((g5, f2) :: ((g3, f2) :: []))) kq_less _ _ _ _ ?_
      have hne : Nonempty (Sub (Kq va ((g5, f2) :: ((g3, f2) :: [])))) := ⟨⟨_, hHeld⟩⟩
      have kt : ∀ s : Sub (Kq va ((g5, f2) :: ((g3, f2) :: []))), (convert 32 9 (.slice (some ⟨g5, 0, none⟩) 32768 32768)).run Try.prog s.w = .ok (.string Z_F) s.w := kq_text Z_Fe.out
      refine take_L (i := 13) rfl (by kernel_rfl) (by kernel_rfl) (by kernel_rfl) (by kernel_rfl) (fun _ _ _ _ h => h) (by exact hHeld) (fun K hK => ?_)
      go_simp
      refine hK _ ?_
      clear hK K
      refine take_L (i := 14) rfl (by kernel_rfl) (by kernel_rfl) (by kernel_rfl) (by kernel_rfl) (fun _ _ _ _ h => h) (by exact hHeld) (fun K hK => ?_)
      go_simp
      refine hK _ ?_
      clear hK K
      refine take_L (i := 15) rfl (by kernel_rfl) (by kernel_rfl) (by kernel_rfl) (by kernel_rfl) (fun _ _ _ _ h => h) (by exact hHeld) (fun K hK => ?_)
      go_simp
      refine hK _ ?_
      clear hK K
      refine take_L (i := 16) rfl (by kernel_rfl) (by kernel_rfl) (by kernel_rfl) (by kernel_rfl) (fun _ _ _ _ h => h) (by exact hHeld) (fun K hK => ?_)
      go_simp
      refine hK _ ?_
      clear hK K
      refine take_L (i := 17) rfl (by kernel_rfl) (by kernel_rfl) (by kernel_rfl) (by kernel_rfl) (fun _ _ _ _ h => h) (by exact hHeld) (fun K hK => ?_)
      go_simp
      refine hK _ ?_
      clear hK K
      refine take_L (i := 21) rfl (by kernel_rfl) (by kernel_rfl) (by kernel_rfl) (by kernel_rfl) (fun _ _ _ _ h => h) (by exact hHeld) (fun K hK => ?_)
      go_simp
      refine hK _ ?_
      clear hK K
      have hc := ed_q hHeld HX.out.a.ov
      refine one_L (i := 18) (by kernel_rfl) rfl (fun K hK => ?_)
      go_simp
      refine hc.mono ?_
      clear hc
      rintro _ u6 ⟨x6, rfl, hB6, hh⟩
      replace hHeld := hh
      clear hh
      refine hK.out _ _ (fun _ => hHeld) ?_
      clear hK K
      have hc := bytes_q hHeld hB6 HX.out.b.sp.el HX.out.b.sp.ek
      refine one_L (i := 19) (by kernel_rfl) rfl (fun K hK => ?_)
      go_simp
      refine hc.mono ?_
      clear hc
      rintro _ u7 ⟨g7, rfl, hh⟩
      replace hHeld := hh
      clear hh hB6
      refine hK.out _ _ (fun _ => kq_less _ hHeld) ?_
      clear hK K hne  kt
      refine wpAnyL_strong (S' := Kq va ((g7, F) :: ((g5, f2) :: ((g3, f2) :: [])))) kq_less _ _ _ _ ?_
      have hne : Nonempty (Sub (Kq va ((g7, F) :: ((g5, f2) :: ((g3, f2) :: []))))) := ⟨⟨_, hHeld⟩⟩
      have kt : ∀ s : Sub (Kq va ((g7, F) :: ((g5, f2) :: ((g3, f2) :: [])))), (convert 32 9 (.slice (some ⟨g7, 0, none⟩) 32768 32768)).run Try.prog s.w = .ok (.string Z_E) s.w := kq_text Z_Ee.out
      refine take_L (i := 20) rfl (by kernel_rfl) (by kernel_rfl) (by kernel_rfl) (by kernel_rfl) (fun _ _ _ _ h => h) (by exact hHeld) (fun K hK => ?_)
      go_simp
      refine hK _ ?_
      clear hK K
      have hc := ed_q hHeld HX.out.b
      refine one_L (i := 22) (by kernel_rfl) rfl (fun K hK => ?_)
      go_simp
      refine hc.mono ?_
      clear hc
      rintro _ u8 ⟨x8, rfl, hB8, hh⟩
      replace hHeld := hh
      clear hh
      refine hK.out _ _ (fun _ => hHeld) ?_
      clear hK K
      have hc := bytes_q hHeld hB8 HX.out.b.sp.el HX.out.b.sp.ek
      refine one_L (i := 23) (by kernel_rfl) rfl (fun K hK => ?_)
      go_simp
      refine hc.mono ?_
      clear hc
      rintro _ u9 ⟨g9, rfl, hh⟩
      replace hHeld := hh
      clear hh hB8
      refine hK.out _ _ (fun _ => kq_less _ hHeld) ?_
      clear hK K hne  kt
      refine wpAnyL_strong (S' := Kq va ((g9, F) :: ((g7, F) :: ((g5, f2) :: ((g3, f2) :: []))))) kq_less _ _ _ _ ?_
      have hne : Nonempty (Sub (Kq va ((g9, F) :: ((g7, F) :: ((g5, f2) :: ((g3, f2) :: [])))))) := ⟨⟨_, hHeld⟩⟩
      have kt : ∀ s : Sub (Kq va ((g9, F) :: ((g7, F) :: ((g5, f2) :: ((g3, f2) :: []))))), (convert 32 9 (.slice (some ⟨g9, 0, none⟩) 32768 32768)).run Try.prog s.w = .ok (.string Z_E) s.w := kq_text Z_Ee.out
      refine take_L (i := 24) rfl (by kernel_rfl) (by kernel_rfl) (by kernel_rfl) (by kernel_rfl) (fun _ _ _ _ h => h) (by exact hHeld) (fun K hK => ?_)
      go_simp
      refine hK _ ?_
      clear hK K
      refine take_L (i := 25) rfl (by kernel_rfl) (by kernel_rfl) (by kernel_rfl) (by kernel_rfl) (fun _ _ _ _ h => h) (by exact hHeld) (fun K hK => ?_)
      go_simp
      refine hK _ ?_
      clear hK K
      refine take_L (i := 26) rfl (by kernel_rfl) (by kernel_rfl) (by kernel_rfl) (by kernel_rfl) (fun _ _ _ _ h => h) (by exact hHeld) (fun K hK => ?_)
      go_simp
      refine hK _ ?_
      clear hK K
      refine take_L (i := 27) rfl (by kernel_rfl) (by kernel_rfl) (by kernel_rfl) (by kernel_rfl) (fun _ _ _ _ h => h) (by exact hHeld) (fun K hK => ?_)
      go_simp
      refine hK _ ?_
      clear hK K
      refine take_L (i := 28) rfl (by kernel_rfl) (by kernel_rfl) (by kernel_rfl) (by kernel_rfl) (fun _ _ _ _ h => h) (by exact hHeld) (fun K hK => ?_)
      go_simp
      refine hK _ ?_
      clear hK K
      refine take_L (i := 30) rfl (by kernel_rfl) (by kernel_rfl) (by kernel_rfl) (by kernel_rfl) (fun _ _ _ _ h => h) (by exact hHeld) (fun K hK => ?_)
      go_simp
      refine hK _ ?_
      clear hK K
      have hc := many_q hHeld HX.out.a.ov
      refine one_L (i := 29) (by kernel_rfl) rfl (fun K hK => ?_)
      go_simp
      refine hc.mono ?_
      clear hc
      rintro _ u10 ⟨rfl, hh⟩
      replace hHeld := hh
      clear hh
      refine hK.out _ _ (fun _ => hHeld) ?_
      clear hK K
      have hc := many_q hHeld HX.out.b
      refine one_L (i := 31) (by kernel_rfl) rfl (fun K hK => ?_)
      go_simp
      refine hc.mono ?_
      clear hc
      rintro _ u11 ⟨rfl, hh⟩
      replace hHeld := hh
      clear hh
      refine hK.out _ _ (fun _ => hHeld) ?_
      clear hK K
      refine take_L (i := 32) rfl (by kernel_rfl) (by kernel_rfl) (by kernel_rfl) (by kernel_rfl) (fun _ _ _ _ h => h) (by exact hHeld) (fun K hK => ?_)
      go_simp
      refine hK _ ?_
      clear hK K
      refine take_L (i := 33) rfl (by kernel_rfl) (by kernel_rfl) (by kernel_rfl) (by kernel_rfl) (fun _ _ _ _ h => h) (by exact hHeld) (fun K hK => ?_)
      go_simp
      refine hK _ ?_
      clear hK K
      refine one_L (i := 34) (by kernel_rfl) rfl (fun K hK => ?_)
      go_simp
      refine hK.out _ _ (fun _ => hHeld) ?_
      clear hK K
      refine done_L (by kernel_rfl) ?_ _
      clear hne  kt
      have R := HP.out _ (HX.out.a.b.trans (hHeld.b.mono HX.out.a.b.size))
      clear HX HP HMISSFF Z_Fe Z_Ee hHeld HG
      go_wp2
      first | exact R | (go_ret; exact R)
end Go.Proofs.Ythanmgejgmhccaa
