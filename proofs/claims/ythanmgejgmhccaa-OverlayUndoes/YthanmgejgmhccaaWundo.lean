/-
  OverlayUndoes: what was set back to what was generated is not edited.
-/
import Derived.Test.YthanmgejgmhccaaLx
set_option maxRecDepth 20000
namespace Go.Proofs.Ythanmgejgmhccaa
open C Go.RowKit Go.Shelf

set_option maxRecDepth 1000000 in
set_option maxHeartbeats 8000000 in
theorem overlayUndoes_walk (a la : Option Addr) (n c ln lc : Nat) (P : Nat → Nat → Int) (w : World) (hR : Runs w a n) (hO : Ops w la ln P) :
    Calls Try.prog 5 #[.slice a n c, .slice la ln lc] w fun e w' => e = .returned (.bool true) ∧ Below w.heap.size w w' := by
  obtain ⟨Post, hPost⟩ : ∃ Post : Ending → World → Prop, Post = fun e w' => e = .returned (.bool true) ∧ Below w.heap.size w w' := ⟨_, rfl⟩
  rw [← hPost]
  have HP : Hid (∀ w', Below w.heap.size w w' → Post (.returned (.bool true)) w') := fun w' h => by rw [hPost]; exact ⟨rfl, h⟩
  clear hPost
  have HS : Hid (Runs w a n ∧ Ops w la ln P) := ⟨hR, hO⟩
  have haw := awake_c w
  clear hR hO
  go_enter Try.func5, Try.ntmps5
  go_wp2_with fail
  refine haw.mono ?_
  clear haw
  rintro _ w1 ⟨rfl, hb1⟩
  by_cases hn : n ≤ 1000
  case neg =>
    have hn' : decide ((1000 : Int) < n) = true := decide_eq_true (by omega)
    have R := HP.out w1 hb1
    clear HP HS
    go_wp2
    first | exact R | (go_ret; exact R)
  have hn' : decide ((1000 : Int) < n) = false := decide_eq_false (by omega)
  by_cases hl : ln ≤ 200
  case neg =>
    have hl' : decide ((200 : Int) < ln) = true := decide_eq_true (by omega)
    have R := HP.out w1 hb1
    clear HP HS
    go_wp2
    first | exact R | (go_ret; exact R)
  have hl' : decide ((200 : Int) < ln) = false := decide_eq_false (by omega)
  have hc := cells_c a n c none 0 0 w1 (HS.out.1.on hb1) (nums_nil _) hn (by omega)
  go_wp2_with fail
  refine hc.mono ?_
  clear hc
  rintro _ w2 ⟨rfl, G0, hB2, gl, gk, hb2⟩
  have hA0 := hb1.size
  obtain ⟨A, hA⟩ : ∃ A, w1.heap.size = A := ⟨_, rfl⟩
  have hb02 : Below w.heap.size w w2 := hb1.trans (hb2.mono hb1.size)
  rw [hA] at hA0 hB2
  rw [hA]
  clear hA hb1 hb2 hn' hl' hn
  go_wp2_with fail
  go_loopw [7] (fun vx wr => ∃ (i : Nat) (cs : List Int), i ≤ 32768 ∧ vx = .int .i64 (i : Int) ∧ Blk wr A 5 cs ∧ cs.length = 32768 ∧ Kinds cs ∧ Hid (∀ j, j < i → cs.getD j 0 < 16) ∧ Below w.heap.size w wr) (fun vx _ => 32768 - (intOf vx).toNat)
  case atStart => exact ⟨0, G0, by omega, rfl, hB2, gl, gk, fun j hj => absurd hj (Nat.not_lt_zero _), hb02⟩
  case round =>
    clear hB2 gl gk hb02
    obtain ⟨i, cs, hi, rfl, hB, hcl, hck, HC, hb⟩ := hrel
    by_cases hx : i < 32768
    case pos =>
      have hx' : (i : Int) < 32768 := by omega
      have hc := hB.cell (k := i) (by omega)
      have hf := hB.free i
      by_cases h16 : cs.getD i 0 = 16
      · rw [h16] at hc
        have R1 : Blk (wr.setCell ⟨A, i, none⟩ (.int .u8 0)) A 5 (cs.set i 0) := hB.set i 0
        have R2 : Below w.heap.size w (wr.setCell ⟨A, i, none⟩ (.int .u8 0)) := hb.setCell (p := ⟨A, i, none⟩) hA0 _
        have R3 : Hid (∀ j, j < i + 1 → (cs.set i 0).getD j 0 < 16) := fun j hj => by
          by_cases e : i = j
          · subst e; rw [getD_set_self _ _ _ (by omega)]; omega
          · rw [C.getD_set_ne _ _ e]; exact HC.out j (by omega)
        have R4 := Kinds.put hck i (k := 0) (by omega) (by omega)
        have R5 : (cs.set i 0).length = 32768 := by rw [List.length_set]; exact hcl
        clear hB hcl hck HC hb h16
        go_wp2
        go_roundw
        case rel => exact ⟨i + 1, cs.set i 0, by omega, by go_num, R1, R5, R4, R3, R2⟩
        case measure => simp [intOf]; omega
      · have R3 : Hid (∀ j, j < i + 1 → cs.getD j 0 < 16) := fun j hj => by
          by_cases e : i = j
          · subst e; have := hck.at i; omega
          · exact HC.out j (by omega)
        obtain ⟨v, hv⟩ : ∃ v, cs.getD i 0 = v := ⟨_, rfl⟩
        rw [hv] at hc h16
        have h16' : (v == 16) = false := by simp [h16]
        clear hv HC
        go_wp2
        go_roundw
        case rel => exact ⟨i + 1, cs, by omega, by go_num, hB, hcl, hck, R3, hb⟩
        case measure => simp [intOf]; omega
    case neg =>
    obtain rfl : i = 32768 := by omega
    have hcl2 := hcl
    clear hi hx
    obtain ⟨G, hG⟩ : ∃ G, cs = G := ⟨_, rfl⟩
    rw [hG] at hB hcl hck HC
    clear hG hcl2 cs
    have hc := made_c A 32768 G wr (blk_pre hB) hcl hck
    go_wp2_with fail
    refine hc.mono ?_
    clear hc
    rintro _ w3 ⟨rfl, hC3, hb3⟩
    have hAD := hB.lt
    have hb03 : Below w.heap.size w w3 := hb.trans (hb3.mono hb.size)
    have hB3 := hB.on hb3
    have hD3 := hC3.lt
    have hD0 := hb.size
    obtain ⟨D, hD⟩ : ∃ D, wr.heap.size = D := ⟨_, rfl⟩
    rw [hD] at hC3 hD3 hD0 hAD
    rw [hD]
    clear hD hB hb hb3
    have hc := new_ov D G none none w3 hC3 hcl hck ⟨.inl ⟨rfl, rfl⟩⟩
    go_wp2_with fail
    refine hc.mono ?_
    clear hc
    rintro _ w4 ⟨o, e, g, E, rfl, hN, hV, hb4⟩
    have HL0 : Hid (Lu w w3.heap.size A D o e g E G false w4) := ⟨⟨hV, hC3.on hb4, hD3, hD0, hb03.trans (hb4.mono hb03.size)⟩, hB3.on hb4, hAD⟩
    have HN : Hid (∀ j, j < 32768 → E.getD j 0 ≠ 16 → ∃ m, m < 0 ∧ P m 1 = (j : Int)) := fun j hj hne => absurd (new_none hN j hj) hne
    have HC2 : Hid (∀ j, j < 32768 → G.getD j 0 < 16) := HC.out
    obtain ⟨B, hBe⟩ : ∃ B, w3.heap.size = B := ⟨_, rfl⟩
    rw [hBe] at HL0
    clear hBe hN hV hb4 hC3 hD3 hD0 hb03 hB3 hAD HC hA0 hcl hck
    go_wp2_with fail
    go_loopw [11] (fun vx wr => ∃ i : Nat, i ≤ ln ∧ vx = .int .i64 (i : Int) ∧ Hid (∃ E d, Lu w B A D o e g E G d wr ∧ ∀ j, j < 32768 → E.getD j 0 ≠ 16 → ∃ m, m < i ∧ P m 1 = (j : Int))) (fun vx _ => ln - (intOf vx).toNat)
    case atStart => exact ⟨0, by omega, rfl, _, _, HL0.out, HN.out⟩
    case round =>
      clear HL0 HN
      obtain ⟨i, hi, rfl, HJ⟩ := hrel
      by_cases hx : i < ln
      case pos =>
        have hx' : (i : Int) < (ln : Int) := by omega
        obtain ⟨E, d, hLo, hN⟩ := HJ.out
        have HL : Hid (Lu w B A D o e g E G d wr) := hLo
        have HN : Hid (∀ j, j < 32768 → E.getD j 0 ≠ 16 → ∃ m, m < i ∧ P m 1 = (j : Int)) := hN
        have HN1 : Hid (∀ y j, j < 32768 → (setE E G (P i 1) y).getD j 0 ≠ 16 → ∃ m, m < i + 1 ∧ P m 1 = (j : Int)) := fun y => edited_more (P := fun m => P m 1) HL.out.lo.ov.sp HN.out y
        obtain ⟨lb, lo, rfl, hrd⟩ := HS.out.2.reads hx
        obtain ⟨z, hzz⟩ : ∃ z, P i 0 = z := ⟨_, rfl⟩
        obtain ⟨x, hxx⟩ : ∃ x, P i 1 = x := ⟨_, rfl⟩
        obtain ⟨y, hyy⟩ : ∃ y, P i 2 = y := ⟨_, rfl⟩
        rw [hzz, hxx, hyy] at hrd
        have Hrd : Hid (∀ u, Below w.heap.size w u → u.cell? ⟨lb, lo + i * 3, none⟩ = some (.int .i64 z) ∧ u.cell? ⟨lb, lo + i * 3 + 1, none⟩ = some (.int .i64 x) ∧ u.cell? ⟨lb, lo + i * 3 + 2, none⟩ = some (.int .i64 y)) := hrd
        rw [hxx] at HN1
        clear hLo hN HJ HN hrd hxx hyy hzz
        go_wp2_with fail
        refine region_L (fun u => Below w.heap.size w u) 99 (by kernel_rfl) ?_
        have HV : Hid (Lu w B A D o e g E G d (wr.drew)) := HL.out.on (Below.refl _ wr).drew
        clear HL
        generalize wr.drew = va at *
        have hHeld : (fun u => Below w.heap.size w u) va := HV.out.lo.b
        have hne : Nonempty (Sub (fun u => Below w.heap.size w u)) := ⟨⟨_, hHeld⟩⟩
        have k1 : ∀ s : Sub (fun u => Below w.heap.size w u), s.w.cell? ⟨lb, lo + i * 3 + 1, none⟩ = some (.int .i64 x) := fun s => (Hrd.out s.w (s.ok)).2.1
        have k2 : ∀ s : Sub (fun u => Below w.heap.size w u), s.w.cell? ⟨lb, lo + i * 3 + 2, none⟩ = some (.int .i64 y) := fun s => (Hrd.out s.w (s.ok)).2.2
        refine take_L (i := 0) rfl (by kernel_rfl) (by kernel_rfl) (by kernel_rfl) (by kernel_rfl) (fun _ _ _ _ h => h) (by exact hHeld) (fun K hK => ?_)
        go_simp
        refine hK _ ?_
        clear hK K
        refine take_L (i := 1) rfl (by kernel_rfl) (by kernel_rfl) (by kernel_rfl) (by kernel_rfl) (fun _ _ _ _ h => h) (by exact hHeld) (fun K hK => ?_)
        go_simp
        refine hK _ ?_
        clear hK K
        refine take_L (i := 2) rfl (by kernel_rfl) (by kernel_rfl) (by kernel_rfl) (by kernel_rfl) (fun _ _ _ _ h => h) (by exact hHeld) (fun K hK => ?_)
        go_simp
        refine hK _ ?_
        clear hK K
        refine take_L (i := 3) rfl (by kernel_rfl) (by kernel_rfl) (by kernel_rfl) (by kernel_rfl) (fun _ _ _ _ h => h) (by exact hHeld) (fun K hK => ?_)
        go_simp
        refine hK _ ?_
        clear hK K
        refine take_L (i := 4) rfl (by kernel_rfl) (by kernel_rfl) (by kernel_rfl) (by kernel_rfl) (fun _ _ _ _ h => h) (by exact hHeld) (fun K hK => ?_)
        go_simp
        refine hK _ ?_
        clear hK K
        refine take_L (i := 5) rfl (by kernel_rfl) (by kernel_rfl) (by kernel_rfl) (by kernel_rfl) (fun _ _ _ _ h => h) (by exact hHeld) (fun K hK => ?_)
        go_simp
        refine hK _ ?_
        clear hK K
        refine take_L (i := 6) rfl (by kernel_rfl) (by kernel_rfl) (by kernel_rfl) (by kernel_rfl) (fun _ _ _ _ h => h) (by exact hHeld) (fun K hK => ?_)
        go_simp
        refine hK _ ?_
        clear hK K
        refine take_L (i := 7) rfl (by kernel_rfl) (by kernel_rfl) (by kernel_rfl) (by kernel_rfl) (fun _ _ _ _ h => h) (by exact hHeld) (fun K hK => ?_)
        go_simp
        refine hK _ ?_
        clear hK K
        refine take_L (i := 8) rfl (by kernel_rfl) (by kernel_rfl) (by kernel_rfl) (by kernel_rfl) (fun _ _ _ _ h => h) (by exact hHeld) (fun K hK => ?_)
        go_simp
        refine hK _ ?_
        clear hK K
        refine take_L (i := 9) rfl (by kernel_rfl) (by kernel_rfl) (by kernel_rfl) (by kernel_rfl) (fun _ _ _ _ h => h) (by exact hHeld) (fun K hK => ?_)
        go_simp
        refine hK _ ?_
        clear hK K
        refine take_L (i := 10) rfl (by kernel_rfl) (by kernel_rfl) (by kernel_rfl) (by kernel_rfl) (fun _ _ _ _ h => h) (by exact hHeld) (fun K hK => ?_)
        go_simp
        refine hK _ ?_
        clear hK K
        have hset := set_o HV.out.lo.ov x y
        refine one_L (i := 11) (by kernel_rfl) rfl (fun K hK => ?_)
        go_simp
        refine hset.mono ?_
        clear hset
        rintro _ w4 ⟨rfl, hO4, ho4⟩
        have H4 : Hid (Lu w B A D o e g (setE E G x y) G (setD E G d x y) w4) := HV.out.set hO4 ho4
        clear hO4 ho4
        have hHeld2 : (fun u => Below w.heap.size w u) w4 := H4.out.lo.b
        refine hK.out _ _ (fun _ => hHeld2) ?_
        clear hK K hHeld hne k1 k2 HV
        refine done_L (by kernel_rfl) ?_ _
        clear hHeld2
        go_wp2
        go_roundw
        case rel => exact ⟨i + 1, by omega, by go_num, _, _, H4.out, HN1.out y⟩
        case measure => simp [intOf]; omega
      case neg =>
      have hx' : ¬ (i : Int) < (ln : Int) := by omega
      have HJ0 : Hid (∃ E d, Lu w B A D o e g E G d wr ∧ ∀ j, j < 32768 → E.getD j 0 ≠ 16 → ∃ m, 0 ≤ m ∧ m < ln ∧ P m 1 = (j : Int)) := by
        obtain ⟨E, d, h1, h2⟩ := HJ.out
        exact ⟨E, d, h1, fun j hj hne => by
          obtain ⟨m, hm, e⟩ := h2 j hj hne
          exact ⟨m, Nat.zero_le _, by omega, e⟩⟩
      clear HJ hi hx
      go_wp2_with fail
      go_loopw [12, 13] (fun vx _ wr => ∃ k : Nat, k ≤ ln ∧ vx = .int .i64 (k : Int) ∧ Hid (∃ E d, Lu w B A D o e g E G d wr ∧ ∀ j, j < 32768 → E.getD j 0 ≠ 16 → ∃ m, k ≤ m ∧ m < ln ∧ P m 1 = (j : Int))) (fun vx _ _ => ln - (intOf vx).toNat)
      case atStart => exact ⟨0, by omega, rfl, HJ0.out⟩
      case round =>
        clear HJ0 hx'
        obtain ⟨k, hk, rfl, HJ⟩ := hrel
        by_cases hx : k < ln
        case pos =>
          have hkx : (k : Int) < (ln : Int) := by omega
          obtain ⟨E, d, hLo, hN⟩ := HJ.out
          have HL : Hid (Lu w B A D o e g E G d wr) := hLo
          have HN : Hid (∀ j, j < 32768 → E.getD j 0 ≠ 16 → ∃ m, k ≤ m ∧ m < ln ∧ P m 1 = (j : Int)) := hN
          obtain ⟨lb, lo, rfl, hrd⟩ := HS.out.2.reads hx
          obtain ⟨z, hzz⟩ : ∃ z, P k 0 = z := ⟨_, rfl⟩
          obtain ⟨x, hxx⟩ : ∃ x, P k 1 = x := ⟨_, rfl⟩
          obtain ⟨y, hyy⟩ : ∃ y, P k 2 = y := ⟨_, rfl⟩
          rw [hzz, hxx, hyy] at hrd
          have Hrd : Hid (∀ u, Below w.heap.size w u → u.cell? ⟨lb, lo + k * 3, none⟩ = some (.int .i64 z) ∧ u.cell? ⟨lb, lo + k * 3 + 1, none⟩ = some (.int .i64 x) ∧ u.cell? ⟨lb, lo + k * 3 + 2, none⟩ = some (.int .i64 y)) := hrd
          have Hxx : Hid (P k 1 = x) := hxx
          clear hLo hN HJ hrd hxx hyy hzz
          have k1 := (Hrd.out wr HL.out.lo.b).2.1
          by_cases h0 : 0 ≤ x
          case neg =>
            have hb := HL.out.lo.b
            have HN1 : Hid (∀ j, j < 32768 → E.getD j 0 ≠ 16 → ∃ m, k + 1 ≤ m ∧ m < ln ∧ P m 1 = (j : Int)) := edited_past (P := fun m => P m 1) (by show ¬ (0 ≤ P k 1 ∧ P k 1 < 32768); rw [Hxx.out]; omega) HN.out
            go_wp2
            go_roundw
            case rel => exact ⟨k + 1, by omega, by go_num, _, _, HL.out, HN1.out⟩
            case measure => simp [intOf]; omega
          by_cases h1 : x < 32768
          case neg =>
            have HN1 : Hid (∀ j, j < 32768 → E.getD j 0 ≠ 16 → ∃ m, k + 1 ≤ m ∧ m < ln ∧ P m 1 = (j : Int)) := edited_past (P := fun m => P m 1) (by show ¬ (0 ≤ P k 1 ∧ P k 1 < 32768); rw [Hxx.out]; omega) HN.out
            go_wp2
            go_roundw
            case rel => exact ⟨k + 1, by omega, by go_num, _, _, HL.out, HN1.out⟩
            case measure => simp [intOf]; omega
          obtain ⟨X, rfl⟩ := Int.eq_ofNat_of_zero_le h0
          have hX : X < 32768 := by omega
          obtain ⟨V, hV⟩ : ∃ V, G.getD X 0 = V := ⟨_, rfl⟩
          have HV1 : Hid (0 ≤ V ∧ V < 16) := by
            have q1 := HC2.out X hX
            have q2 := HL.out.lo.ov.sp.gk.at X
            rw [hV] at q1 q2
            exact ⟨q2.1, q1⟩
          have HN1 : Hid (∀ j, j < 32768 → (setE E G (X : Int) V).getD j 0 ≠ 16 → ∃ m, k + 1 ≤ m ∧ m < ln ∧ P m 1 = (j : Int)) := edited_less (P := fun m => P m 1) HL.out.lo.ov.sp Hxx.out hV HV1.out HN.out
          have Hco : Hid (codeO (X : Int) V = 0) := code0 (by omega) HV1.out
          have Hcell : Hid (∀ u, Blk u A 5 G → u.cell? ⟨A, X, none⟩ = some (.int .u8 V)) := fun u hu => by
            have := hu.cell (k := X) (by rw [HL.out.lo.ov.sp.gl]; exact hX)
            rw [hV] at this
            exact this
          have hwV : IntKind.i64.wrap V = V := by
            have := HV1.out
            rw [IntKind.wrap_i64] <;> omega
          clear hV HN Hxx
          go_wp2_with fail
          refine region_L (fun u => Below w.heap.size w u ∧ Blk u A 5 G) 99 (by kernel_rfl) ?_
          have HV : Hid (Lu w B A D o e g E G d (wr.drew)) := HL.out.on (Below.refl _ wr).drew
          clear HL
          generalize wr.drew = va at *
          have hHeld : (fun u => Below w.heap.size w u ∧ Blk u A 5 G) va := ⟨HV.out.lo.b, HV.out.row⟩
          have hne : Nonempty (Sub (fun u => Below w.heap.size w u ∧ Blk u A 5 G)) := ⟨⟨_, hHeld⟩⟩
          have k1 : ∀ s : Sub (fun u => Below w.heap.size w u ∧ Blk u A 5 G), s.w.cell? ⟨lb, lo + k * 3 + 1, none⟩ = some (.int .i64 (X : Int)) := fun s => (Hrd.out s.w (s.ok.1)).2.1
          have k3 : ∀ s : Sub (fun u => Below w.heap.size w u ∧ Blk u A 5 G), s.w.cell? ⟨A, X, none⟩ = some (.int .u8 V) := fun s => Hcell.out s.w s.ok.2
          refine take_L (i := 0) rfl (by kernel_rfl) (by kernel_rfl) (by kernel_rfl) (by kernel_rfl) (fun _ _ _ _ h => h) (by exact hHeld) (fun K hK => ?_)
          go_simp
          refine hK _ ?_
          clear hK K
          refine take_L (i := 1) rfl (by kernel_rfl) (by kernel_rfl) (by kernel_rfl) (by kernel_rfl) (fun _ _ _ _ h => h) (by exact hHeld) (fun K hK => ?_)
          go_simp
          refine hK _ ?_
          clear hK K
          refine take_L (i := 2) rfl (by kernel_rfl) (by kernel_rfl) (by kernel_rfl) (by kernel_rfl) (fun _ _ _ _ h => h) (by exact hHeld) (fun K hK => ?_)
          go_simp
          refine hK _ ?_
          clear hK K
          refine take_L (i := 3) rfl (by kernel_rfl) (by kernel_rfl) (by kernel_rfl) (by kernel_rfl) (fun _ _ _ _ h => h) (by exact hHeld) (fun K hK => ?_)
          go_simp
          refine hK _ ?_
          clear hK K
          refine take_L (i := 4) rfl (by kernel_rfl) (by kernel_rfl) (by kernel_rfl) (by kernel_rfl) (fun _ _ _ _ h => h) (by exact hHeld) (fun K hK => ?_)
          go_simp
          refine hK _ ?_
          clear hK K
          refine take_L (i := 5) rfl (by kernel_rfl) (by kernel_rfl) (by kernel_rfl) (by kernel_rfl) (fun _ _ _ _ h => h) (by exact hHeld) (fun K hK => ?_)
          go_simp
          refine hK _ ?_
          clear hK K
          refine take_L (i := 6) rfl (by kernel_rfl) (by kernel_rfl) (by kernel_rfl) (by kernel_rfl) (fun _ _ _ _ h => h) (by exact hHeld) (fun K hK => ?_)
          go_simp
          refine hK _ ?_
          clear hK K
          refine take_L (i := 7) rfl (by kernel_rfl) (by kernel_rfl) (by kernel_rfl) (by kernel_rfl) (fun _ _ _ _ h => h) (by exact hHeld) (fun K hK => ?_)
          go_simp
          refine hK _ ?_
          clear hK K
          refine take_L (i := 8) rfl (by kernel_rfl) (by kernel_rfl) (by kernel_rfl) (by kernel_rfl) (fun _ _ _ _ h => h) (by exact hHeld) (fun K hK => ?_)
          go_simp
          refine hK _ ?_
          clear hK K
          refine take_L (i := 9) rfl (by kernel_rfl) (by kernel_rfl) (by kernel_rfl) (by kernel_rfl) (fun _ _ _ _ h => h) (by exact hHeld) (fun K hK => ?_)
          go_simp
          refine hK _ ?_
          clear hK K
          refine take_L (i := 10) rfl (by kernel_rfl) (by kernel_rfl) (by kernel_rfl) (by kernel_rfl) (fun _ _ _ _ h => h) (by exact hHeld) (fun K hK => ?_)
          go_simp
          refine hK _ ?_
          clear hK K
          refine take_L (i := 11) rfl (by kernel_rfl) (by kernel_rfl) (by kernel_rfl) (by kernel_rfl) (fun _ _ _ _ h => h) (by exact hHeld) (fun K hK => ?_)
          go_simp
          refine hK _ ?_
          clear hK K
          refine take_L (i := 12) rfl (by kernel_rfl) (by kernel_rfl) (by kernel_rfl) (by kernel_rfl) (fun _ _ _ _ h => h) (by exact hHeld) (fun K hK => ?_)
          go_simp
          refine hK _ ?_
          clear hK K
          refine take_L (i := 13) rfl (by kernel_rfl) (by kernel_rfl) (by kernel_rfl) (by kernel_rfl) (fun _ _ _ _ h => h) (by exact hHeld) (fun K hK => ?_)
          go_simp
          refine hK _ ?_
          clear hK K
          refine take_L (i := 14) rfl (by kernel_rfl) (by kernel_rfl) (by kernel_rfl) (by kernel_rfl) (fun _ _ _ _ h => h) (by exact hHeld) (fun K hK => ?_)
          go_simp
          refine hK _ ?_
          clear hK K
          have hset := set_o HV.out.lo.ov (X : Int) V
          unfold SetSay at hset
          rw [Hco.out] at hset
          refine one_L (i := 15) (by kernel_rfl) rfl (fun K hK => ?_)
          go_simp
          refine hset.mono ?_
          clear hset
          rintro _ w4 ⟨rfl, hO4, ho4⟩
          have H4 : Hid (Lu w B A D o e g (setE E G (X : Int) V) G (setD E G d (X : Int) V) w4) := HV.out.set hO4 ho4
          clear hO4 ho4
          have hHeld2 : (fun u => Below w.heap.size w u ∧ Blk u A 5 G) w4 := ⟨H4.out.lo.b, H4.out.row⟩
          refine hK.out _ _ (fun _ => hHeld2) ?_
          clear hK K hHeld hne k1 k3 HV
          refine one_L (i := 16) (by kernel_rfl) rfl (fun K hK => ?_)
          go_simp
          refine hK.out _ _ (fun _ => hHeld2) ?_
          clear hK K
          refine done_L (by kernel_rfl) ?_ _
          clear hHeld2 k1
          go_wp2
          go_roundw
          case rel => exact ⟨k + 1, by omega, by go_num, _, _, H4.out, HN1.out⟩
          case measure => simp [intOf]; omega
        case neg =>
          have hkx : ¬ (k : Int) < (ln : Int) := by omega
          obtain ⟨E, d, hLo, hN⟩ := HJ.out
          have HE : Hid (∀ j, j < 32768 → E.getD j 0 = 16) := fun j hj => by
            by_cases e : E.getD j 0 = 16
            · exact e
            · obtain ⟨m, q1, q2, _⟩ := hN j hj e
              omega
          have HL : Hid (Lu w B A D o e g E G d wr) := hLo
          clear hLo hN HJ HS HC2
          go_wp2_with fail
          obtain ⟨va, hva⟩ : ∃ va, wr.drew = va := ⟨_, rfl⟩
          refine region_L (Kq va []) 99 (by kernel_rfl) ?_
          have HX : Hid (Lu w B A D o e g E G d va) := by rw [← hva]; exact HL.out.on (Below.refl _ wr).drew
          rw [hva]
          clear hva HL
          have hHeld : Kq va [] va := Kq.nil (Below.refl _ _)
          have HMISSFG : Hid (IsFin E G G) := fin16 HX.out.lo.ov.sp HE.out
          have HR : Hid (E = List.replicate 32768 16) := all16 HX.out.lo.ov.sp.el HE.out
          have HM : Hid (manyE E = 0) := many_none HE.out
          clear HE
          obtain ⟨Z_E, hZ⟩ : ∃ X, strOfNums E = X := ⟨_, rfl⟩
          have Z_Ee : Hid (strOfNums E = Z_E) := hZ
          clear hZ
          obtain ⟨Z_G, hZ⟩ : ∃ X, strOfNums G = X := ⟨_, rfl⟩
          have Z_Ge : Hid (strOfNums G = Z_G) := hZ
          clear hZ
          have hne : Nonempty (Sub (Kq va [])) := ⟨⟨_, hHeld⟩⟩
          have kb : ∀ s : Sub (Kq va []), (convert 32 9 (.slice (some ⟨A, 0, none⟩) 32768 32768)).run Try.prog s.w = .ok (.string Z_G) s.w := fun s => pre_text (blk_pre (HX.out.on s.ok.b).row) HX.out.lo.ov.sp.gl HX.out.lo.ov.sp.gk Z_Ge.out
          refine take_L (i := 0) rfl (by kernel_rfl) (by kernel_rfl) (by kernel_rfl) (by kernel_rfl) (fun _ _ _ _ h => h) (by exact hHeld) (fun K hK => ?_)
          go_simp
          refine hK _ ?_
          clear hK K
          have hc := (by have h := many_q hHeld HX.out.lo.ov; rw [HM.out] at h; exact h)
          refine one_L (i := 1) (by kernel_rfl) rfl (fun K hK => ?_)
          go_simp
          refine hc.mono ?_
          clear hc
          rintro _ u1 ⟨rfl, hh⟩
          replace hHeld := hh
          clear hh
          refine hK.out _ _ (fun _ => hHeld) ?_
          clear hK K
          refine take_L (i := 2) rfl (by kernel_rfl) (by kernel_rfl) (by kernel_rfl) (by kernel_rfl) (fun _ _ _ _ h => h) (by exact hHeld) (fun K hK => ?_)
          go_simp
          refine hK _ ?_
          clear hK K
          refine take_L (i := 3) rfl (by kernel_rfl) (by kernel_rfl) (by kernel_rfl) (by kernel_rfl) (fun _ _ _ _ h => h) (by exact hHeld) (fun K hK => ?_)
          go_simp
          refine hK _ ?_
          clear hK K
          refine take_L (i := 4) rfl (by kernel_rfl) (by kernel_rfl) (by kernel_rfl) (by kernel_rfl) (fun _ _ _ _ h => h) (by exact hHeld) (fun K hK => ?_)
          go_simp
          refine hK _ ?_
          clear hK K
          refine take_L (i := 8) rfl (by kernel_rfl) (by kernel_rfl) (by kernel_rfl) (by kernel_rfl) (fun _ _ _ _ h => h) (by exact hHeld) (fun K hK => ?_)
          go_simp
          refine hK _ ?_
          clear hK K
          refine take_L (i := 9) rfl (by kernel_rfl) (by kernel_rfl) (by kernel_rfl) (by kernel_rfl) (fun _ _ _ _ h => h) (by exact hHeld) (fun K hK => ?_)
          go_simp
          refine hK _ ?_
          clear hK K
          have hc := fin_q hHeld HX.out.lo.ov
          refine one_L (i := 5) (by kernel_rfl) rfl (fun K hK => ?_)
          go_simp
          refine hc.mono ?_
          clear hc
          rintro _ u2 ⟨x2, f2, rfl, hB2, hF2, hh⟩
          replace hHeld := hh
          clear hh
          rw [hF2.same HMISSFG.out] at hB2
          clear hF2
          refine hK.out _ _ (fun _ => hHeld) ?_
          clear hK K
          have hc := bytes_q hHeld hB2 HMISSFG.out.len HMISSFG.out.k
          refine one_L (i := 6) (by kernel_rfl) rfl (fun K hK => ?_)
          go_simp
          refine hc.mono ?_
          clear hc
          rintro _ u3 ⟨g3, rfl, hh⟩
          replace hHeld := hh
          clear hh hB2
          refine hK.out _ _ (fun _ => kq_less _ hHeld) ?_
          clear hK K hne kb 
          refine wpAnyL_strong (S' := Kq va ((g3, G) :: [])) kq_less _ _ _ _ ?_
          have hne : Nonempty (Sub (Kq va ((g3, G) :: []))) := ⟨⟨_, hHeld⟩⟩
          have kb : ∀ s : Sub (Kq va ((g3, G) :: [])), (convert 32 9 (.slice (some ⟨A, 0, none⟩) 32768 32768)).run Try.prog s.w = .ok (.string Z_G) s.w := fun s => pre_text (blk_pre (HX.out.on s.ok.b).row) HX.out.lo.ov.sp.gl HX.out.lo.ov.sp.gk Z_Ge.out
          have kt : ∀ s : Sub (Kq va ((g3, G) :: [])), (convert 32 9 (.slice (some ⟨g3, 0, none⟩) 32768 32768)).run Try.prog s.w = .ok (.string Z_G) s.w := kq_text Z_Ge.out
          refine take_L (i := 7) rfl (by kernel_rfl) (by kernel_rfl) (by kernel_rfl) (by kernel_rfl) (fun _ _ _ _ h => h) (by exact hHeld) (fun K hK => ?_)
          go_simp
          refine hK _ ?_
          clear hK K
          refine take_L (i := 10) rfl (by kernel_rfl) (by kernel_rfl) (by kernel_rfl) (by kernel_rfl) (fun _ _ _ _ h => h) (by exact hHeld) (fun K hK => ?_)
          go_simp
          refine hK _ ?_
          clear hK K
          refine take_L (i := 11) rfl (by kernel_rfl) (by kernel_rfl) (by kernel_rfl) (by kernel_rfl) (fun _ _ _ _ h => h) (by exact hHeld) (fun K hK => ?_)
          go_simp
          refine hK _ ?_
          clear hK K
          refine take_L (i := 12) rfl (by kernel_rfl) (by kernel_rfl) (by kernel_rfl) (by kernel_rfl) (fun _ _ _ _ h => h) (by exact hHeld) (fun K hK => ?_)
          go_simp
          refine hK _ ?_
          clear hK K
          refine take_L (i := 13) rfl (by kernel_rfl) (by kernel_rfl) (by kernel_rfl) (by kernel_rfl) (fun _ _ _ _ h => h) (by exact hHeld) (fun K hK => ?_)
          go_simp
          refine hK _ ?_
          clear hK K
          have hc := ed_q hHeld HX.out.lo.ov
          refine one_L (i := 14) (by kernel_rfl) rfl (fun K hK => ?_)
          go_simp
          refine hc.mono ?_
          clear hc
          rintro _ u4 ⟨x4, rfl, hB4, hh⟩
          replace hHeld := hh
          clear hh
          refine hK.out _ _ (fun _ => hHeld) ?_
          clear hK K
          have hc := bytes_q hHeld hB4 HX.out.lo.ov.sp.el HX.out.lo.ov.sp.ek
          refine one_L (i := 15) (by kernel_rfl) rfl (fun K hK => ?_)
          go_simp
          refine hc.mono ?_
          clear hc
          rintro _ u5 ⟨g5, rfl, hh⟩
          replace hHeld := hh
          clear hh hB4
          refine hK.out _ _ (fun _ => kq_less _ hHeld) ?_
          clear hK K hne kb kt
          refine wpAnyL_strong (S' := Kq va ((g5, E) :: ((g3, G) :: []))) kq_less _ _ _ _ ?_
          have hne : Nonempty (Sub (Kq va ((g5, E) :: ((g3, G) :: [])))) := ⟨⟨_, hHeld⟩⟩
          have kb : ∀ s : Sub (Kq va ((g5, E) :: ((g3, G) :: []))), (convert 32 9 (.slice (some ⟨A, 0, none⟩) 32768 32768)).run Try.prog s.w = .ok (.string Z_G) s.w := fun s => pre_text (blk_pre (HX.out.on s.ok.b).row) HX.out.lo.ov.sp.gl HX.out.lo.ov.sp.gk Z_Ge.out
          have kt : ∀ s : Sub (Kq va ((g5, E) :: ((g3, G) :: []))), (convert 32 9 (.slice (some ⟨g5, 0, none⟩) 32768 32768)).run Try.prog s.w = .ok (.string Z_E) s.w := kq_text Z_Ee.out
          refine take_L (i := 16) rfl (by kernel_rfl) (by kernel_rfl) (by kernel_rfl) (by kernel_rfl) (fun _ _ _ _ h => h) (by exact hHeld) (fun K hK => ?_)
          go_simp
          refine hK _ ?_
          clear hK K
          have hc := (by have h := full_q hHeld; rw [← HR.out] at h; exact h)
          refine one_L (i := 17) (by kernel_rfl) rfl (fun K hK => ?_)
          go_simp
          refine hc.mono ?_
          clear hc
          rintro _ u6 ⟨g6, rfl, hh⟩
          replace hHeld := hh
          clear hh
          refine hK.out _ _ (fun _ => kq_less _ hHeld) ?_
          clear hK K hne kb kt
          refine wpAnyL_strong (S' := Kq va ((g6, E) :: ((g5, E) :: ((g3, G) :: [])))) kq_less _ _ _ _ ?_
          have hne : Nonempty (Sub (Kq va ((g6, E) :: ((g5, E) :: ((g3, G) :: []))))) := ⟨⟨_, hHeld⟩⟩
          have kb : ∀ s : Sub (Kq va ((g6, E) :: ((g5, E) :: ((g3, G) :: [])))), (convert 32 9 (.slice (some ⟨A, 0, none⟩) 32768 32768)).run Try.prog s.w = .ok (.string Z_G) s.w := fun s => pre_text (blk_pre (HX.out.on s.ok.b).row) HX.out.lo.ov.sp.gl HX.out.lo.ov.sp.gk Z_Ge.out
          have kt : ∀ s : Sub (Kq va ((g6, E) :: ((g5, E) :: ((g3, G) :: [])))), (convert 32 9 (.slice (some ⟨g6, 0, none⟩) 32768 32768)).run Try.prog s.w = .ok (.string Z_E) s.w := kq_text Z_Ee.out
          refine take_L (i := 18) rfl (by kernel_rfl) (by kernel_rfl) (by kernel_rfl) (by kernel_rfl) (fun _ _ _ _ h => h) (by exact hHeld) (fun K hK => ?_)
          go_simp
          refine hK _ ?_
          clear hK K
          refine take_L (i := 19) rfl (by kernel_rfl) (by kernel_rfl) (by kernel_rfl) (by kernel_rfl) (fun _ _ _ _ h => h) (by exact hHeld) (fun K hK => ?_)
          go_simp
          refine hK _ ?_
          clear hK K
          refine take_L (i := 20) rfl (by kernel_rfl) (by kernel_rfl) (by kernel_rfl) (by kernel_rfl) (fun _ _ _ _ h => h) (by exact hHeld) (fun K hK => ?_)
          go_simp
          refine hK _ ?_
          clear hK K
          refine one_L (i := 21) (by kernel_rfl) rfl (fun K hK => ?_)
          go_simp
          refine hK.out _ _ (fun _ => hHeld) ?_
          clear hK K
          refine done_L (by kernel_rfl) ?_ _
          clear hne kb kt
          have R := HP.out _ (HX.out.lo.b.trans (hHeld.b.mono HX.out.lo.b.size))
          clear HX HP HMISSFG HR HM Z_Ge Z_Ee hHeld
          go_wp2
          first | exact R | (go_ret; exact R)
end Go.Proofs.Ythanmgejgmhccaa
