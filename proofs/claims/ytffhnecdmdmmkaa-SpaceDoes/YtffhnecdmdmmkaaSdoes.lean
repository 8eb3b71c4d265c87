/-
  SpaceDoes, from what is asked of a space.
-/
import Derived.Test.YtffhnecdmdmmkaaSboth
set_option maxRecDepth 20000
namespace Go.Proofs.Ytffhnecdmdmmkaa
open Go.RowKit

/-- Spans of which the first j were let go. -/
def zap (L : List Sp) (j : Nat) : List Sp := List.replicate j (0, 0) ++ L.drop j
theorem zap_len {L : List Sp} {j : Nat} (h : j ≤ L.length) : (zap L j).length = L.length := by
  unfold zap
  rw [List.length_append, List.length_replicate, List.length_drop]
  omega
theorem zap_at {L : List Sp} {j : Nat} (h : j < L.length) : (zap L j)[j]? = some L[j] := by
  unfold zap
  rw [List.getElem?_append_right (by simp), List.length_replicate, Nat.sub_self, List.getElem?_drop, Nat.add_zero, List.getElem?_eq_getElem h]
theorem zap_next {L : List Sp} {j : Nat} (h : j < L.length) : ((spCells (zap L j)).set (j * 2) (.int .i64 0)).set (j * 2 + 1) (.int .i64 0) = spCells (zap L (j + 1)) := by
  have e1 : spCells (zap L j) = spCells (List.replicate j (0, 0)) ++ (spc L[j] ++ spCells (L.drop (j + 1))) := by
    unfold zap
    rw [List.drop_eq_getElem_cons h]
    unfold spCells
    rw [List.flatMap_append]
    rfl
  have e2 : spCells (zap L (j + 1)) = spCells (List.replicate j (0, 0)) ++ (spc (0, 0) ++ spCells (L.drop (j + 1))) := by
    unfold zap
    rw [List.replicate_succ', List.append_assoc]
    unfold spCells
    rw [List.flatMap_append]
    rfl
  have hl : (spCells (List.replicate j ((0, 0) : Sp))).length = j * 2 := by rw [spCells_len, List.length_replicate]
  rw [e1, e2, List.set_append_right _ _ (by omega), hl, Nat.sub_self, List.set_append_right _ _ (by omega), hl, show j * 2 + 1 - j * 2 = 1 by omega]
  rfl
/-- One span is let go in memory. -/
theorem OwnSp.zap {w : World} {lo c j : Nat} {a : Option Addr} {L : List Sp} (h : OwnSp w lo a c (zap L j)) (hj : j < L.length) : ∃ xb, a = some ⟨xb, 0, none⟩ ∧ lo ≤ xb ∧ xb < w.heap.size ∧ w.cell? ⟨xb, j * 2, none⟩ = some (.int .i64 (L[j].1 : Int)) ∧ w.cell? ⟨xb, j * 2 + 1, none⟩ = some (.int .i64 (L[j].2 : Int)) ∧ w.frozen? ⟨xb, j * 2, none⟩ = false ∧ w.frozen? ⟨xb, j * 2 + 1, none⟩ = false ∧ ∀ k, OwnSp (((w.drewN k).setCell ⟨xb, j * 2, none⟩ (.int .i64 0)).setCell ⟨xb, j * 2 + 1, none⟩ (.int .i64 0)) lo (some ⟨xb, 0, none⟩) c (Go.Proofs.Ytffhnecdmdmmkaa.zap L (j + 1)) := by
  have hl := zap_len (Nat.le_of_lt hj)
  obtain ⟨xb, rfl, h1, h2, h3, h4⟩ := h.at (k := j) (by rw [hl]; exact hj)
  have e : (Go.Proofs.Ytffhnecdmdmmkaa.zap L j)[j]'(by rw [hl]; exact hj) = L[j] := (List.getElem?_eq_some_iff.1 (zap_at hj)).2
  rw [e] at h3 h4
  unfold OwnSp at h
  refine ⟨xb, rfl, h1, h2, h3, h4, h.frozenAt _, h.frozenAt _, fun k => ?_⟩
  have h5 := ((World.ownsRow.stored (w := w.drewN k) h (j * 2) (.int .i64 0)).1.stored (j * 2 + 1) (.int .i64 0)).1
  rw [zap_next hj] at h5
  unfold OwnSp
  rw [zap_len (by omega), ← hl]
  exact h5
set_option maxHeartbeats 4000000 in
theorem spaceDoes_walk (J : SSpec) (n h : Int) (hn : I64 n) (hh : I64 h) (la : Option Addr) (ln lc : Nat) (w : World) (hI : OpsIn w la ln) (hln : ln ≤ maxLen) :
    Calls Try.prog 4 #[.int .i64 n, .int .i64 h, .slice la ln lc] w fun e w' => e = .returned (.bool true) ∧ Below w.heap.size w w' := by
  obtain ⟨Post, hPost⟩ : ∃ Post : Ending → World → Prop, Post = fun e w' => e = .returned (.bool true) ∧ Below w.heap.size w w' := ⟨_, rfl⟩
  rw [← hPost]
  have HP : Hid (∀ w', Below w.heap.size w w' → Post (.returned (.bool true)) w') := fun w' h => by rw [hPost]; exact ⟨rfl, h⟩
  clear hPost
  have HI : Hid (OpsIn w la ln) := hI
  have hln' : (ln : Int) ≤ 9223372036854775807 := by unfold maxLen at hln; omega
  clear hI hln
  go_enter Try.func4, Try.ntmps4
  go_wp2_with fail
  refine (awake_s J w).mono ?_
  rintro _ w1 ⟨rfl, hb1⟩
  have Hb1 : Hid (Below w.heap.size w w1) := hb1
  clear hb1
  by_cases hs1 : 300 < n
  · have R := HP.out w1 Hb1.out
    clear HP Hb1
    go_wp2
    exact R
  by_cases hs2 : (300 : Int) < ln
  · have R := HP.out w1 Hb1.out
    clear HP Hb1
    go_wp2
    exact R
  by_cases hbad : badNew n h
  · go_wp2_with fail
    refine (J.new_ n h w1 hn hh).mono ?_
    rintro e w2 ⟨hb2, ⟨_, rfl⟩ | ⟨h1, _⟩⟩
    · have Hb2 : Hid (Below w.heap.size w w2) := Hb1.out.trans (hb2.mono Hb1.out.size)
      clear hb2 Hb1
      go_wp2_with fail
      refine (rnew_c n h hn hh w2).mono ?_
      rintro e w3 ⟨hb3, ⟨_, rfl⟩ | ⟨h1, _⟩⟩
      · have R := HP.out w3 (Hb2.out.trans (hb3.mono Hb2.out.size))
        clear HP Hb2 hb3 HI
        go_wp2_with fail
        go_loop [12] (fun v => v = .int .i64 0) (fun _ => 0)
        case atStart => rfl
        case round =>
          subst hrel
          by_cases hl0 : (0 : Int) < ln
          · go_wp2
            exact R
          · go_wp2
            exact R
      · exact absurd hbad h1
    · exact absurd hbad h1
  go_wp2_with fail
  refine (snew J n h w1 hn hh hbad).mono ?_
  rintro _ w2 ⟨g, F2, rfl, hS2⟩
  have H2 : Hid (Sk J F2 w1 w2 g h.toNat (List.replicate n.toNat false)) := hS2
  clear hS2
  go_wp2_with fail
  refine (rnew_c n h hn hh w2).mono ?_
  rintro e w3 ⟨hb3, ⟨h1, _⟩ | ⟨_, rg, tb, hg1, ht1, rfl, hR3⟩⟩
  · exact absurd h1 hbad
  have hge : 0 ≤ h ∧ h ≤ n ∧ n ≤ 300 := by unfold badNew at hbad; omega
  have HB0 : Hid (Both J F2 w1 w3 g rg tb h.toNat (List.replicate n.toNat false) (List.replicate n.toNat false)) := ⟨H2.out.on hb3, hR3, ⟨fun hf => by have := (H2.out.lt _ hf).2; omega, fun hf => by have := (H2.out.lt _ hf).2; omega⟩, ⟨by have := H2.out.below.size; omega, by have := H2.out.below.size; omega⟩⟩
  obtain ⟨hd, hhd⟩ : ∃ hd, hd = h.toNat := ⟨_, rfl⟩
  rw [← hhd] at HB0
  clear hR3 hb3 H2 hg1 ht1 hbad hhd
  go_wp2_with fail
  go_loopw [12] (fun v wr => ∃ (i : Nat) (F : Nat → Prop) (T : List Bool), i ≤ ln ∧ v = .int .i64 (i : Int) ∧ Hid (Both J F w1 wr g rg tb hd T T ∧ T.length = n.toNat)) (fun v _ => ln - (intOf v).toNat)
  case atStart => exact ⟨0, F2, _, Nat.zero_le _, rfl, HB0.out, by rw [List.length_replicate]⟩
  case round =>
    clear HB0
    obtain ⟨i, F, T, hi, rfl, H⟩ := hrel
    obtain ⟨wq, hwq⟩ : ∃ wq, wq = wr := ⟨_, rfl⟩
    subst hwq
    by_cases hlt : i < ln
    · have hlt' : (i : Int) < ln := by omega
      obtain ⟨b, off, ⟨kd, nn, f, m⟩, rfl, hOp⟩ := HI.out i hlt
      have HOp : Hid (OpIn w b off i (kd, nn, f, m)) := hOp
      have HW : Hid (∀ {F' : Nat → Prop} {w' : World} {T' U' : List Bool}, Both J F' w1 w' g rg tb hd T' U' → Below w.heap.size w w') := fun H' => Hb1.out.trans (H'.sk.below.mono Hb1.out.size)
      have c0 := (hOp.on (HW.out H.out.1)).c0
      have hbn := hOp.bd.2.1
      have hbf := hOp.bd.2.2.1
      have hbm := hOp.bd.2.2.2
      simp only at c0 hbn hbf hbm
      clear hOp
      by_cases k0 : kd = 0
      · subst k0
        have c1 := (HOp.out.on (HW.out H.out.1)).c1
        simp only at c1
        clear HP
        go_wp2_with fail
        refine (btake H.out.1 nn hbn).mono ?_
        rintro _ wx ⟨rfl, Fx, hBx⟩
        have Hx : Hid (Both J Fx w1 wx g rg tb hd (tkS hd T nn).2.2 T ∧ T.length = n.toNat) := ⟨hBx, H.out.2⟩
        have c1' := (HOp.out.on (HW.out hBx)).c1
        simp only at c1'
        clear hBx H c1 c0
        go_wp2_with fail
        refine (btake_r Hx.out.1 nn hbn).mono ?_
        rintro _ wt ⟨rfl, hBt⟩
        obtain ⟨Ft, Tt, HBt⟩ : ∃ Ft Tt, Hid (Both J Ft w1 wt g rg tb hd Tt Tt ∧ Tt.length = n.toNat) := ⟨Fx, _, hBt, by rw [tkS_len]; exact Hx.out.2⟩
        clear hBt Hx c1'
        generalize (tkS hd T nn).1 = v1 at *
        generalize (tkS hd T nn).2.1 = v2 at *
        have hsl : (spansS hd Tt).length ≤ 10000 := by have := spTo_len hd Tt (Tt.length - hd); have h2 := HBt.out.2; unfold spansS; omega
        go_wp2_with fail
        refine (sspans HBt.out.1.sk).mono ?_
        rintro _ wa ⟨Fa, xa, xc, rfl, hSa, hTa, hOa, hga⟩
        have Ha : Hid (Both J Fa w1 wa g rg tb hd Tt Tt ∧ Tt.length = n.toNat) := ⟨HBt.out.1.stp hSa hTa, HBt.out.2⟩
        obtain ⟨lo, hlo⟩ : ∃ lo, lo = wt.heap.size := ⟨_, rfl⟩
        have HXa : Hid (OwnSp wa lo xa xc (spansS hd Tt) ∧ (∀ gb, xa = some ⟨gb, 0, none⟩ → ¬ Fa gb) ∧ w1.heap.size ≤ lo ∧ rg < lo ∧ tb < lo) := ⟨by rw [hlo]; exact hOa, hga, by rw [hlo]; exact HBt.out.1.sk.below.size, by rw [hlo]; exact (Array.getElem?_eq_some_iff.1 HBt.out.1.rs.head).1, by rw [hlo]; exact (Array.getElem?_eq_some_iff.1 HBt.out.1.rs.row).1⟩
        clear hSa hTa hOa hga HBt hlo
        go_wp2_with fail
        refine (rspans_c rg tb hd Tt wa Ha.out.1.rs).mono ?_
        rintro _ wb ⟨hbb, ya, yc, rfl, hOb⟩
        have Hb : Hid (Both J Fa w1 wb g rg tb hd Tt Tt ∧ Tt.length = n.toNat) := ⟨Ha.out.1.on hbb, Ha.out.2⟩
        have HXb : Hid (OwnSp wb lo xa xc (spansS hd Tt) ∧ (∀ gb, xa = some ⟨gb, 0, none⟩ → ¬ Fa gb) ∧ w1.heap.size ≤ lo ∧ rg < lo ∧ tb < lo) := ⟨(HXa.out.1.stp (Stp.below (F := Fa) hbb) HXa.out.2.1).1, HXa.out.2⟩
        have HYb : Hid (OwnSp wb wa.heap.size ya yc (spansS hd Tt) ∧ (∀ gb, ya = some ⟨gb, 0, none⟩ → ¬ Fa gb) ∧ ∀ gb, xa = some ⟨gb, 0, none⟩ → gb < wa.heap.size) := ⟨hOb, fun gb e hf => by have h1 := (Ha.out.1.sk.lt gb hf).2; have h2 := (World.ownsRow.lt hOb gb (by rw [e]; rfl)).1; omega, fun gb e => (World.ownsRow.lt HXa.out.1 gb (by rw [e]; rfl)).2⟩
        generalize wa.heap.size = lo2 at *
        clear hbb hOb Ha HXa
        obtain ⟨L, hL⟩ : ∃ L, L = spansS hd Tt := ⟨_, rfl⟩
        rw [← hL] at HXb HYb hsl
        simp only [← hL]
        have HL : Hid (spansS hd Tt = L) := hL.symm
        obtain ⟨q, hq⟩ : ∃ q, q = L.length := ⟨_, rfl⟩
        have Hq : Hid (L.length = q) := hq.symm
        rw [← hq] at hsl
        simp only [← hq]
        clear hq hL
        go_wp2_with fail
        refine (sroom Hb.out.1.sk).mono ?_
        rw [HL.out]
        rintro _ wc ⟨rfl, Fc, hSc, hTc⟩
        have Hc : Hid (Both J Fc w1 wc g rg tb hd Tt Tt ∧ Tt.length = n.toNat) := ⟨Hb.out.1.stp hSc hTc, Hb.out.2⟩
        have HXc : Hid (OwnSp wc lo xa xc L ∧ (∀ gb, xa = some ⟨gb, 0, none⟩ → ¬ Fc gb) ∧ w1.heap.size ≤ lo ∧ rg < lo ∧ tb < lo) := ⟨(HXb.out.1.stp hTc HXb.out.2.1).1, (HXb.out.1.stp hTc HXb.out.2.1).2, HXb.out.2.2⟩
        have HYc : Hid (OwnSp wc lo2 ya yc L ∧ (∀ gb, ya = some ⟨gb, 0, none⟩ → ¬ Fc gb) ∧ ∀ gb, xa = some ⟨gb, 0, none⟩ → gb < lo2) := ⟨(HYb.out.1.stp hTc HYb.out.2.1).1, (HYb.out.1.stp hTc HYb.out.2.1).2, HYb.out.2.2⟩
        clear hSc hTc Hb HXb HYb
        go_wp2_with fail
        refine (rroom_c rg tb hd Tt wc Hc.out.1.rs).mono ?_
        rw [HL.out]
        rintro _ we ⟨rfl, hbe⟩
        have He : Hid (Both J Fc w1 we g rg tb hd Tt Tt ∧ Tt.length = n.toNat) := ⟨Hc.out.1.on hbe, Hc.out.2⟩
        have HXe : Hid (OwnSp we lo xa xc L ∧ (∀ gb, xa = some ⟨gb, 0, none⟩ → ¬ Fc gb) ∧ w1.heap.size ≤ lo ∧ rg < lo ∧ tb < lo) := ⟨(HXc.out.1.stp (Stp.below (F := Fc) hbe) HXc.out.2.1).1, HXc.out.2⟩
        have HYe : Hid (OwnSp we lo2 ya yc L ∧ (∀ gb, ya = some ⟨gb, 0, none⟩ → ¬ Fc gb) ∧ ∀ gb, xa = some ⟨gb, 0, none⟩ → gb < lo2) := ⟨(HYc.out.1.stp (Stp.below (F := Fc) hbe) HYc.out.2.1).1, HYc.out.2⟩
        clear hbe Hc HXc HYc
        generalize roomS L = rm at *
        go_wp2_with fail
        refine (slarge He.out.1.sk).mono ?_
        rw [HL.out]
        rintro _ wf ⟨rfl, Ff, hSf, hTf⟩
        have Hf : Hid (Both J Ff w1 wf g rg tb hd Tt Tt ∧ Tt.length = n.toNat) := ⟨He.out.1.stp hSf hTf, He.out.2⟩
        have HXf : Hid (OwnSp wf lo xa xc L ∧ (∀ gb, xa = some ⟨gb, 0, none⟩ → ¬ Ff gb) ∧ w1.heap.size ≤ lo ∧ rg < lo ∧ tb < lo) := ⟨(HXe.out.1.stp hTf HXe.out.2.1).1, (HXe.out.1.stp hTf HXe.out.2.1).2, HXe.out.2.2⟩
        have HYf : Hid (OwnSp wf lo2 ya yc L ∧ ∀ gb, xa = some ⟨gb, 0, none⟩ → gb < lo2) := ⟨(HYe.out.1.stp hTf HYe.out.2.1).1, HYe.out.2.2⟩
        clear hSf hTf He HXe HYe
        go_wp2_with fail
        refine (rlarge_c rg tb hd Tt wf Hf.out.1.rs).mono ?_
        rw [HL.out]
        rintro _ wg ⟨rfl, hbg⟩
        have Hg : Hid (Both J Ff w1 wg g rg tb hd Tt Tt ∧ Tt.length = n.toNat) := ⟨Hf.out.1.on hbg, Hf.out.2⟩
        have HXg : Hid (OwnSp wg lo xa xc (zap L 0) ∧ (∀ gb, xa = some ⟨gb, 0, none⟩ → ¬ Ff gb) ∧ w1.heap.size ≤ lo ∧ rg < lo ∧ tb < lo) := ⟨(HXf.out.1.stp (Stp.below (F := Ff) hbg) HXf.out.2.1).1, HXf.out.2⟩
        have HYg : Hid (OwnSp wg lo2 ya yc L ∧ ∀ gb, xa = some ⟨gb, 0, none⟩ → gb < lo2) := ⟨(HYf.out.1.stp (F := fun _ => False) (Stp.below hbg) (fun _ _ h => h)).1, HYf.out.2⟩
        clear hbg Hf HXf HYf
        generalize largeS L = lg at *
        go_wp2_with fail
        go_loopw [20] (fun v wr => ∃ (j : Nat), j ≤ q ∧ v = .int .i64 (j : Int) ∧ Hid (Both J Ff w1 wr g rg tb hd Tt Tt ∧ Tt.length = n.toNat) ∧ Hid (OwnSp wr lo xa xc (zap L j) ∧ (∀ gb, xa = some ⟨gb, 0, none⟩ → ¬ Ff gb) ∧ w1.heap.size ≤ lo ∧ rg < lo ∧ tb < lo) ∧ Hid (OwnSp wr lo2 ya yc L ∧ ∀ gb, xa = some ⟨gb, 0, none⟩ → gb < lo2)) (fun v _ => q - (intOf v).toNat)
        case atStart => exact ⟨0, Nat.zero_le _, rfl, Hg, HXg, HYg⟩
        case round =>
          clear Hg HXg HYg
          obtain ⟨j, hj, rfl, Hj, HXj, HYj⟩ := hrel
          by_cases hjq : j < q
          · have hjq' : (j : Int) < q := by omega
            have hjl : j < L.length := by rw [Hq.out]; exact hjq
            obtain ⟨xb, rfl, hx1, hx2, x0, x1, fx0, fx1, hz⟩ := HXj.out.1.zap hjl
            obtain ⟨yb, rfl, hy1, hy2, y0, y1⟩ := HYj.out.1.at hjl
            have hxb := HYj.out.2 xb rfl
            have hO : ∀ k, Only xb wr (((wr.drewN k).setCell ⟨xb, j * 2, none⟩ (.int .i64 0)).setCell ⟨xb, j * 2 + 1, none⟩ (.int .i64 0)) := fun k => (((Only.refl xb wr).drewN k).set _ _).set _ _
            have Hj2 : Hid (∀ k, Both J Ff w1 (((wr.drewN k).setCell ⟨xb, j * 2, none⟩ (.int .i64 0)).setCell ⟨xb, j * 2 + 1, none⟩ (.int .i64 0)) g rg tb hd Tt Tt ∧ Tt.length = n.toNat) := fun k => ⟨Hj.out.1.only (hO k) ⟨HXj.out.2.1 xb rfl, by have := HXj.out.2.2; omega, by have := HXj.out.2.2; omega, by have := HXj.out.2.2; omega⟩, Hj.out.2⟩
            have HX2 : Hid (∀ k, OwnSp (((wr.drewN k).setCell ⟨xb, j * 2, none⟩ (.int .i64 0)).setCell ⟨xb, j * 2 + 1, none⟩ (.int .i64 0)) lo (some ⟨xb, 0, none⟩) xc (zap L (j + 1)) ∧ (∀ gb, some (⟨xb, 0, none⟩ : Addr) = some ⟨gb, 0, none⟩ → ¬ Ff gb) ∧ w1.heap.size ≤ lo ∧ rg < lo ∧ tb < lo) := fun k => ⟨hz k, HXj.out.2⟩
            have HY2 : Hid (∀ k, OwnSp (((wr.drewN k).setCell ⟨xb, j * 2, none⟩ (.int .i64 0)).setCell ⟨xb, j * 2 + 1, none⟩ (.int .i64 0)) lo2 (some ⟨yb, 0, none⟩) yc L ∧ ∀ gb, some (⟨xb, 0, none⟩ : Addr) = some ⟨gb, 0, none⟩ → gb < lo2) := fun k => ⟨ownsRow_same HYj.out.1 (fun b' e' => by cases e'; exact (hO k).block yb (by omega)), HYj.out.2⟩
            clear Hj HXj HYj hz hO
            generalize L[j].1 = fj at *
            generalize L[j].2 = mj at *
            go_wp2_with fail
            go_big_quiet (fail)
            have x0' : (wr.drewN nq).cell? ⟨xb, j * 2, none⟩ = some (.int .i64 (fj : Int)) := x0
            have x1' : (wr.drewN nq).cell? ⟨xb, j * 2 + 1, none⟩ = some (.int .i64 (mj : Int)) := x1
            have fx0' : (wr.drewN nq).frozen? ⟨xb, j * 2, none⟩ = false := fx0
            have fx1' : (wr.drewN nq).frozen? ⟨xb, j * 2 + 1, none⟩ = false := fx1
            go_wp2
            go_roundw
            case rel => exact ⟨j + 1, by omega, by go_num, Hj2.out _, HX2.out _, HY2.out _⟩
            case measure => simp [intOf]; omega
          · obtain rfl : j = q := by omega
            have hge3 : ¬ (j : Int) < j := by omega
            clear HXj HYj
            go_wp2
            go_roundw
            case rel => exact ⟨i + 1, Ff, Tt, by omega, by go_num, Hj⟩
            case measure => simp [intOf]; omega
      by_cases k1 : kd = 1
      · subst k1
        clear HP
        go_wp2_with fail
        refine region_L (fun w' => Below w.heap.size w w') 15 (by kernel_rfl) ?_
        have Hd0 : Hid (Both J F w1 wq.drew g rg tb hd T T ∧ T.length = n.toNat) := ⟨H.out.1.on ((Below.refl _ _).drew), H.out.2⟩
        clear H
        generalize wq.drew = va at *
        have hHeld : (fun w' => Below w.heap.size w w') _ := HW.out Hd0.out.1
        have hne : Nonempty (Sub (fun w' => Below w.heap.size w w')) := ⟨⟨_, hHeld⟩⟩
        have k2 : ∀ s : Sub (fun w' => Below w.heap.size w w'), s.w.cell? ⟨b, off + i * 4 + 2, none⟩ = some (.int .i64 f) := fun s => (HOp.out.on s.ok).c2
        have k3 : ∀ s : Sub (fun w' => Below w.heap.size w w'), s.w.cell? ⟨b, off + i * 4 + 3, none⟩ = some (.int .i64 m) := fun s => (HOp.out.on s.ok).c3
        refine take_L (i := 0) rfl (by kernel_rfl) (by kernel_rfl) (by kernel_rfl) (by kernel_rfl) (fun _ _ _ _ h => h) (by exact hHeld) (fun K hK => ?_)
        go_simp
        refine hK _ ?_
        clear hK K
        refine take_L (i := 1) rfl (by kernel_rfl) (by kernel_rfl) (by kernel_rfl) (by kernel_rfl) (fun _ _ _ _ h => h) (by exact hHeld) (fun K hK => ?_)
        go_simp
        refine hK _ ?_
        clear hK K
        refine take_L (i := 2) rfl (by kernel_rfl) (by kernel_rfl) (by kernel_rfl) (by kernel_rfl) (fun _ _ _ _ h => h) (by exact hHeld) (fun K hK => ?_)
        go_simp
        refine hK _ ?_
        clear hK K
        refine take_L (i := 3) rfl (by kernel_rfl) (by kernel_rfl) (by kernel_rfl) (by kernel_rfl) (fun _ _ _ _ h => h) (by exact hHeld) (fun K hK => ?_)
        go_simp
        refine hK _ ?_
        clear hK K
        refine take_L (i := 4) rfl (by kernel_rfl) (by kernel_rfl) (by kernel_rfl) (by kernel_rfl) (fun _ _ _ _ h => h) (by exact hHeld) (fun K hK => ?_)
        go_simp
        refine hK _ ?_
        clear hK K
        refine take_L (i := 5) rfl (by kernel_rfl) (by kernel_rfl) (by kernel_rfl) (by kernel_rfl) (fun _ _ _ _ h => h) (by exact hHeld) (fun K hK => ?_)
        go_simp
        refine hK _ ?_
        clear hK K
        refine take_L (i := 7) rfl (by kernel_rfl) (by kernel_rfl) (by kernel_rfl) (by kernel_rfl) (fun _ _ _ _ h => h) (by exact hHeld) (fun K hK => ?_)
        go_simp
        refine hK _ ?_
        clear hK K
        refine take_L (i := 8) rfl (by kernel_rfl) (by kernel_rfl) (by kernel_rfl) (by kernel_rfl) (fun _ _ _ _ h => h) (by exact hHeld) (fun K hK => ?_)
        go_simp
        refine hK _ ?_
        clear hK K
        refine take_L (i := 9) rfl (by kernel_rfl) (by kernel_rfl) (by kernel_rfl) (by kernel_rfl) (fun _ _ _ _ h => h) (by exact hHeld) (fun K hK => ?_)
        go_simp
        refine hK _ ?_
        clear hK K
        refine take_L (i := 10) rfl (by kernel_rfl) (by kernel_rfl) (by kernel_rfl) (by kernel_rfl) (fun _ _ _ _ h => h) (by exact hHeld) (fun K hK => ?_)
        go_simp
        refine hK _ ?_
        clear hK K
        refine take_L (i := 11) rfl (by kernel_rfl) (by kernel_rfl) (by kernel_rfl) (by kernel_rfl) (fun _ _ _ _ h => h) (by exact hHeld) (fun K hK => ?_)
        go_simp
        refine hK _ ?_
        clear hK K
        refine take_L (i := 12) rfl (by kernel_rfl) (by kernel_rfl) (by kernel_rfl) (by kernel_rfl) (fun _ _ _ _ h => h) (by exact hHeld) (fun K hK => ?_)
        go_simp
        refine hK _ ?_
        clear hK K
        refine one_L (i := 6) (by kernel_rfl) rfl (fun K hK => ?_)
        go_simp
        refine (bmark Hd0.out.1 f m hbf hbm).mono ?_
        rintro _ vb ⟨rfl, Fv, hBv⟩
        have Hd1 : Hid (Both J Fv w1 vb g rg tb hd (doS hd T f m false true) T ∧ T.length = n.toNat) := ⟨hBv, Hd0.out.2⟩
        clear hBv Hd0
        replace hHeld : (fun w' => Below w.heap.size w w') _ := HW.out Hd1.out.1
        refine hK.out _ _ (fun _ => hHeld) ?_
        clear hK K
        refine one_L (i := 13) (by kernel_rfl) rfl (fun K hK => ?_)
        go_simp
        refine (bmark_r Hd1.out.1 f m hbf hbm).mono ?_
        rintro _ vc ⟨rfl, hBv⟩
        have Hd2 : Hid (Both J Fv w1 vc g rg tb hd (doS hd T f m false true) (doS hd T f m false true) ∧ T.length = n.toNat) := ⟨hBv, Hd1.out.2⟩
        clear hBv Hd1
        replace hHeld : (fun w' => Below w.heap.size w w') _ := HW.out Hd2.out.1
        refine hK.out _ _ (fun _ => hHeld) ?_
        clear hK K
        refine take_L (i := 14) rfl (by kernel_rfl) (by kernel_rfl) (by kernel_rfl) (by kernel_rfl) (fun _ _ _ _ h => h) (by exact hHeld) (fun K hK => ?_)
        go_simp
        refine hK _ ?_
        clear hK K
        refine one_L (i := 15) (by kernel_rfl) rfl (fun K hK => ?_)
        go_simp
        refine hK.out _ _ (fun h => absurd rfl h) ?_
        clear hK K
        refine done_L (by kernel_rfl) ?_ _
        obtain ⟨Ft, Tt, HBt⟩ : ∃ Ft Tt, Hid (Both J Ft w1 vc g rg tb hd Tt Tt ∧ Tt.length = n.toNat) := ⟨Fv, _, Hd2.out.1, by rw [doS_len]; exact Hd2.out.2⟩
        obtain ⟨wt, hwt⟩ : ∃ wt, wt = vc := ⟨_, rfl⟩
        subst hwt
        clear hHeld hne k2 k3 Hd2 c0
        generalize erS hd T f m false = v1 at *
        have hsl : (spansS hd Tt).length ≤ 10000 := by have := spTo_len hd Tt (Tt.length - hd); have h2 := HBt.out.2; unfold spansS; omega
        go_wp2_with fail
        refine (sspans HBt.out.1.sk).mono ?_
        rintro _ wa ⟨Fa, xa, xc, rfl, hSa, hTa, hOa, hga⟩
        have Ha : Hid (Both J Fa w1 wa g rg tb hd Tt Tt ∧ Tt.length = n.toNat) := ⟨HBt.out.1.stp hSa hTa, HBt.out.2⟩
        obtain ⟨lo, hlo⟩ : ∃ lo, lo = wt.heap.size := ⟨_, rfl⟩
        have HXa : Hid (OwnSp wa lo xa xc (spansS hd Tt) ∧ (∀ gb, xa = some ⟨gb, 0, none⟩ → ¬ Fa gb) ∧ w1.heap.size ≤ lo ∧ rg < lo ∧ tb < lo) := ⟨by rw [hlo]; exact hOa, hga, by rw [hlo]; exact HBt.out.1.sk.below.size, by rw [hlo]; exact (Array.getElem?_eq_some_iff.1 HBt.out.1.rs.head).1, by rw [hlo]; exact (Array.getElem?_eq_some_iff.1 HBt.out.1.rs.row).1⟩
        clear hSa hTa hOa hga HBt hlo
        go_wp2_with fail
        refine (rspans_c rg tb hd Tt wa Ha.out.1.rs).mono ?_
        rintro _ wb ⟨hbb, ya, yc, rfl, hOb⟩
        have Hb : Hid (Both J Fa w1 wb g rg tb hd Tt Tt ∧ Tt.length = n.toNat) := ⟨Ha.out.1.on hbb, Ha.out.2⟩
        have HXb : Hid (OwnSp wb lo xa xc (spansS hd Tt) ∧ (∀ gb, xa = some ⟨gb, 0, none⟩ → ¬ Fa gb) ∧ w1.heap.size ≤ lo ∧ rg < lo ∧ tb < lo) := ⟨(HXa.out.1.stp (Stp.below (F := Fa) hbb) HXa.out.2.1).1, HXa.out.2⟩
        have HYb : Hid (OwnSp wb wa.heap.size ya yc (spansS hd Tt) ∧ (∀ gb, ya = some ⟨gb, 0, none⟩ → ¬ Fa gb) ∧ ∀ gb, xa = some ⟨gb, 0, none⟩ → gb < wa.heap.size) := ⟨hOb, fun gb e hf => by have h1 := (Ha.out.1.sk.lt gb hf).2; have h2 := (World.ownsRow.lt hOb gb (by rw [e]; rfl)).1; omega, fun gb e => (World.ownsRow.lt HXa.out.1 gb (by rw [e]; rfl)).2⟩
        generalize wa.heap.size = lo2 at *
        clear hbb hOb Ha HXa
        obtain ⟨L, hL⟩ : ∃ L, L = spansS hd Tt := ⟨_, rfl⟩
        rw [← hL] at HXb HYb hsl
        simp only [← hL]
        have HL : Hid (spansS hd Tt = L) := hL.symm
        obtain ⟨q, hq⟩ : ∃ q, q = L.length := ⟨_, rfl⟩
        have Hq : Hid (L.length = q) := hq.symm
        rw [← hq] at hsl
        simp only [← hq]
        clear hq hL
        go_wp2_with fail
        refine (sroom Hb.out.1.sk).mono ?_
        rw [HL.out]
        rintro _ wc ⟨rfl, Fc, hSc, hTc⟩
        have Hc : Hid (Both J Fc w1 wc g rg tb hd Tt Tt ∧ Tt.length = n.toNat) := ⟨Hb.out.1.stp hSc hTc, Hb.out.2⟩
        have HXc : Hid (OwnSp wc lo xa xc L ∧ (∀ gb, xa = some ⟨gb, 0, none⟩ → ¬ Fc gb) ∧ w1.heap.size ≤ lo ∧ rg < lo ∧ tb < lo) := ⟨(HXb.out.1.stp hTc HXb.out.2.1).1, (HXb.out.1.stp hTc HXb.out.2.1).2, HXb.out.2.2⟩
        have HYc : Hid (OwnSp wc lo2 ya yc L ∧ (∀ gb, ya = some ⟨gb, 0, none⟩ → ¬ Fc gb) ∧ ∀ gb, xa = some ⟨gb, 0, none⟩ → gb < lo2) := ⟨(HYb.out.1.stp hTc HYb.out.2.1).1, (HYb.out.1.stp hTc HYb.out.2.1).2, HYb.out.2.2⟩
        clear hSc hTc Hb HXb HYb
        go_wp2_with fail
        refine (rroom_c rg tb hd Tt wc Hc.out.1.rs).mono ?_
        rw [HL.out]
        rintro _ we ⟨rfl, hbe⟩
        have He : Hid (Both J Fc w1 we g rg tb hd Tt Tt ∧ Tt.length = n.toNat) := ⟨Hc.out.1.on hbe, Hc.out.2⟩
        have HXe : Hid (OwnSp we lo xa xc L ∧ (∀ gb, xa = some ⟨gb, 0, none⟩ → ¬ Fc gb) ∧ w1.heap.size ≤ lo ∧ rg < lo ∧ tb < lo) := ⟨(HXc.out.1.stp (Stp.below (F := Fc) hbe) HXc.out.2.1).1, HXc.out.2⟩
        have HYe : Hid (OwnSp we lo2 ya yc L ∧ (∀ gb, ya = some ⟨gb, 0, none⟩ → ¬ Fc gb) ∧ ∀ gb, xa = some ⟨gb, 0, none⟩ → gb < lo2) := ⟨(HYc.out.1.stp (Stp.below (F := Fc) hbe) HYc.out.2.1).1, HYc.out.2⟩
        clear hbe Hc HXc HYc
        generalize roomS L = rm at *
        go_wp2_with fail
        refine (slarge He.out.1.sk).mono ?_
        rw [HL.out]
        rintro _ wf ⟨rfl, Ff, hSf, hTf⟩
        have Hf : Hid (Both J Ff w1 wf g rg tb hd Tt Tt ∧ Tt.length = n.toNat) := ⟨He.out.1.stp hSf hTf, He.out.2⟩
        have HXf : Hid (OwnSp wf lo xa xc L ∧ (∀ gb, xa = some ⟨gb, 0, none⟩ → ¬ Ff gb) ∧ w1.heap.size ≤ lo ∧ rg < lo ∧ tb < lo) := ⟨(HXe.out.1.stp hTf HXe.out.2.1).1, (HXe.out.1.stp hTf HXe.out.2.1).2, HXe.out.2.2⟩
        have HYf : Hid (OwnSp wf lo2 ya yc L ∧ ∀ gb, xa = some ⟨gb, 0, none⟩ → gb < lo2) := ⟨(HYe.out.1.stp hTf HYe.out.2.1).1, HYe.out.2.2⟩
        clear hSf hTf He HXe HYe
        go_wp2_with fail
        refine (rlarge_c rg tb hd Tt wf Hf.out.1.rs).mono ?_
        rw [HL.out]
        rintro _ wg ⟨rfl, hbg⟩
        have Hg : Hid (Both J Ff w1 wg g rg tb hd Tt Tt ∧ Tt.length = n.toNat) := ⟨Hf.out.1.on hbg, Hf.out.2⟩
        have HXg : Hid (OwnSp wg lo xa xc (zap L 0) ∧ (∀ gb, xa = some ⟨gb, 0, none⟩ → ¬ Ff gb) ∧ w1.heap.size ≤ lo ∧ rg < lo ∧ tb < lo) := ⟨(HXf.out.1.stp (Stp.below (F := Ff) hbg) HXf.out.2.1).1, HXf.out.2⟩
        have HYg : Hid (OwnSp wg lo2 ya yc L ∧ ∀ gb, xa = some ⟨gb, 0, none⟩ → gb < lo2) := ⟨(HYf.out.1.stp (F := fun _ => False) (Stp.below hbg) (fun _ _ h => h)).1, HYf.out.2⟩
        clear hbg Hf HXf HYf
        generalize largeS L = lg at *
        go_wp2_with fail
        go_loopw [20] (fun v wr => ∃ (j : Nat), j ≤ q ∧ v = .int .i64 (j : Int) ∧ Hid (Both J Ff w1 wr g rg tb hd Tt Tt ∧ Tt.length = n.toNat) ∧ Hid (OwnSp wr lo xa xc (zap L j) ∧ (∀ gb, xa = some ⟨gb, 0, none⟩ → ¬ Ff gb) ∧ w1.heap.size ≤ lo ∧ rg < lo ∧ tb < lo) ∧ Hid (OwnSp wr lo2 ya yc L ∧ ∀ gb, xa = some ⟨gb, 0, none⟩ → gb < lo2)) (fun v _ => q - (intOf v).toNat)
        case atStart => exact ⟨0, Nat.zero_le _, rfl, Hg, HXg, HYg⟩
        case round =>
          clear Hg HXg HYg
          obtain ⟨j, hj, rfl, Hj, HXj, HYj⟩ := hrel
          by_cases hjq : j < q
          · have hjq' : (j : Int) < q := by omega
            have hjl : j < L.length := by rw [Hq.out]; exact hjq
            obtain ⟨xb, rfl, hx1, hx2, x0, x1, fx0, fx1, hz⟩ := HXj.out.1.zap hjl
            obtain ⟨yb, rfl, hy1, hy2, y0, y1⟩ := HYj.out.1.at hjl
            have hxb := HYj.out.2 xb rfl
            have hO : ∀ k, Only xb wr (((wr.drewN k).setCell ⟨xb, j * 2, none⟩ (.int .i64 0)).setCell ⟨xb, j * 2 + 1, none⟩ (.int .i64 0)) := fun k => (((Only.refl xb wr).drewN k).set _ _).set _ _
            have Hj2 : Hid (∀ k, Both J Ff w1 (((wr.drewN k).setCell ⟨xb, j * 2, none⟩ (.int .i64 0)).setCell ⟨xb, j * 2 + 1, none⟩ (.int .i64 0)) g rg tb hd Tt Tt ∧ Tt.length = n.toNat) := fun k => ⟨Hj.out.1.only (hO k) ⟨HXj.out.2.1 xb rfl, by have := HXj.out.2.2; omega, by have := HXj.out.2.2; omega, by have := HXj.out.2.2; omega⟩, Hj.out.2⟩
            have HX2 : Hid (∀ k, OwnSp (((wr.drewN k).setCell ⟨xb, j * 2, none⟩ (.int .i64 0)).setCell ⟨xb, j * 2 + 1, none⟩ (.int .i64 0)) lo (some ⟨xb, 0, none⟩) xc (zap L (j + 1)) ∧ (∀ gb, some (⟨xb, 0, none⟩ : Addr) = some ⟨gb, 0, none⟩ → ¬ Ff gb) ∧ w1.heap.size ≤ lo ∧ rg < lo ∧ tb < lo) := fun k => ⟨hz k, HXj.out.2⟩
            have HY2 : Hid (∀ k, OwnSp (((wr.drewN k).setCell ⟨xb, j * 2, none⟩ (.int .i64 0)).setCell ⟨xb, j * 2 + 1, none⟩ (.int .i64 0)) lo2 (some ⟨yb, 0, none⟩) yc L ∧ ∀ gb, some (⟨xb, 0, none⟩ : Addr) = some ⟨gb, 0, none⟩ → gb < lo2) := fun k => ⟨ownsRow_same HYj.out.1 (fun b' e' => by cases e'; exact (hO k).block yb (by omega)), HYj.out.2⟩
            clear Hj HXj HYj hz hO
            generalize L[j].1 = fj at *
            generalize L[j].2 = mj at *
            go_wp2_with fail
            go_big_quiet (fail)
            have x0' : (wr.drewN nq).cell? ⟨xb, j * 2, none⟩ = some (.int .i64 (fj : Int)) := x0
            have x1' : (wr.drewN nq).cell? ⟨xb, j * 2 + 1, none⟩ = some (.int .i64 (mj : Int)) := x1
            have fx0' : (wr.drewN nq).frozen? ⟨xb, j * 2, none⟩ = false := fx0
            have fx1' : (wr.drewN nq).frozen? ⟨xb, j * 2 + 1, none⟩ = false := fx1
            go_wp2
            go_roundw
            case rel => exact ⟨j + 1, by omega, by go_num, Hj2.out _, HX2.out _, HY2.out _⟩
            case measure => simp [intOf]; omega
          · obtain rfl : j = q := by omega
            have hge3 : ¬ (j : Int) < j := by omega
            clear HXj HYj
            go_wp2
            go_roundw
            case rel => exact ⟨i + 1, Ff, Tt, by omega, by go_num, Hj⟩
            case measure => simp [intOf]; omega
      by_cases k2 : kd = 2
      · subst k2
        clear HP
        go_wp2_with fail
        refine region_L (fun w' => Below w.heap.size w w') 15 (by kernel_rfl) ?_
        have Hd0 : Hid (Both J F w1 wq.drew g rg tb hd T T ∧ T.length = n.toNat) := ⟨H.out.1.on ((Below.refl _ _).drew), H.out.2⟩
        clear H
        generalize wq.drew = va at *
        have hHeld : (fun w' => Below w.heap.size w w') _ := HW.out Hd0.out.1
        have hne : Nonempty (Sub (fun w' => Below w.heap.size w w')) := ⟨⟨_, hHeld⟩⟩
        have k2 : ∀ s : Sub (fun w' => Below w.heap.size w w'), s.w.cell? ⟨b, off + i * 4 + 2, none⟩ = some (.int .i64 f) := fun s => (HOp.out.on s.ok).c2
        have k3 : ∀ s : Sub (fun w' => Below w.heap.size w w'), s.w.cell? ⟨b, off + i * 4 + 3, none⟩ = some (.int .i64 m) := fun s => (HOp.out.on s.ok).c3
        refine take_L (i := 0) rfl (by kernel_rfl) (by kernel_rfl) (by kernel_rfl) (by kernel_rfl) (fun _ _ _ _ h => h) (by exact hHeld) (fun K hK => ?_)
        go_simp
        refine hK _ ?_
        clear hK K
        refine take_L (i := 1) rfl (by kernel_rfl) (by kernel_rfl) (by kernel_rfl) (by kernel_rfl) (fun _ _ _ _ h => h) (by exact hHeld) (fun K hK => ?_)
        go_simp
        refine hK _ ?_
        clear hK K
        refine take_L (i := 2) rfl (by kernel_rfl) (by kernel_rfl) (by kernel_rfl) (by kernel_rfl) (fun _ _ _ _ h => h) (by exact hHeld) (fun K hK => ?_)
        go_simp
        refine hK _ ?_
        clear hK K
        refine take_L (i := 3) rfl (by kernel_rfl) (by kernel_rfl) (by kernel_rfl) (by kernel_rfl) (fun _ _ _ _ h => h) (by exact hHeld) (fun K hK => ?_)
        go_simp
        refine hK _ ?_
        clear hK K
        refine take_L (i := 4) rfl (by kernel_rfl) (by kernel_rfl) (by kernel_rfl) (by kernel_rfl) (fun _ _ _ _ h => h) (by exact hHeld) (fun K hK => ?_)
        go_simp
        refine hK _ ?_
        clear hK K
        refine take_L (i := 5) rfl (by kernel_rfl) (by kernel_rfl) (by kernel_rfl) (by kernel_rfl) (fun _ _ _ _ h => h) (by exact hHeld) (fun K hK => ?_)
        go_simp
        refine hK _ ?_
        clear hK K
        refine take_L (i := 7) rfl (by kernel_rfl) (by kernel_rfl) (by kernel_rfl) (by kernel_rfl) (fun _ _ _ _ h => h) (by exact hHeld) (fun K hK => ?_)
        go_simp
        refine hK _ ?_
        clear hK K
        refine take_L (i := 8) rfl (by kernel_rfl) (by kernel_rfl) (by kernel_rfl) (by kernel_rfl) (fun _ _ _ _ h => h) (by exact hHeld) (fun K hK => ?_)
        go_simp
        refine hK _ ?_
        clear hK K
        refine take_L (i := 9) rfl (by kernel_rfl) (by kernel_rfl) (by kernel_rfl) (by kernel_rfl) (fun _ _ _ _ h => h) (by exact hHeld) (fun K hK => ?_)
        go_simp
        refine hK _ ?_
        clear hK K
        refine take_L (i := 10) rfl (by kernel_rfl) (by kernel_rfl) (by kernel_rfl) (by kernel_rfl) (fun _ _ _ _ h => h) (by exact hHeld) (fun K hK => ?_)
        go_simp
        refine hK _ ?_
        clear hK K
        refine take_L (i := 11) rfl (by kernel_rfl) (by kernel_rfl) (by kernel_rfl) (by kernel_rfl) (fun _ _ _ _ h => h) (by exact hHeld) (fun K hK => ?_)
        go_simp
        refine hK _ ?_
        clear hK K
        refine take_L (i := 12) rfl (by kernel_rfl) (by kernel_rfl) (by kernel_rfl) (by kernel_rfl) (fun _ _ _ _ h => h) (by exact hHeld) (fun K hK => ?_)
        go_simp
        refine hK _ ?_
        clear hK K
        refine one_L (i := 6) (by kernel_rfl) rfl (fun K hK => ?_)
        go_simp
        refine (bfree Hd0.out.1 f m hbf hbm).mono ?_
        rintro _ vb ⟨rfl, Fv, hBv⟩
        have Hd1 : Hid (Both J Fv w1 vb g rg tb hd (doS hd T f m true false) T ∧ T.length = n.toNat) := ⟨hBv, Hd0.out.2⟩
        clear hBv Hd0
        replace hHeld : (fun w' => Below w.heap.size w w') _ := HW.out Hd1.out.1
        refine hK.out _ _ (fun _ => hHeld) ?_
        clear hK K
        refine one_L (i := 13) (by kernel_rfl) rfl (fun K hK => ?_)
        go_simp
        refine (bfree_r Hd1.out.1 f m hbf hbm).mono ?_
        rintro _ vc ⟨rfl, hBv⟩
        have Hd2 : Hid (Both J Fv w1 vc g rg tb hd (doS hd T f m true false) (doS hd T f m true false) ∧ T.length = n.toNat) := ⟨hBv, Hd1.out.2⟩
        clear hBv Hd1
        replace hHeld : (fun w' => Below w.heap.size w w') _ := HW.out Hd2.out.1
        refine hK.out _ _ (fun _ => hHeld) ?_
        clear hK K
        refine take_L (i := 14) rfl (by kernel_rfl) (by kernel_rfl) (by kernel_rfl) (by kernel_rfl) (fun _ _ _ _ h => h) (by exact hHeld) (fun K hK => ?_)
        go_simp
        refine hK _ ?_
        clear hK K
        refine one_L (i := 15) (by kernel_rfl) rfl (fun K hK => ?_)
        go_simp
        refine hK.out _ _ (fun h => absurd rfl h) ?_
        clear hK K
        refine done_L (by kernel_rfl) ?_ _
        obtain ⟨Ft, Tt, HBt⟩ : ∃ Ft Tt, Hid (Both J Ft w1 vc g rg tb hd Tt Tt ∧ Tt.length = n.toNat) := ⟨Fv, _, Hd2.out.1, by rw [doS_len]; exact Hd2.out.2⟩
        obtain ⟨wt, hwt⟩ : ∃ wt, wt = vc := ⟨_, rfl⟩
        subst hwt
        clear hHeld hne k2 k3 Hd2 c0
        generalize erS hd T f m true = v1 at *
        have hsl : (spansS hd Tt).length ≤ 10000 := by have := spTo_len hd Tt (Tt.length - hd); have h2 := HBt.out.2; unfold spansS; omega
        go_wp2_with fail
        refine (sspans HBt.out.1.sk).mono ?_
        rintro _ wa ⟨Fa, xa, xc, rfl, hSa, hTa, hOa, hga⟩
        have Ha : Hid (Both J Fa w1 wa g rg tb hd Tt Tt ∧ Tt.length = n.toNat) := ⟨HBt.out.1.stp hSa hTa, HBt.out.2⟩
        obtain ⟨lo, hlo⟩ : ∃ lo, lo = wt.heap.size := ⟨_, rfl⟩
        have HXa : Hid (OwnSp wa lo xa xc (spansS hd Tt) ∧ (∀ gb, xa = some ⟨gb, 0, none⟩ → ¬ Fa gb) ∧ w1.heap.size ≤ lo ∧ rg < lo ∧ tb < lo) := ⟨by rw [hlo]; exact hOa, hga, by rw [hlo]; exact HBt.out.1.sk.below.size, by rw [hlo]; exact (Array.getElem?_eq_some_iff.1 HBt.out.1.rs.head).1, by rw [hlo]; exact (Array.getElem?_eq_some_iff.1 HBt.out.1.rs.row).1⟩
        clear hSa hTa hOa hga HBt hlo
        go_wp2_with fail
        refine (rspans_c rg tb hd Tt wa Ha.out.1.rs).mono ?_
        rintro _ wb ⟨hbb, ya, yc, rfl, hOb⟩
        have Hb : Hid (Both J Fa w1 wb g rg tb hd Tt Tt ∧ Tt.length = n.toNat) := ⟨Ha.out.1.on hbb, Ha.out.2⟩
        have HXb : Hid (OwnSp wb lo xa xc (spansS hd Tt) ∧ (∀ gb, xa = some ⟨gb, 0, none⟩ → ¬ Fa gb) ∧ w1.heap.size ≤ lo ∧ rg < lo ∧ tb < lo) := ⟨(HXa.out.1.stp (Stp.below (F := Fa) hbb) HXa.out.2.1).1, HXa.out.2⟩
        have HYb : Hid (OwnSp wb wa.heap.size ya yc (spansS hd Tt) ∧ (∀ gb, ya = some ⟨gb, 0, none⟩ → ¬ Fa gb) ∧ ∀ gb, xa = some ⟨gb, 0, none⟩ → gb < wa.heap.size) := ⟨hOb, fun gb e hf => by have h1 := (Ha.out.1.sk.lt gb hf).2; have h2 := (World.ownsRow.lt hOb gb (by rw [e]; rfl)).1; omega, fun gb e => (World.ownsRow.lt HXa.out.1 gb (by rw [e]; rfl)).2⟩
        generalize wa.heap.size = lo2 at *
        clear hbb hOb Ha HXa
        obtain ⟨L, hL⟩ : ∃ L, L = spansS hd Tt := ⟨_, rfl⟩
        rw [← hL] at HXb HYb hsl
        simp only [← hL]
        have HL : Hid (spansS hd Tt = L) := hL.symm
        obtain ⟨q, hq⟩ : ∃ q, q = L.length := ⟨_, rfl⟩
        have Hq : Hid (L.length = q) := hq.symm
        rw [← hq] at hsl
        simp only [← hq]
        clear hq hL
        go_wp2_with fail
        refine (sroom Hb.out.1.sk).mono ?_
        rw [HL.out]
        rintro _ wc ⟨rfl, Fc, hSc, hTc⟩
        have Hc : Hid (Both J Fc w1 wc g rg tb hd Tt Tt ∧ Tt.length = n.toNat) := ⟨Hb.out.1.stp hSc hTc, Hb.out.2⟩
        have HXc : Hid (OwnSp wc lo xa xc L ∧ (∀ gb, xa = some ⟨gb, 0, none⟩ → ¬ Fc gb) ∧ w1.heap.size ≤ lo ∧ rg < lo ∧ tb < lo) := ⟨(HXb.out.1.stp hTc HXb.out.2.1).1, (HXb.out.1.stp hTc HXb.out.2.1).2, HXb.out.2.2⟩
        have HYc : Hid (OwnSp wc lo2 ya yc L ∧ (∀ gb, ya = some ⟨gb, 0, none⟩ → ¬ Fc gb) ∧ ∀ gb, xa = some ⟨gb, 0, none⟩ → gb < lo2) := ⟨(HYb.out.1.stp hTc HYb.out.2.1).1, (HYb.out.1.stp hTc HYb.out.2.1).2, HYb.out.2.2⟩
        clear hSc hTc Hb HXb HYb
        go_wp2_with fail
        refine (rroom_c rg tb hd Tt wc Hc.out.1.rs).mono ?_
        rw [HL.out]
        rintro _ we ⟨rfl, hbe⟩
        have He : Hid (Both J Fc w1 we g rg tb hd Tt Tt ∧ Tt.length = n.toNat) := ⟨Hc.out.1.on hbe, Hc.out.2⟩
        have HXe : Hid (OwnSp we lo xa xc L ∧ (∀ gb, xa = some ⟨gb, 0, none⟩ → ¬ Fc gb) ∧ w1.heap.size ≤ lo ∧ rg < lo ∧ tb < lo) := ⟨(HXc.out.1.stp (Stp.below (F := Fc) hbe) HXc.out.2.1).1, HXc.out.2⟩
        have HYe : Hid (OwnSp we lo2 ya yc L ∧ (∀ gb, ya = some ⟨gb, 0, none⟩ → ¬ Fc gb) ∧ ∀ gb, xa = some ⟨gb, 0, none⟩ → gb < lo2) := ⟨(HYc.out.1.stp (Stp.below (F := Fc) hbe) HYc.out.2.1).1, HYc.out.2⟩
        clear hbe Hc HXc HYc
        generalize roomS L = rm at *
        go_wp2_with fail
        refine (slarge He.out.1.sk).mono ?_
        rw [HL.out]
        rintro _ wf ⟨rfl, Ff, hSf, hTf⟩
        have Hf : Hid (Both J Ff w1 wf g rg tb hd Tt Tt ∧ Tt.length = n.toNat) := ⟨He.out.1.stp hSf hTf, He.out.2⟩
        have HXf : Hid (OwnSp wf lo xa xc L ∧ (∀ gb, xa = some ⟨gb, 0, none⟩ → ¬ Ff gb) ∧ w1.heap.size ≤ lo ∧ rg < lo ∧ tb < lo) := ⟨(HXe.out.1.stp hTf HXe.out.2.1).1, (HXe.out.1.stp hTf HXe.out.2.1).2, HXe.out.2.2⟩
        have HYf : Hid (OwnSp wf lo2 ya yc L ∧ ∀ gb, xa = some ⟨gb, 0, none⟩ → gb < lo2) := ⟨(HYe.out.1.stp hTf HYe.out.2.1).1, HYe.out.2.2⟩
        clear hSf hTf He HXe HYe
        go_wp2_with fail
        refine (rlarge_c rg tb hd Tt wf Hf.out.1.rs).mono ?_
        rw [HL.out]
        rintro _ wg ⟨rfl, hbg⟩
        have Hg : Hid (Both J Ff w1 wg g rg tb hd Tt Tt ∧ Tt.length = n.toNat) := ⟨Hf.out.1.on hbg, Hf.out.2⟩
        have HXg : Hid (OwnSp wg lo xa xc (zap L 0) ∧ (∀ gb, xa = some ⟨gb, 0, none⟩ → ¬ Ff gb) ∧ w1.heap.size ≤ lo ∧ rg < lo ∧ tb < lo) := ⟨(HXf.out.1.stp (Stp.below (F := Ff) hbg) HXf.out.2.1).1, HXf.out.2⟩
        have HYg : Hid (OwnSp wg lo2 ya yc L ∧ ∀ gb, xa = some ⟨gb, 0, none⟩ → gb < lo2) := ⟨(HYf.out.1.stp (F := fun _ => False) (Stp.below hbg) (fun _ _ h => h)).1, HYf.out.2⟩
        clear hbg Hf HXf HYf
        generalize largeS L = lg at *
        go_wp2_with fail
        go_loopw [20] (fun v wr => ∃ (j : Nat), j ≤ q ∧ v = .int .i64 (j : Int) ∧ Hid (Both J Ff w1 wr g rg tb hd Tt Tt ∧ Tt.length = n.toNat) ∧ Hid (OwnSp wr lo xa xc (zap L j) ∧ (∀ gb, xa = some ⟨gb, 0, none⟩ → ¬ Ff gb) ∧ w1.heap.size ≤ lo ∧ rg < lo ∧ tb < lo) ∧ Hid (OwnSp wr lo2 ya yc L ∧ ∀ gb, xa = some ⟨gb, 0, none⟩ → gb < lo2)) (fun v _ => q - (intOf v).toNat)
        case atStart => exact ⟨0, Nat.zero_le _, rfl, Hg, HXg, HYg⟩
        case round =>
          clear Hg HXg HYg
          obtain ⟨j, hj, rfl, Hj, HXj, HYj⟩ := hrel
          by_cases hjq : j < q
          · have hjq' : (j : Int) < q := by omega
            have hjl : j < L.length := by rw [Hq.out]; exact hjq
            obtain ⟨xb, rfl, hx1, hx2, x0, x1, fx0, fx1, hz⟩ := HXj.out.1.zap hjl
            obtain ⟨yb, rfl, hy1, hy2, y0, y1⟩ := HYj.out.1.at hjl
            have hxb := HYj.out.2 xb rfl
            have hO : ∀ k, Only xb wr (((wr.drewN k).setCell ⟨xb, j * 2, none⟩ (.int .i64 0)).setCell ⟨xb, j * 2 + 1, none⟩ (.int .i64 0)) := fun k => (((Only.refl xb wr).drewN k).set _ _).set _ _
            have Hj2 : Hid (∀ k, Both J Ff w1 (((wr.drewN k).setCell ⟨xb, j * 2, none⟩ (.int .i64 0)).setCell ⟨xb, j * 2 + 1, none⟩ (.int .i64 0)) g rg tb hd Tt Tt ∧ Tt.length = n.toNat) := fun k => ⟨Hj.out.1.only (hO k) ⟨HXj.out.2.1 xb rfl, by have := HXj.out.2.2; omega, by have := HXj.out.2.2; omega, by have := HXj.out.2.2; omega⟩, Hj.out.2⟩
            have HX2 : Hid (∀ k, OwnSp (((wr.drewN k).setCell ⟨xb, j * 2, none⟩ (.int .i64 0)).setCell ⟨xb, j * 2 + 1, none⟩ (.int .i64 0)) lo (some ⟨xb, 0, none⟩) xc (zap L (j + 1)) ∧ (∀ gb, some (⟨xb, 0, none⟩ : Addr) = some ⟨gb, 0, none⟩ → ¬ Ff gb) ∧ w1.heap.size ≤ lo ∧ rg < lo ∧ tb < lo) := fun k => ⟨hz k, HXj.out.2⟩
            have HY2 : Hid (∀ k, OwnSp (((wr.drewN k).setCell ⟨xb, j * 2, none⟩ (.int .i64 0)).setCell ⟨xb, j * 2 + 1, none⟩ (.int .i64 0)) lo2 (some ⟨yb, 0, none⟩) yc L ∧ ∀ gb, some (⟨xb, 0, none⟩ : Addr) = some ⟨gb, 0, none⟩ → gb < lo2) := fun k => ⟨ownsRow_same HYj.out.1 (fun b' e' => by cases e'; exact (hO k).block yb (by omega)), HYj.out.2⟩
            clear Hj HXj HYj hz hO
            generalize L[j].1 = fj at *
            generalize L[j].2 = mj at *
            go_wp2_with fail
            go_big_quiet (fail)
            have x0' : (wr.drewN nq).cell? ⟨xb, j * 2, none⟩ = some (.int .i64 (fj : Int)) := x0
            have x1' : (wr.drewN nq).cell? ⟨xb, j * 2 + 1, none⟩ = some (.int .i64 (mj : Int)) := x1
            have fx0' : (wr.drewN nq).frozen? ⟨xb, j * 2, none⟩ = false := fx0
            have fx1' : (wr.drewN nq).frozen? ⟨xb, j * 2 + 1, none⟩ = false := fx1
            go_wp2
            go_roundw
            case rel => exact ⟨j + 1, by omega, by go_num, Hj2.out _, HX2.out _, HY2.out _⟩
            case measure => simp [intOf]; omega
          · obtain rfl : j = q := by omega
            have hge3 : ¬ (j : Int) < j := by omega
            clear HXj HYj
            go_wp2
            go_roundw
            case rel => exact ⟨i + 1, Ff, Tt, by omega, by go_num, Hj⟩
            case measure => simp [intOf]; omega
      have n0 : (kd == 0) = false := by simpa using k0
      have n1 : (kd == 1) = false := by simpa using k1
      have n2 : (kd == 2) = false := by simpa using k2
      obtain ⟨Ft, Tt, HBt⟩ : ∃ Ft Tt, Hid (Both J Ft w1 wq g rg tb hd Tt Tt ∧ Tt.length = n.toNat) := ⟨F, T, H.out⟩
      obtain ⟨wt, hwt⟩ : ∃ wt, wt = wq := ⟨_, rfl⟩
      subst hwt
      clear HP H
      have hsl : (spansS hd Tt).length ≤ 10000 := by have := spTo_len hd Tt (Tt.length - hd); have h2 := HBt.out.2; unfold spansS; omega
      go_wp2_with fail
      refine (sspans HBt.out.1.sk).mono ?_
      rintro _ wa ⟨Fa, xa, xc, rfl, hSa, hTa, hOa, hga⟩
      have Ha : Hid (Both J Fa w1 wa g rg tb hd Tt Tt ∧ Tt.length = n.toNat) := ⟨HBt.out.1.stp hSa hTa, HBt.out.2⟩
      obtain ⟨lo, hlo⟩ : ∃ lo, lo = wt.heap.size := ⟨_, rfl⟩
      have HXa : Hid (OwnSp wa lo xa xc (spansS hd Tt) ∧ (∀ gb, xa = some ⟨gb, 0, none⟩ → ¬ Fa gb) ∧ w1.heap.size ≤ lo ∧ rg < lo ∧ tb < lo) := ⟨by rw [hlo]; exact hOa, hga, by rw [hlo]; exact HBt.out.1.sk.below.size, by rw [hlo]; exact (Array.getElem?_eq_some_iff.1 HBt.out.1.rs.head).1, by rw [hlo]; exact (Array.getElem?_eq_some_iff.1 HBt.out.1.rs.row).1⟩
      clear hSa hTa hOa hga HBt hlo
      go_wp2_with fail
      refine (rspans_c rg tb hd Tt wa Ha.out.1.rs).mono ?_
      rintro _ wb ⟨hbb, ya, yc, rfl, hOb⟩
      have Hb : Hid (Both J Fa w1 wb g rg tb hd Tt Tt ∧ Tt.length = n.toNat) := ⟨Ha.out.1.on hbb, Ha.out.2⟩
      have HXb : Hid (OwnSp wb lo xa xc (spansS hd Tt) ∧ (∀ gb, xa = some ⟨gb, 0, none⟩ → ¬ Fa gb) ∧ w1.heap.size ≤ lo ∧ rg < lo ∧ tb < lo) := ⟨(HXa.out.1.stp (Stp.below (F := Fa) hbb) HXa.out.2.1).1, HXa.out.2⟩
      have HYb : Hid (OwnSp wb wa.heap.size ya yc (spansS hd Tt) ∧ (∀ gb, ya = some ⟨gb, 0, none⟩ → ¬ Fa gb) ∧ ∀ gb, xa = some ⟨gb, 0, none⟩ → gb < wa.heap.size) := ⟨hOb, fun gb e hf => by have h1 := (Ha.out.1.sk.lt gb hf).2; have h2 := (World.ownsRow.lt hOb gb (by rw [e]; rfl)).1; omega, fun gb e => (World.ownsRow.lt HXa.out.1 gb (by rw [e]; rfl)).2⟩
      generalize wa.heap.size = lo2 at *
      clear hbb hOb Ha HXa
      obtain ⟨L, hL⟩ : ∃ L, L = spansS hd Tt := ⟨_, rfl⟩
      rw [← hL] at HXb HYb hsl
      simp only [← hL]
      have HL : Hid (spansS hd Tt = L) := hL.symm
      obtain ⟨q, hq⟩ : ∃ q, q = L.length := ⟨_, rfl⟩
      have Hq : Hid (L.length = q) := hq.symm
      rw [← hq] at hsl
      simp only [← hq]
      clear hq hL
      go_wp2_with fail
      refine (sroom Hb.out.1.sk).mono ?_
      rw [HL.out]
      rintro _ wc ⟨rfl, Fc, hSc, hTc⟩
      have Hc : Hid (Both J Fc w1 wc g rg tb hd Tt Tt ∧ Tt.length = n.toNat) := ⟨Hb.out.1.stp hSc hTc, Hb.out.2⟩
      have HXc : Hid (OwnSp wc lo xa xc L ∧ (∀ gb, xa = some ⟨gb, 0, none⟩ → ¬ Fc gb) ∧ w1.heap.size ≤ lo ∧ rg < lo ∧ tb < lo) := ⟨(HXb.out.1.stp hTc HXb.out.2.1).1, (HXb.out.1.stp hTc HXb.out.2.1).2, HXb.out.2.2⟩
      have HYc : Hid (OwnSp wc lo2 ya yc L ∧ (∀ gb, ya = some ⟨gb, 0, none⟩ → ¬ Fc gb) ∧ ∀ gb, xa = some ⟨gb, 0, none⟩ → gb < lo2) := ⟨(HYb.out.1.stp hTc HYb.out.2.1).1, (HYb.out.1.stp hTc HYb.out.2.1).2, HYb.out.2.2⟩
      clear hSc hTc Hb HXb HYb
      go_wp2_with fail
      refine (rroom_c rg tb hd Tt wc Hc.out.1.rs).mono ?_
      rw [HL.out]
      rintro _ we ⟨rfl, hbe⟩
      have He : Hid (Both J Fc w1 we g rg tb hd Tt Tt ∧ Tt.length = n.toNat) := ⟨Hc.out.1.on hbe, Hc.out.2⟩
      have HXe : Hid (OwnSp we lo xa xc L ∧ (∀ gb, xa = some ⟨gb, 0, none⟩ → ¬ Fc gb) ∧ w1.heap.size ≤ lo ∧ rg < lo ∧ tb < lo) := ⟨(HXc.out.1.stp (Stp.below (F := Fc) hbe) HXc.out.2.1).1, HXc.out.2⟩
      have HYe : Hid (OwnSp we lo2 ya yc L ∧ (∀ gb, ya = some ⟨gb, 0, none⟩ → ¬ Fc gb) ∧ ∀ gb, xa = some ⟨gb, 0, none⟩ → gb < lo2) := ⟨(HYc.out.1.stp (Stp.below (F := Fc) hbe) HYc.out.2.1).1, HYc.out.2⟩
      clear hbe Hc HXc HYc
      generalize roomS L = rm at *
      go_wp2_with fail
      refine (slarge He.out.1.sk).mono ?_
      rw [HL.out]
      rintro _ wf ⟨rfl, Ff, hSf, hTf⟩
      have Hf : Hid (Both J Ff w1 wf g rg tb hd Tt Tt ∧ Tt.length = n.toNat) := ⟨He.out.1.stp hSf hTf, He.out.2⟩
      have HXf : Hid (OwnSp wf lo xa xc L ∧ (∀ gb, xa = some ⟨gb, 0, none⟩ → ¬ Ff gb) ∧ w1.heap.size ≤ lo ∧ rg < lo ∧ tb < lo) := ⟨(HXe.out.1.stp hTf HXe.out.2.1).1, (HXe.out.1.stp hTf HXe.out.2.1).2, HXe.out.2.2⟩
      have HYf : Hid (OwnSp wf lo2 ya yc L ∧ ∀ gb, xa = some ⟨gb, 0, none⟩ → gb < lo2) := ⟨(HYe.out.1.stp hTf HYe.out.2.1).1, HYe.out.2.2⟩
      clear hSf hTf He HXe HYe
      go_wp2_with fail
      refine (rlarge_c rg tb hd Tt wf Hf.out.1.rs).mono ?_
      rw [HL.out]
      rintro _ wg ⟨rfl, hbg⟩
      have Hg : Hid (Both J Ff w1 wg g rg tb hd Tt Tt ∧ Tt.length = n.toNat) := ⟨Hf.out.1.on hbg, Hf.out.2⟩
      have HXg : Hid (OwnSp wg lo xa xc (zap L 0) ∧ (∀ gb, xa = some ⟨gb, 0, none⟩ → ¬ Ff gb) ∧ w1.heap.size ≤ lo ∧ rg < lo ∧ tb < lo) := ⟨(HXf.out.1.stp (Stp.below (F := Ff) hbg) HXf.out.2.1).1, HXf.out.2⟩
      have HYg : Hid (OwnSp wg lo2 ya yc L ∧ ∀ gb, xa = some ⟨gb, 0, none⟩ → gb < lo2) := ⟨(HYf.out.1.stp (F := fun _ => False) (Stp.below hbg) (fun _ _ h => h)).1, HYf.out.2⟩
      clear hbg Hf HXf HYf
      generalize largeS L = lg at *
      go_wp2_with fail
      go_loopw [20] (fun v wr => ∃ (j : Nat), j ≤ q ∧ v = .int .i64 (j : Int) ∧ Hid (Both J Ff w1 wr g rg tb hd Tt Tt ∧ Tt.length = n.toNat) ∧ Hid (OwnSp wr lo xa xc (zap L j) ∧ (∀ gb, xa = some ⟨gb, 0, none⟩ → ¬ Ff gb) ∧ w1.heap.size ≤ lo ∧ rg < lo ∧ tb < lo) ∧ Hid (OwnSp wr lo2 ya yc L ∧ ∀ gb, xa = some ⟨gb, 0, none⟩ → gb < lo2)) (fun v _ => q - (intOf v).toNat)
      case atStart => exact ⟨0, Nat.zero_le _, rfl, Hg, HXg, HYg⟩
      case round =>
        clear Hg HXg HYg
        obtain ⟨j, hj, rfl, Hj, HXj, HYj⟩ := hrel
        by_cases hjq : j < q
        · have hjq' : (j : Int) < q := by omega
          have hjl : j < L.length := by rw [Hq.out]; exact hjq
          obtain ⟨xb, rfl, hx1, hx2, x0, x1, fx0, fx1, hz⟩ := HXj.out.1.zap hjl
          obtain ⟨yb, rfl, hy1, hy2, y0, y1⟩ := HYj.out.1.at hjl
          have hxb := HYj.out.2 xb rfl
          have hO : ∀ k, Only xb wr (((wr.drewN k).setCell ⟨xb, j * 2, none⟩ (.int .i64 0)).setCell ⟨xb, j * 2 + 1, none⟩ (.int .i64 0)) := fun k => (((Only.refl xb wr).drewN k).set _ _).set _ _
          have Hj2 : Hid (∀ k, Both J Ff w1 (((wr.drewN k).setCell ⟨xb, j * 2, none⟩ (.int .i64 0)).setCell ⟨xb, j * 2 + 1, none⟩ (.int .i64 0)) g rg tb hd Tt Tt ∧ Tt.length = n.toNat) := fun k => ⟨Hj.out.1.only (hO k) ⟨HXj.out.2.1 xb rfl, by have := HXj.out.2.2; omega, by have := HXj.out.2.2; omega, by have := HXj.out.2.2; omega⟩, Hj.out.2⟩
          have HX2 : Hid (∀ k, OwnSp (((wr.drewN k).setCell ⟨xb, j * 2, none⟩ (.int .i64 0)).setCell ⟨xb, j * 2 + 1, none⟩ (.int .i64 0)) lo (some ⟨xb, 0, none⟩) xc (zap L (j + 1)) ∧ (∀ gb, some (⟨xb, 0, none⟩ : Addr) = some ⟨gb, 0, none⟩ → ¬ Ff gb) ∧ w1.heap.size ≤ lo ∧ rg < lo ∧ tb < lo) := fun k => ⟨hz k, HXj.out.2⟩
          have HY2 : Hid (∀ k, OwnSp (((wr.drewN k).setCell ⟨xb, j * 2, none⟩ (.int .i64 0)).setCell ⟨xb, j * 2 + 1, none⟩ (.int .i64 0)) lo2 (some ⟨yb, 0, none⟩) yc L ∧ ∀ gb, some (⟨xb, 0, none⟩ : Addr) = some ⟨gb, 0, none⟩ → gb < lo2) := fun k => ⟨ownsRow_same HYj.out.1 (fun b' e' => by cases e'; exact (hO k).block yb (by omega)), HYj.out.2⟩
          clear Hj HXj HYj hz hO
          generalize L[j].1 = fj at *
          generalize L[j].2 = mj at *
          go_wp2_with fail
          go_big_quiet (fail)
          have x0' : (wr.drewN nq).cell? ⟨xb, j * 2, none⟩ = some (.int .i64 (fj : Int)) := x0
          have x1' : (wr.drewN nq).cell? ⟨xb, j * 2 + 1, none⟩ = some (.int .i64 (mj : Int)) := x1
          have fx0' : (wr.drewN nq).frozen? ⟨xb, j * 2, none⟩ = false := fx0
          have fx1' : (wr.drewN nq).frozen? ⟨xb, j * 2 + 1, none⟩ = false := fx1
          go_wp2
          go_roundw
          case rel => exact ⟨j + 1, by omega, by go_num, Hj2.out _, HX2.out _, HY2.out _⟩
          case measure => simp [intOf]; omega
        · obtain rfl : j = q := by omega
          have hge3 : ¬ (j : Int) < j := by omega
          clear HXj HYj
          go_wp2
          go_roundw
          case rel => exact ⟨i + 1, Ff, Tt, by omega, by go_num, Hj⟩
          case measure => simp [intOf]; omega
    · obtain rfl : i = ln := by omega
      have hge2 : ¬ (i : Int) < i := by omega
      have R := HP.out wq (Hb1.out.trans (H.out.1.sk.below.mono Hb1.out.size))
      clear HP H HI Hb1
      go_wp2
      exact R
end Go.Proofs.Ytffhnecdmdmmkaa
