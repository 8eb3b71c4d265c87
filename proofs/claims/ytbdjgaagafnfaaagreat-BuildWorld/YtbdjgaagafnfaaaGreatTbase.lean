/-
  Lists of numbers in memory; what is asked of a strata's package, as a structure: the laws are walked over it. The document's Fill, and the columns that the statements make.
-/
import Derived.Test.YtbdjgaagafnfaaaGreatTref
import Derived.Test.YtbdjgaagafnfaaaGreatCAwake
import Derived.Test.YtbdjgaagafnfaaaGreatHmap
set_option maxRecDepth 20000
namespace Go.Proofs.YtbdjgaagafnfaaaGreat
open C Go.RowKit

/-- A list of numbers that a slice shows. -/
structure IntsAt (w : World) (a : Option Addr) (n : Nat) (xs : List Int) : Prop where
  len : xs.length = n
  cells : ∀ k, k < n → ∃ b o, a = some ⟨b, o, none⟩ ∧ w.cell? ⟨b, o + k, none⟩ = some (.int .i64 (xs.getD k 0))
theorem IntsAt.on {w w' : World} {a : Option Addr} {n : Nat} {xs : List Int} (h : IntsAt w a n xs) (hb : Below w.heap.size w w') : IntsAt w' a n xs :=
  ⟨h.len, fun k hk => by
    obtain ⟨b, o, e, hc⟩ := h.cells k hk
    exact ⟨b, o, e, cell_below hc hb⟩⟩
theorem IntsAt.at {w : World} {b o n : Nat} {xs : List Int} (h : IntsAt w (some ⟨b, o, none⟩) n xs) (k : Nat) (hk : k < n) : w.cell? ⟨b, o + k, none⟩ = some (.int .i64 (xs.getD k 0)) := by
  obtain ⟨b', o', e, hc⟩ := h.cells k hk
  cases e
  exact hc
theorem IntsAt.some {w : World} {a : Option Addr} {n : Nat} {xs : List Int} (h : IntsAt w a n xs) (hn : 0 < n) : ∃ b o, a = .some ⟨b, o, none⟩ := by
  obtain ⟨b, o, e, _⟩ := h.cells 0 hn
  exact ⟨b, o, e⟩
theorem ColsAt.ints {w : World} {a : Option Addr} {xs : List Int} (h : ColsAt w a xs) : IntsAt w a xs.length xs := by
  obtain ⟨b, off, e, hc⟩ := h
  refine ⟨rfl, fun k hk => ⟨b, off, e, ?_⟩⟩
  rw [hc k hk, List.getD_eq_getElem?_getD, List.getElem?_eq_getElem hk]
  rfl
theorem IntsAt.take {w : World} {a : Option Addr} {n m : Nat} {xs : List Int} (h : IntsAt w a n xs) (hm : m ≤ n) : IntsAt w a m (xs.take m) :=
  ⟨by rw [List.length_take, h.len]; omega, fun k hk => by
    obtain ⟨b, o, e, hc⟩ := h.cells k (by omega)
    refine ⟨b, o, e, ?_⟩
    rw [hc]
    simp [List.getD_eq_getElem?_getD, hk]⟩
/-- A block of numbers. -/
def IBlk (w : World) (b : Nat) (xs : List Int) : Prop := w.heap[b]? = some (.cells (xs.map (Value.int .i64)).toArray 3 (0, 0))
theorem IBlk.lt {w : World} {b : Nat} {xs : List Int} (h : IBlk w b xs) : b < w.heap.size := (Array.getElem?_eq_some_iff.1 h).1
theorem IBlk.cell {w : World} {b : Nat} {xs : List Int} (h : IBlk w b xs) {k : Nat} (hk : k < xs.length) : w.cell? ⟨b, k, none⟩ = some (.int .i64 (xs.getD k 0)) := by
  rw [cell_of_row w b k _ 3 (0, 0) h]
  simp [List.getD_eq_getElem?_getD, hk]
theorem IBlk.free {w : World} {b : Nat} {xs : List Int} (h : IBlk w b xs) (k : Nat) : w.frozen? ⟨b, k, none⟩ = false := frozen_of_row w b k _ 3 h
theorem IBlk.set {w : World} {b : Nat} {xs : List Int} (h : IBlk w b xs) (k : Nat) (x : Int) : IBlk (w.setCell ⟨b, k, none⟩ (.int .i64 x)) b (xs.set k x) := by
  unfold IBlk
  rw [heap_setCell_same w b k _ 3 _ h]
  simp
theorem IBlk.ints {w : World} {b : Nat} {xs : List Int} (h : IBlk w b xs) {n : Nat} (hn : xs.length = n) : IntsAt w (.some ⟨b, 0, none⟩) n xs :=
  ⟨hn, fun k hk => ⟨b, 0, rfl, by rw [Nat.zero_add]; exact h.cell (by omega)⟩⟩
theorem getD_set (zs : List Int) (i j : Nat) (v : Int) (hi : i < zs.length) : (zs.set i v).getD j 0 = if i = j then v else zs.getD j 0 := by
  rw [List.getD_eq_getElem?_getD, List.getD_eq_getElem?_getD, List.getElem?_set]
  by_cases h : i = j
  · rw [if_pos h, if_pos h, if_pos hi]
    rfl
  · rw [if_neg h, if_neg h]

theorem wp_region_tail {P : Program} {id : Nat} {Q : Exit → Act → World → Prop} {a : Act} {w : World} {l : List Oper} (n : Nat) (hm : P.follows .mixedOrders = true) (hB : Region.lexTailB .any l.toArray n = true)
    (h : wpStill P l.toArray (w.drewN 1) (fun a' => wpList P l.toArray Q (l.drop n) a' (w.drewN 1)) (l.take n) a) : (Code.region id l.toArray true).wp P Q a w :=
  wp_region_still_tail n hm hB h
theorem below_drewN {B : Nat} {a w : World} (h : Below B a w) (n : Nat) : Below B a (w.drewN n) := ⟨h.os, h.tape, h.output, h.size, h.block⟩

/-! ### what is asked -/
/-! ### the document's Fill -/
def badAt (H B : List Int) (i : Nat) : Prop := H.getD i 0 < 0 ∨ 128 ≤ H.getD i 0 ∨ B.getD i 0 < 0 ∨ 4 ≤ B.getD i 0
theorem okCols_no {H B : List Int} {i : Nat} (hi : i < 256) (h : badAt H B i) : ¬ okCols H B := fun ⟨_, _, hk⟩ => by
  have := hk i hi
  unfold badAt at h
  omega
theorem okCols_yes {H B : List Int} (h1 : H.length = 256) (h2 : B.length = 256) (h : ∀ i, i < 256 → ¬ badAt H B i) : okCols H B := ⟨h1, h2, fun i hi => by
  have := h i hi
  unfold badAt at this
  omega⟩
/-- What the document's Fill answers. -/
def RfSay (H B : List Int) (w : World) (e : Ending) (w' : World) : Prop :=
  Below w.heap.size w w' ∧ (okCols H B → ∃ g, w.heap.size ≤ g ∧ e = .returned (.tuple #[.slice (some ⟨g, 0, none⟩) 32768 32768, .int .i64 0]) ∧ Blk w' g 5 (fillN H B)) ∧ (¬ okCols H B → e = .returned (.tuple #[.slice none 0 0, .int .i64 1]))
theorem RfSay.no {H B : List Int} {w w' : World} (h : ¬ okCols H B) (hb : Below w.heap.size w w') : RfSay H B w (.returned (.tuple #[.slice none 0 0, .int .i64 1])) w' :=
  ⟨hb, fun h' => absurd h' h, fun _ => rfl⟩
set_option maxRecDepth 100000 in
set_option maxHeartbeats 2000000 in
theorem rfill_c (a a' : Option Addr) (n n' c c' : Nat) (H B : List Int) (w : World) (hH : IntsAt w a n H) (hB : IntsAt w a' n' B) (hn : n ≤ 256) (hn' : n' ≤ 256) :
    Calls Tryz.prog 13 #[.slice a n c, .slice a' n' c'] w (RfSay H B w) := by
  obtain ⟨Post, hPost⟩ : ∃ Post : Ending → World → Prop, Post = RfSay H B w := ⟨_, rfl⟩
  rw [← hPost]
  have HP : Hid (∀ e w', RfSay H B w e w' → Post e w') := fun e w' h => by rw [hPost]; exact h
  clear hPost
  have hl := hH.len
  have hl' := hB.len
  by_cases hn1 : n = 256
  case neg =>
    have hn2 : ((n : Int) == 256) = false := by simp; omega
    have R := HP.out _ _ (RfSay.no (H := H) (B := B) (w := w) (w' := w) (fun h => by have := h.1; omega) (Below.refl _ _))
    clear HP hl hl' hH hB
    go_enter Tryz.func13, Tryz.ntmps13
    go_wp2
    exact R
  by_cases hn3 : n' = 256
  case neg =>
    have hn2 : ((n' : Int) == 256) = false := by simp; omega
    have R := HP.out _ _ (RfSay.no (H := H) (B := B) (w := w) (w' := w) (fun h => by have := h.2.1; omega) (Below.refl _ _))
    clear HP hl hl' hH hB
    subst hn1
    go_enter Tryz.func13, Tryz.ntmps13
    go_wp2
    exact R
  subst hn1 hn3
  obtain ⟨b, o, rfl⟩ := hH.some (by omega)
  obtain ⟨b', o', rfl⟩ := hB.some (by omega)
  have HH : Hid (IntsAt w (some ⟨b, o, none⟩) 256 H) := hH
  have HB : Hid (IntsAt w (some ⟨b', o', none⟩) 256 B) := hB
  have Hl : Hid (H.length = 256 ∧ B.length = 256) := ⟨hl, hl'⟩
  clear hH hB hl hl' hn hn'
  go_enter Tryz.func13, Tryz.ntmps13
  go_wp2
  go_loop [6] (fun y => ∃ (I : Nat), y = .int .i64 (I : Int) ∧ I ≤ 256 ∧ Hid (∀ i, i < I → ¬ badAt H B i)) (fun y => 256 - (intOf y).toNat)
  case atStart => exact ⟨0, rfl, by omega, fun i hi => by omega⟩
  case round =>
    obtain ⟨I, rfl, hI, HI⟩ := hrel
    by_cases hlt : I < 256
    · have hlt' : (I : Int) < 256 := by omega
      have c0 := HH.out.at I hlt
      have c1 := HB.out.at I hlt
      obtain ⟨x, hx⟩ : ∃ x, H.getD I 0 = x := ⟨_, rfl⟩
      obtain ⟨y, hy⟩ : ∃ y, B.getD I 0 = y := ⟨_, rfl⟩
      rw [hx] at c0
      rw [hy] at c1
      have Hbad : Hid (badAt H B I ↔ (x < 0 ∨ 128 ≤ x ∨ y < 0 ∨ 4 ≤ y)) := by show _ ↔ _; unfold badAt; rw [hx, hy]
      clear hx hy
      by_cases x0 : x < 0
      · have R := HP.out _ _ (RfSay.no (H := H) (B := B) (w := w) (w' := w) (okCols_no hlt (Hbad.out.2 (by omega))) (Below.refl _ _))
        clear Hbad HP HI
        go_wp2
        exact R
      by_cases x1 : 128 ≤ x
      · have R := HP.out _ _ (RfSay.no (H := H) (B := B) (w := w) (w' := w) (okCols_no hlt (Hbad.out.2 (by omega))) (Below.refl _ _))
        clear Hbad HP HI
        go_wp2
        exact R
      by_cases y0 : y < 0
      · have R := HP.out _ _ (RfSay.no (H := H) (B := B) (w := w) (w' := w) (okCols_no hlt (Hbad.out.2 (by omega))) (Below.refl _ _))
        clear Hbad HP HI
        go_wp2
        exact R
      by_cases y1 : 4 ≤ y
      · have R := HP.out _ _ (RfSay.no (H := H) (B := B) (w := w) (w' := w) (okCols_no hlt (Hbad.out.2 (by omega))) (Below.refl _ _))
        clear Hbad HP HI
        go_wp2
        exact R
      have HI2 : Hid (∀ i, i < I + 1 → ¬ badAt H B i) := fun i hi => by
        by_cases e : i = I
        · subst e
          rw [Hbad.out]
          omega
        · exact HI.out i (by omega)
      clear Hbad HI
      go_wp2
      exact ⟨⟨I + 1, by simp, by omega, HI2⟩, by simp [intOf]; omega⟩
    · have hge : ¬ (I : Int) < 256 := by omega
      have HI2 : Hid (okCols H B) := okCols_yes Hl.out.1 Hl.out.2 (fun i hi => HI.out i (by omega))
      clear HI
      have hmk := make_bytes
      obtain ⟨Z, hZe⟩ : ∃ Z, Z = List.replicate 32768 (0 : Int) := ⟨_, rfl⟩
      have hZ : Z.length = 32768 := by rw [hZe, List.length_replicate]
      rw [← hZe] at hmk
      clear hZe
      have HZ : Hid (Blk (w.alloc (.cells (vals Z) 5)) w.heap.size 5 Z ∧ Below w.heap.size w (w.alloc (.cells (vals Z) 5)) ∧ Z.length = 32768) := ⟨Blk.new w 5 Z, (Below.refl _ w).alloc (Nat.le_refl _) _, hZ⟩
      clear hZ
      go_wp2
      go_loopw [8] (fun y wr => ∃ (J : Nat) (zs : List Int), y = .int .i64 (J : Int) ∧ J ≤ 32768 ∧ Hid (Blk wr w.heap.size 5 zs ∧ zs.length = 32768 ∧ (∀ j, j < J → zs.getD j 0 = (fillN H B).getD j 0) ∧ Below w.heap.size w wr)) (fun y _ => 32768 - (intOf y).toNat)
      case atStart => exact ⟨0, Z, rfl, by omega, HZ.out.1, HZ.out.2.2, fun j hj => by omega, HZ.out.2.1⟩
      case round =>
        clear HZ hmk
        obtain ⟨J, zs, rfl, hJ, HJ⟩ := hrel
        by_cases hlj : J < 32768
        · have hlj' : (J : Int) < 32768 := by omega
          obtain ⟨h1, h2, h3, h4⟩ := HJ.out
          have HV := fillN_at H B J hlj
          have hJr : J % 256 < 256 := by omega
          have hr : Int.tmod (J : Int) 256 = ((J % 256 : Nat) : Int) := by rw [Int.tmod_eq_emod_of_nonneg (by omega)]; omega
          have hq : Int.tdiv (J : Int) 256 = ((J / 256 : Nat) : Int) := by rw [Int.tdiv_eq_ediv_of_nonneg (by omega)]; omega
          have hqb : J / 256 < 128 := by omega
          generalize J % 256 = R at *
          generalize J / 256 = Q at *
          have hRi : (R : Int) < 256 := by omega
          have hQw : IntKind.i64.wrap (Q : Int) = (Q : Int) := by rw [IntKind.wrap_i64]; omega
          have c0 : wr.cell? ⟨b, o + R, none⟩ = some (.int .i64 (H.getD R 0)) := cell_below (HH.out.at R hJr) h4
          have c1 : wr.cell? ⟨b', o' + R, none⟩ = some (.int .i64 (B.getD R 0)) := cell_below (HB.out.at R hJr) h4
          have c2 := h1.cell (k := J) (by omega)
          have c3 := h1.free J
          have hv := atN_bd (H.getD R 0) (B.getD R 0) (Q : Int)
          have hat := fun w => rat_c (H.getD R 0) (B.getD R 0) (Q : Int) w
          have HJ2 : Hid (Blk ((wr.drewN 1).setCell ⟨w.heap.size, J, none⟩ (.int .u8 (atN (H.getD R 0) (B.getD R 0) (Q : Int)))) w.heap.size 5 (zs.set J (atN (H.getD R 0) (B.getD R 0) (Q : Int))) ∧ (zs.set J (atN (H.getD R 0) (B.getD R 0) (Q : Int))).length = 32768 ∧ (∀ j, j < J + 1 → (zs.set J (atN (H.getD R 0) (B.getD R 0) (Q : Int))).getD j 0 = (fillN H B).getD j 0) ∧ Below w.heap.size w ((wr.drewN 1).setCell ⟨w.heap.size, J, none⟩ (.int .u8 (atN (H.getD R 0) (B.getD R 0) (Q : Int))))) := by
            refine ⟨(h1.drewN 1).set J _, by rw [List.length_set]; exact h2, fun j hj => ?_, (below_drewN h4 1).setCell (p := ⟨w.heap.size, J, none⟩) (Nat.le_refl _) _⟩
            rw [getD_set zs J j _ (by omega)]
            by_cases e : J = j
            · rw [if_pos e, ← e, HV]
            · rw [if_neg e]
              exact h3 j (by omega)
          clear h1 h2 h3 h4 HV HJ
          generalize atN (H.getD R 0) (B.getD R 0) (Q : Int) = v at *
          generalize H.getD R 0 = x at *
          generalize B.getD R 0 = y at *
          go_wp2_with fail
          refine wp_region_tail 16 (by kernel_rfl) (by kernel_rfl) ?_
          simp only [List.take_succ_cons, List.take_zero, List.drop_succ_cons, List.drop_zero]
          repeat (first | still_step | still_call (hat _))
          refine wpStill_nil ?_
          clear hat
          go_wp2
          exact ⟨⟨J + 1, _, by simp, by omega, HJ2⟩, by simp [intOf]; omega⟩
        · have hgj : ¬ (J : Int) < 32768 := by omega
          have R : Post (.returned (.tuple #[.slice (some ⟨w.heap.size, 0, none⟩) 32768 32768, .int .i64 0])) wr := HP.out _ wr ⟨HJ.out.2.2.2, fun _ => ⟨_, Nat.le_refl _, rfl, by
            have e : zs = fillN H B := getD_ext (by rw [HJ.out.2.1, fillN_len]) (fun j hj => HJ.out.2.2.1 j (by rw [HJ.out.2.1] at hj; omega))
            rw [← e]
            exact HJ.out.1⟩, fun h => absurd HI2.out h⟩
          clear HP
          go_wp2
          exact R
end Go.Proofs.YtbdjgaagafnfaaaGreat