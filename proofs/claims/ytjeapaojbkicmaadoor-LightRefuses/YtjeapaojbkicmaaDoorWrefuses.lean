/-
  LightRefuses: the walk.
-/
import Derived.Test.YtjeapaojbkicmaaDoorLaw0
set_option maxRecDepth 20000
namespace Go.Proofs.YtjeapaojbkicmaaDoor
open C Go.RowKit L

theorem many_ptrs {w0 w : World} {av : Option Addr} {cv N : Nat} {gs : List Nat} {f : Nat → List Int} (h : Many w0 34 62 ptV f N av cv gs w) : PtrsAt w av (gs.map some) := by
  refine ⟨fun i hi => ?_⟩
  have hl := h.len
  have hi' : i < N := by rw [List.length_map] at hi; omega
  obtain ⟨b, e, hr⟩ := h.row (by omega)
  refine ⟨b, 0, e, ?_⟩
  have e2 : (gs.map some).getD i none = some (gs.getD i 0) := by
    rw [List.getD_eq_getElem?_getD, List.getElem?_map, List.getElem?_eq_getElem (by omega), List.getD_eq_getElem?_getD, List.getElem?_eq_getElem (by omega)]
    rfl
  rw [e2, Nat.zero_add]
  exact hr i hi'
theorem many_hole {w0 w : World} {b cv N A : Nat} {gs : List Nat} {f : Nat → List Int} (h : Many w0 34 62 ptV f N (some ⟨b, 0, none⟩) cv gs w) (hA : A < N) : PtrsAt (w.setCell ⟨b, A, none⟩ (.pointer none)) (some ⟨b, 0, none⟩) ((gs.map some).set A none) := by
  have hp := many_ptrs h
  have hl := h.len
  refine ⟨fun i hi => ?_⟩
  rw [List.length_set] at hi
  obtain ⟨b', o', e, hc⟩ := hp.cells i hi
  cases e
  refine ⟨b, 0, rfl, ?_⟩
  rw [Nat.zero_add] at hc ⊢
  by_cases q : i = A
  · subst q
    rw [World.cell?_setCell_same w _ _ hc, List.getD_eq_getElem?_getD, List.getElem?_set_self hi]
    rfl
  · have e3 : ((gs.map some).set A none).getD i none = (gs.map some).getD i none := by rw [List.getD_eq_getElem?_getD, List.getD_eq_getElem?_getD, List.getElem?_set_ne (fun e => q e.symm)]
    rw [World.cell?_setCell_other w _ _ _ (fun e => q (by injection e with _ e4 _; omega)), e3]
    exact hc
theorem rep_at (Z : List Int) {i : Nat} (hi : i < 9) : (List.replicate 9 Z).getD i [] = Z := by
  rw [List.getD_eq_getElem?_getD, List.getElem?_replicate, if_pos hi]
  rfl
theorem many_zero {w0 w : World} {b cv : Nat} {gs : List Nat} {Z : List Int} (h : Many w0 34 62 ptV (fun _ => Z) 9 (some ⟨b, 0, none⟩) cv gs w) (hl : Z.length = 32768) (hk : Kinds Z) : N9 w b (fun i => gs.getD i 0) (List.replicate 9 Z) := by
  obtain ⟨b', e, hr⟩ := h.row (by omega)
  cases e
  exact ⟨hr, fun i hi => by rw [rep_at Z hi]; exact h.blk i hi, fun i hi => by rw [rep_at Z hi]; exact hl, fun i hi => by rw [rep_at Z hi]; exact hk⟩
theorem none_set (l : List (Option Nat)) {A : Nat} (h : A < l.length) : none ∈ l.set A none := List.mem_iff_getElem.2 ⟨A, by rw [List.length_set]; exact h, by simp⟩
theorem zero_kinds {Z : List Int} (hZ : Z = List.replicate 32768 0) : Kinds Z := fun x hx => by
  rw [hZ] at hx
  have := List.eq_of_mem_replicate hx
  omega
set_option maxRecDepth 1000000 in
set_option maxHeartbeats 8000000 in
theorem lightRefuses_walk (n t : Int) (w : World) (hT : Tabs w) :
    Calls Tryd.prog 4 #[.int .i64 n, .int .i64 t] w fun e w' => e = .returned (.bool true) ∧ Below w.heap.size w w' := by
  have HT : Hid (Tabs w) := hT
  have haw := awake_c w hT
  clear hT
  by_cases n0 : n < 0
  · go_enter Tryd.func4, Tryd.ntmps4
    go_wp2_with fail
    refine haw.mono ?_
    clear haw
    rintro _ w1 ⟨rfl, hb1⟩
    go_wp2
    go_ret
    exact ⟨rfl, hb1⟩
  by_cases n1 : 20 < n
  · go_enter Tryd.func4, Tryd.ntmps4
    go_wp2_with fail
    refine haw.mono ?_
    clear haw
    rintro _ w1 ⟨rfl, hb1⟩
    go_wp2
    go_ret
    exact ⟨rfl, hb1⟩
  obtain ⟨N, rfl⟩ := Int.eq_ofNat_of_zero_le (show 0 ≤ n by omega)
  have hN : N ≤ 20 := by omega
  obtain ⟨Z, hZe⟩ : ∃ Z, Z = List.replicate 32768 (0 : Int) := ⟨_, rfl⟩
  have HZ : Hid (Z.length = 32768 ∧ Kinds Z) := ⟨by rw [hZe, List.length_replicate], zero_kinds hZe⟩
  have hnew := new_c
  rw [← hZe] at hnew
  clear hZe
  go_enter Tryd.func4, Tryd.ntmps4
  go_wp2_with fail
  refine haw.mono ?_
  clear haw
  rintro _ w1 ⟨rfl, hb1⟩
  have H1 : Hid (Below w.heap.size w w1 ∧ Tabs w1) := ⟨hb1, HT.out.on hb1⟩
  clear hb1 HT
  have H0 : Hid (∃ gs, Many w1 34 62 ptV (fun _ => Z) 0 none 0 gs w1) := ⟨[], Many.init⟩
  go_wp2
  go_loopw [6, 7] (fun vo vi wr => ∃ (i : Nat) (av : Option Addr) (cv : Nat), i ≤ N ∧ vo = .slice av i cv ∧ vi = .int .i64 (i : Int) ∧ Hid (∃ gs, Many w1 34 62 ptV (fun _ => Z) i av cv gs wr)) (fun _ vi _ => N - (intOf vi).toNat)
  case atStart => exact ⟨0, none, 0, by omega, rfl, rfl, H0⟩
  case round =>
    clear H0
    obtain ⟨i, av, cv, hi, rfl, rfl, HM⟩ := hrel
    by_cases hlt : i < N
    · have hlt' : (i : Int) < (N : Int) := by omega
      have hn := hnew wr
      go_wp2_with fail
      refine hn.mono ?_
      clear hn
      rintro _ w2 ⟨rfl, hw2⟩
      obtain ⟨g, hg⟩ : ∃ g, wr.heap.size = g := ⟨_, rfl⟩
      have HM1 : Hid (∃ gs, Many w1 34 62 ptV (fun _ => Z) i av cv gs (w2.alloc (.cells #[.pointer (some ⟨g, 0, none⟩)] 34)) ∧ Blk (w2.alloc (.cells #[.pointer (some ⟨g, 0, none⟩)] 34)) g 62 Z ∧ g ∉ gs ∧ w1.heap.size ≤ g) := by
        obtain ⟨gs, hM⟩ := HM.out
        have hb2 : Below wr.heap.size wr w2 := by rw [hw2]; exact (Below.refl _ _).alloc (Nat.le_refl _) _
        have hbk : Blk w2 g 62 Z := by rw [hw2, ← hg]; exact Blk.new wr 62 Z
        have hb3 : Below w2.heap.size w2 (w2.alloc (.cells #[.pointer (some ⟨g, 0, none⟩)] 34)) := (Below.refl _ _).alloc (Nat.le_refl _) _
        exact ⟨gs, (hM.on hb2).on hb3, hbk.below hb3 hbk.lt, fun h => absurd (hM.lt _ h) (by omega), by have := hM.bel.size; omega⟩
      rw [hg]
      clear HM hw2 hg
      obtain ⟨gs, hMM⟩ := HM1.out
      have HMM : Hid _ := hMM
      clear hMM HM1
      go_wp2_with (at_builtin; refine wpList_append_val 26 34 _ _ Tryd.underlying26 info34 rfl (by omega) rfl _ _ rfl w1.heap.size av i cv (gs.map ptV) rfl HMM.out.1.own ⟨w2.heap.size, 0, none⟩ (.pointer (some ⟨g, 0, none⟩)) rfl (cell_new _ _ _) rfl (by omega) HMM.out.1.bel.size ?_; intro a9 c9 w9 ho9 hg9; have HE : Hid (∃ gs, Many w1 34 62 ptV (fun _ => Z) (i + 1) a9 c9 gs w9) := ⟨_, HMM.out.1.add (by decide) HMM.out.2.1 HMM.out.2.2.2 HMM.out.2.2.1 ho9 hg9⟩; clear ho9 hg9)
      exact ⟨⟨i + 1, a9, c9, by omega, rfl, by simp, HE⟩, by simp [intOf]; omega⟩
    have hge : ¬ (i : Int) < (N : Int) := by omega
    obtain rfl : i = N := by omega
    clear hnew
    obtain ⟨gs, hM⟩ := HM.out
    have HM2 : Hid (Many w1 34 62 ptV (fun _ => Z) i av cv gs wr ∧ Below w.heap.size w wr ∧ Tabs wr) := by
      have hb := H1.out.1.trans (hM.bel.mono H1.out.1.size)
      exact ⟨hM, hb, H1.out.2.on hM.bel⟩
    have hlen : (gs.map some).length = i := by rw [List.length_map]; exact hM.len
    have hptr := many_ptrs hM
    clear HM hM hlt hi
    by_cases h9 : i = 9
    · subst h9
      by_cases t0 : t < 0
      · obtain ⟨b, rfl, hr⟩ := HM2.out.1.row (by omega)
        have hfl := flood_c b cv (fun i => gs.getD i 0) (List.replicate 9 Z) wr (many_zero HM2.out.1 HZ.out.1 HZ.out.2) HM2.out.2.2
        clear hr hptr hlen
        go_wp2_with fail
        refine hfl.mono ?_
        clear hfl
        rintro _ w4 ⟨x, y, rfl, hF⟩
        have HB2 : Hid (Below w.heap.size w w4) := HM2.out.2.1.trans (hF.bel.mono HM2.out.2.1.size)
        clear hF HM2 H1 HZ
        go_wp2
        go_ret
        exact ⟨rfl, HB2.out⟩
      by_cases t9 : 9 ≤ t
      · have t9' : ¬ t < 9 := by omega
        obtain ⟨b, rfl, hr⟩ := HM2.out.1.row (by omega)
        have hfl := flood_c b cv (fun i => gs.getD i 0) (List.replicate 9 Z) wr (many_zero HM2.out.1 HZ.out.1 HZ.out.2) HM2.out.2.2
        clear hr hptr hlen
        go_wp2_with fail
        refine hfl.mono ?_
        clear hfl
        rintro _ w4 ⟨x, y, rfl, hF⟩
        have HB2 : Hid (Below w.heap.size w w4) := HM2.out.2.1.trans (hF.bel.mono HM2.out.2.1.size)
        clear hF HM2 H1 HZ
        go_wp2
        go_ret
        exact ⟨rfl, HB2.out⟩
      obtain ⟨A, rfl⟩ := Int.eq_ofNat_of_zero_le (show 0 ≤ t by omega)
      have hA : A < 9 := by omega
      have t9' : (A : Int) < 9 := by omega
      obtain ⟨b, rfl, hr⟩ := HM2.out.1.row (by omega)
      have yc := hr A hA
      unfold ptV at yc
      have fz : wr.frozen? ⟨b, A, none⟩ = false := by
        have ho := HM2.out.1.own
        rcases ho.2 with ⟨_, h1⟩ | ⟨g, cap, cur, hv, _, hh, _⟩
        · omega
        · simp only [Value.slice.injEq, Option.some.injEq, Addr.mk.injEq, and_true] at hv
          obtain ⟨e1, _⟩ := hv
          rw [e1]
          exact frozen_of_row wr g A cur 34 hh
      have hno := flood_no (some ⟨b, 0, none⟩) 9 cv ((gs.map some).set A none) (wr.setCell ⟨b, A, none⟩ (.pointer none)) (many_hole HM2.out.1 hA) (by rw [List.length_set]; exact hlen) (by omega) (.inr (none_set _ (by rw [hlen]; exact hA)))
      have hlow : w1.heap.size ≤ b := by
        have ho := HM2.out.1.own
        rcases ho.2 with ⟨_, h1⟩ | ⟨g, cap, cur, hv, hb, _⟩
        · omega
        · simp only [Value.slice.injEq, Option.some.injEq, Addr.mk.injEq, and_true] at hv
          omega
      have HBs : Hid (Below w.heap.size w (wr.setCell ⟨b, A, none⟩ (.pointer none))) := HM2.out.2.1.trans ⟨rfl, rfl, rfl, by simp [World.setCell], fun j hj => Below.heap_setCell wr ⟨b, A, none⟩ _ j (by show j ≠ b; have := H1.out.1.size; omega)⟩
      generalize gs.getD A 0 = gA at yc
      clear hr hptr hlen hlow HM2 HZ H1
      go_wp2_with fail
      refine hno.mono ?_
      clear hno yc fz
      rintro _ w4 ⟨rfl, hb4⟩
      have HB2 : Hid (Below w.heap.size w w4) := HBs.out.trans (hb4.mono HBs.out.size)
      clear HBs hb4
      go_wp2
      go_ret
      exact ⟨rfl, HB2.out⟩
    have h9' : ¬ (i : Int) = 9 := by omega
    have h9b : ((i : Int) == 9) = false := by simpa using h9'
    by_cases t0 : t < 0
    · have hno := flood_no av i cv (gs.map some) wr hptr hlen (by omega) (.inl h9)
      clear hptr hlen
      go_wp2_with fail
      refine hno.mono ?_
      clear hno
      rintro _ w4 ⟨rfl, hb4⟩
      have HB2 : Hid (Below w.heap.size w w4) := HM2.out.2.1.trans (hb4.mono HM2.out.2.1.size)
      clear hb4 HM2 H1 HZ
      go_wp2
      go_ret
      exact ⟨rfl, HB2.out⟩
    obtain ⟨A, rfl⟩ := Int.eq_ofNat_of_zero_le (show 0 ≤ t by omega)
    by_cases hA : A < i
    case neg =>
      have hA' : ¬ (A : Int) < (i : Int) := by omega
      have hno := flood_no av i cv (gs.map some) wr hptr hlen (by omega) (.inl h9)
      clear hptr hlen
      go_wp2_with fail
      refine hno.mono ?_
      clear hno
      rintro _ w4 ⟨rfl, hb4⟩
      have HB2 : Hid (Below w.heap.size w w4) := HM2.out.2.1.trans (hb4.mono HM2.out.2.1.size)
      clear hb4 HM2 H1 HZ
      go_wp2
      go_ret
      exact ⟨rfl, HB2.out⟩
    have hA' : (A : Int) < (i : Int) := by omega
    obtain ⟨b, rfl, hr⟩ := HM2.out.1.row (by omega)
    have yc := hr A hA
    unfold ptV at yc
    have fz : wr.frozen? ⟨b, A, none⟩ = false := by
      have ho := HM2.out.1.own
      rcases ho.2 with ⟨_, h1⟩ | ⟨g, cap, cur, hv, _, hh, _⟩
      · omega
      · simp only [Value.slice.injEq, Option.some.injEq, Addr.mk.injEq, and_true] at hv
        obtain ⟨e1, _⟩ := hv
        rw [e1]
        exact frozen_of_row wr g A cur 34 hh
    have hno := flood_no (some ⟨b, 0, none⟩) i cv ((gs.map some).set A none) (wr.setCell ⟨b, A, none⟩ (.pointer none)) (many_hole HM2.out.1 hA) (by rw [List.length_set]; exact hlen) (by omega) (.inl h9)
    have hlow : w1.heap.size ≤ b := by
      have ho := HM2.out.1.own
      rcases ho.2 with ⟨_, h1⟩ | ⟨g, cap, cur, hv, hb, _⟩
      · omega
      · simp only [Value.slice.injEq, Option.some.injEq, Addr.mk.injEq, and_true] at hv
        omega
    have HBs : Hid (Below w.heap.size w (wr.setCell ⟨b, A, none⟩ (.pointer none))) := HM2.out.2.1.trans ⟨rfl, rfl, rfl, by simp [World.setCell], fun j hj => Below.heap_setCell wr ⟨b, A, none⟩ _ j (by show j ≠ b; have := H1.out.1.size; omega)⟩
    generalize gs.getD A 0 = gA at yc
    clear hr hptr hlen hlow HM2 HZ H1
    go_wp2_with fail
    refine hno.mono ?_
    clear hno yc fz
    rintro _ w4 ⟨rfl, hb4⟩
    have HB2 : Hid (Below w.heap.size w w4) := HBs.out.trans (hb4.mono HBs.out.size)
    clear HBs hb4
    go_wp2
    go_ret
    exact ⟨rfl, HB2.out⟩
end Go.Proofs.YtjeapaojbkicmaaDoor
