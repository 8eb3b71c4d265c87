/-
  Walk of CavesRefuses.
-/
import Derived.Test.YtajjaeaknonmfaaVawake
set_option maxRecDepth 20000
namespace Go.Proofs.Ytajjaeaknonmfaa
open C Go.RowKit

theorem zero_kinds : Kinds (List.replicate 32768 (0 : Int)) := fun x hx => by rw [List.eq_of_mem_replicate hx]; omega
theorem many_ptrs {w0 w : World} {n : Nat} {av : Option Addr} {cv : Nat} {gs : List Nat} (h : Many w0 34 73 ptV (fun _ => List.replicate 32768 0) n av cv gs w) : PtrsAt w av (gs.map some) := by
  have hl := h.len
  refine ⟨fun i hi => ?_, fun g hg => ?_⟩
  · have hi' : i < n := by simpa [hl] using hi
    obtain ⟨b, rfl, hr⟩ := h.row (by omega)
    refine ⟨b, 0, rfl, ?_⟩
    rw [Nat.zero_add, hr i hi']
    simp [ptV, List.getD_eq_getElem?_getD, List.getElem?_eq_getElem (show i < gs.length by omega)]
  · obtain ⟨x, hx, e⟩ := List.mem_map.1 hg
    cases e
    obtain ⟨i, hi, rfl⟩ := List.getElem_of_mem hx
    have := h.blk i (by omega)
    rw [List.getD_eq_getElem?_getD, List.getElem?_eq_getElem hi] at this
    exact ⟨_, this, List.length_replicate, zero_kinds⟩
/-- One of the chunks is taken away. -/
theorem ptrs_none {w0 w : World} {n : Nat} {b cv A : Nat} {gs : List Nat} (h : Many w0 34 73 ptV (fun _ => List.replicate 32768 0) n (some ⟨b, 0, none⟩) cv gs w) (hA : A < n) : PtrsAt (w.setCell ⟨b, A, none⟩ (.pointer none)) (some ⟨b, 0, none⟩) ((gs.map some).set A none) := by
  have hl := h.len
  obtain ⟨b', e, hr⟩ := h.row (by omega)
  cases e
  refine ⟨fun i hi => ⟨b, 0, rfl, ?_⟩, fun g hg => ?_⟩
  · have hi' : i < n := by simpa [hl] using hi
    rw [Nat.zero_add]
    by_cases e : A = i
    · subst e
      rw [World.cell?_setCell_same _ _ _ (hr A hA), List.getD_eq_getElem?_getD, List.getElem?_set_self (by simpa [hl] using hA)]
      rfl
    · rw [World.cell?_setCell_other _ _ _ _ (fun e' => e (by cases e'; rfl)), hr i hi', List.getD_eq_getElem?_getD (l := (gs.map some).set A none), List.getElem?_set_ne e]
      simp [ptV, List.getD_eq_getElem?_getD, List.getElem?_eq_getElem (show i < gs.length by omega)]
  · rcases List.mem_or_eq_of_mem_set hg with h1 | h1
    · obtain ⟨cs, c1, c2, c3⟩ := (many_ptrs h).blk g h1
      refine ⟨cs, c1.other (fun e => ?_), c2, c3⟩
      have h0 := hr 0 (by omega)
      have h2 := c1.cell (k := 0) (by omega)
      rw [e, h0] at h2
      cases h2
    · cases h1
theorem many_n9 {w0 w : World} {b cv : Nat} {gs : List Nat} (h : Many w0 34 73 ptV (fun _ => List.replicate 32768 0) 9 (some ⟨b, 0, none⟩) cv gs w) : N9 w (some ⟨b, 0, none⟩) (fun i => gs.getD i 0) ((List.range 9).map fun _ => List.replicate 32768 0) := by
  obtain ⟨b', e, hr⟩ := h.row (by omega)
  cases e
  have hf : ∀ i, i < 9 → ((List.range 9).map fun _ => List.replicate 32768 (0 : Int)).getD i [] = List.replicate 32768 0 := fun i hi => by
    rw [List.getD_eq_getElem?_getD, List.getElem?_map, List.getElem?_range hi]
    rfl
  refine ⟨by rw [List.length_map, List.length_range], ⟨b, 0, rfl, fun i hi => by rw [Nat.zero_add]; exact hr i hi⟩, fun i hi => ?_, fun i hi => ?_, fun i hi => ?_⟩
  · rw [hf i hi]; exact h.blk i hi
  · rw [hf i hi]; exact List.length_replicate
  · rw [hf i hi]; exact zero_kinds
set_option maxRecDepth 100000 in
set_option maxHeartbeats 2000000 in
theorem cavesRefuses_walk (J : VSpec) (n at_ : Int) (w : World) (hat : I64 at_) (hG : J.G w) :
    Calls Try.prog 5 #[.int .i64 n, .int .i64 at_] w fun e w' => e = .returned (.bool true) ∧ Below w.heap.size w w' := by
  by_cases n0 : n < 0
  · go_enter Try.func5, Try.ntmps5
    go_wp2_with fail
    refine (awake_c J w hG).mono ?_
    rintro _ w1 ⟨rfl, hb1⟩
    go_wp2
    go_ret
    exact ⟨rfl, hb1⟩
  by_cases n1 : 20 < n
  · go_enter Try.func5, Try.ntmps5
    go_wp2_with fail
    refine (awake_c J w hG).mono ?_
    rintro _ w1 ⟨rfl, hb1⟩
    go_wp2
    go_ret
    exact ⟨rfl, hb1⟩
  obtain ⟨N, rfl⟩ := Int.eq_ofNat_of_zero_le (show 0 ≤ n by omega)
  have hN : N ≤ 20 := by omega
  clear n0 n1
  have n0 : ¬ (N : Int) < 0 := by omega
  have n1 : ¬ 20 < (N : Int) := by omega
  go_enter Try.func5, Try.ntmps5
  go_wp2_with fail
  refine (awake_c J w hG).mono ?_
  rintro _ w1 ⟨rfl, hb1⟩
  have Hb1 : Hid (Below w.heap.size w w1) := hb1
  have HG1 : Hid (J.G w1) := J.on hG hb1
  clear hb1 hG
  go_wp2
  go_loopw [6, 7] (fun vo vi wr => ∃ (i : Nat) (av : Option Addr) (cv : Nat) (gs : List Nat), vi = .int .i64 (i : Int) ∧ vo = .slice av i cv ∧ i ≤ N ∧ Hid (Many w1 34 73 ptV (fun _ => List.replicate 32768 0) i av cv gs wr)) (fun _ vi _ => N - (intOf vi).toNat)
  case atStart => exact ⟨0, none, 0, [], rfl, rfl, by omega, Many.init⟩
  case round =>
    obtain ⟨i, av, cv, gs, rfl, rfl, hi, HM⟩ := hrel
    by_cases hlt : i < N
    case pos =>
      have hlt' : (i : Int) < (N : Int) := by omega
      go_wp2_with fail
      refine (new_c wr).mono ?_
      rintro _ w2 ⟨rfl, hw2⟩
      have hG2 : Blk w2 wr.heap.size 73 (List.replicate 32768 0) := by rw [hw2]; exact Blk.new wr 73 _
      have hb2 : Below wr.heap.size wr w2 := by rw [hw2]; exact (Below.refl _ _).alloc (Nat.le_refl _) _
      clear hw2
      have HM1 : Hid (Many w1 34 73 ptV (fun _ => List.replicate 32768 0) i av cv gs (w2.alloc (.cells #[ptV wr.heap.size] 34))) := (HM.out.on hb2).on ((Below.refl _ _).alloc (Nat.le_refl _) _)
      have Hnew : Hid (wr.heap.size ∉ gs ∧ w1.heap.size ≤ wr.heap.size) := ⟨fun hm => by have := HM.out.lt _ hm; omega, HM.out.bel.size⟩
      have HG2 : Hid (Blk (w2.alloc (.cells #[ptV wr.heap.size] 34)) wr.heap.size 73 (List.replicate 32768 0)) := hG2.below ((Below.refl _ _).alloc (Nat.le_refl _) _) hG2.lt
      clear hb2 hG2 HM
      generalize wr.heap.size = gw at *
      go_wp2_with (at_builtin; refine wpList_append_val 32 34 (.pointer none) 8 Try.underlying32 info34 rfl (by omega) rfl _ _ rfl w1.heap.size av i cv (gs.map ptV) rfl HM1.out.own ⟨w2.heap.size, 0, none⟩ (ptV gw) rfl (cell_new _ _ _) rfl (by omega) HM1.out.bel.size ?_; intro a3 c3 w3 hO3 hgr3; have HM3 : Hid (Many w1 34 73 ptV (fun _ => List.replicate 32768 0) (i + 1) a3 c3 (gs ++ [gw]) w3) := HM1.out.add (by decide) HG2.out Hnew.out.2 Hnew.out.1 hO3 hgr3; clear hO3 hgr3 HM1)
      exact ⟨⟨i + 1, a3, c3, gs ++ [gw], by simp, rfl, by omega, HM3⟩, by simp [intOf]; omega⟩
    obtain rfl : i = N := by omega
    have hge : ¬ (i : Int) < (i : Int) := by omega
    have Hl : Hid (gs.length = i) := HM.out.len
    by_cases hA : 0 ≤ at_ ∧ at_ < (i : Int)
    · obtain ⟨A, rfl⟩ := Int.eq_ofNat_of_zero_le hA.1
      have hA1 : A < i := by omega
      have hA2 : (A : Int) < (i : Int) := by omega
      obtain ⟨b, rfl, hr⟩ := HM.out.row (by omega)
      have c0 := hr A hA1
      have c1 : wr.frozen? ⟨b, A, none⟩ = false := by
        rcases HM.out.own.2 with ⟨h0, _⟩ | ⟨g', cap, cur, hv, _, hh, _⟩
        · cases h0
        · simp only [Value.slice.injEq, Option.some.injEq, Addr.mk.injEq, and_true, true_and] at hv
          obtain ⟨rfl, rfl⟩ := hv
          exact frozen_of_row wr b A cur 34 hh
      have hb : w1.heap.size ≤ b := by
        rcases HM.out.own.2 with ⟨h0, _⟩ | ⟨g', cap, cur, hv, hlo, _⟩
        · cases h0
        · simp only [Value.slice.injEq, Option.some.injEq, Addr.mk.injEq, and_true, true_and] at hv
          obtain ⟨rfl, rfl⟩ := hv
          exact hlo
      have Hb2 : Hid (Below w1.heap.size w1 (wr.setCell ⟨b, A, none⟩ (.pointer none))) := HM.out.bel.setCell (p := ⟨b, A, none⟩) hb _
      have hno := J.no_ 1 0 0 (some ⟨b, 0, none⟩) i cv ((gs.map some).set A none) (wr.setCell ⟨b, A, none⟩ (.pointer none)) (by omega) (by unfold Far; omega) (by unfold Far; omega) (ptrs_none HM.out hA1) (by simp [Hl.out]) (by omega) (.inr (List.mem_set (by simpa [Hl.out] using hA1) none)) (J.on HG1.out Hb2.out)
      clear HM hr hb
      unfold ptV at c0
      generalize gs.getD A 0 = old at c0
      obtain ⟨hA0, _⟩ := hA
      go_wp2_with fail
      refine hno.mono ?_
      clear hno c0 c1
      rintro _ w3 ⟨rfl, hb3⟩
      have R := Hb1.out.trans ((Hb2.out.trans (hb3.mono Hb2.out.size)).mono Hb1.out.size)
      by_cases h9 : i = 9
      · subst h9
        have a9 : ¬ 9 ≤ (A : Int) := by omega
        go_wp2
        go_ret
        exact ⟨rfl, R⟩
      · have h9' : ((i : Int) == 9) = false := by simp; omega
        go_wp2
        go_ret
        exact ⟨rfl, R⟩
    · have Hb2 : Hid (Below w1.heap.size w1 wr) := HM.out.bel
      by_cases h9 : i = 9
      · subst h9
        obtain ⟨b, rfl, hr⟩ := HM.out.row (by omega)
        have hcv := J.carve_ 1 0 0 (some ⟨b, 0, none⟩) cv _ _ wr (by omega) (by unfold Far; omega) (by unfold Far; omega) (many_n9 HM.out) (J.on HG1.out Hb2.out)
        clear HM hr
        by_cases a0 : 0 ≤ at_
        · have a1 : ¬ at_ < 9 := by omega
          have a2 : 9 ≤ at_ := by omega
          clear hA
          go_wp2_with fail
          refine hcv.mono ?_
          clear hcv
          rintro _ w3 ⟨hb3, g3, rfl, _⟩
          have R := Hb1.out.trans ((Hb2.out.trans (hb3.mono Hb2.out.size)).mono Hb1.out.size)
          go_wp2
          go_ret
          exact ⟨rfl, R⟩
        · have a1 : at_ < 0 := by omega
          clear hA
          go_wp2_with fail
          refine hcv.mono ?_
          clear hcv
          rintro _ w3 ⟨hb3, g3, rfl, _⟩
          have R := Hb1.out.trans ((Hb2.out.trans (hb3.mono Hb2.out.size)).mono Hb1.out.size)
          go_wp2
          go_ret
          exact ⟨rfl, R⟩
      · have h9' : ((i : Int) == 9) = false := by simp; omega
        have hno := J.no_ 1 0 0 av i cv (gs.map some) wr (by omega) (by unfold Far; omega) (by unfold Far; omega) (many_ptrs HM.out) (by simp [Hl.out]) (by omega) (.inl h9) (J.on HG1.out Hb2.out)
        clear HM
        by_cases a0 : 0 ≤ at_
        · have a1 : ¬ at_ < (i : Int) := by omega
          clear hA
          go_wp2_with fail
          refine hno.mono ?_
          clear hno
          rintro _ w3 ⟨rfl, hb3⟩
          have R := Hb1.out.trans ((Hb2.out.trans (hb3.mono Hb2.out.size)).mono Hb1.out.size)
          go_wp2
          go_ret
          exact ⟨rfl, R⟩
        · have a1 : at_ < 0 := by omega
          clear hA
          go_wp2_with fail
          refine hno.mono ?_
          clear hno
          rintro _ w3 ⟨rfl, hb3⟩
          have R := Hb1.out.trans ((Hb2.out.trans (hb3.mono Hb2.out.size)).mono Hb1.out.size)
          go_wp2
          go_ret
          exact ⟨rfl, R⟩
end Go.Proofs.Ytajjaeaknonmfaa