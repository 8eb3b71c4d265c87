/-
  Walk of CavesNear.
-/
import Derived.Test.YtajjaeaknonmfaaVmix
set_option maxRecDepth 20000
namespace Go.Proofs.Ytajjaeaknonmfaa
open C Go.RowKit

set_option maxRecDepth 100000 in
set_option maxHeartbeats 2000000 in
theorem cavesNear_walk (J : VSpec) (S : Nat) (cx cz : Int) (p : Option Addr) (n c' : Nat) (l : List Cut) (p2 : Option Addr) (n2 e2 : Nat) (l2 : List Cut) (w : World) (hS : S < 18446744073709551616) (hl : CutsAt w w.heap.size p n l) (hn : n ≤ 9223372036854775807) (hl2 : CutsAt w w.heap.size p2 n2 l2) (hn2 : n2 ≤ 9223372036854775807) (hG : J.G w) :
    Calls Try.prog 6 #[.int .u64 S, .agg #[.int .i64 cx, .int .i64 cz], .slice p n c', .slice p2 n2 e2] w fun e w' => e = .returned (.bool true) ∧ Below w.heap.size w w' := by
  by_cases c0 : cx < -1073741824
  · go_enter Try.func6, Try.ntmps6
    go_wp2_with fail
    refine (awake_c J _ (J.on hG ((Below.refl _ _).alloc (Nat.le_refl _) _))).mono ?_
    rintro _ w1 ⟨rfl, hw1⟩
    have HB1 : Hid (Below w.heap.size w w1) := ((Below.refl _ w).alloc (Nat.le_refl _) _).trans (hw1.mono (by simp))
    have hX1 := (hw1.block w.heap.size (by simp)).trans (heap_alloc_new w _)
    have k0 := (cell_of_row w1 w.heap.size 0 _ 28 (0, 0) hX1).trans rfl
    have k1 := (cell_of_row w1 w.heap.size 1 _ 28 (0, 0) hX1).trans rfl
    clear hw1 hX1
    go_wp2
    go_ret
    exact ⟨rfl, HB1.out⟩
  by_cases c1 : 1073741824 < cx
  · go_enter Try.func6, Try.ntmps6
    go_wp2_with fail
    refine (awake_c J _ (J.on hG ((Below.refl _ _).alloc (Nat.le_refl _) _))).mono ?_
    rintro _ w1 ⟨rfl, hw1⟩
    have HB1 : Hid (Below w.heap.size w w1) := ((Below.refl _ w).alloc (Nat.le_refl _) _).trans (hw1.mono (by simp))
    have hX1 := (hw1.block w.heap.size (by simp)).trans (heap_alloc_new w _)
    have k0 := (cell_of_row w1 w.heap.size 0 _ 28 (0, 0) hX1).trans rfl
    have k1 := (cell_of_row w1 w.heap.size 1 _ 28 (0, 0) hX1).trans rfl
    clear hw1 hX1
    go_wp2
    go_ret
    exact ⟨rfl, HB1.out⟩
  by_cases c2 : cz < -1073741824
  · go_enter Try.func6, Try.ntmps6
    go_wp2_with fail
    refine (awake_c J _ (J.on hG ((Below.refl _ _).alloc (Nat.le_refl _) _))).mono ?_
    rintro _ w1 ⟨rfl, hw1⟩
    have HB1 : Hid (Below w.heap.size w w1) := ((Below.refl _ w).alloc (Nat.le_refl _) _).trans (hw1.mono (by simp))
    have hX1 := (hw1.block w.heap.size (by simp)).trans (heap_alloc_new w _)
    have k0 := (cell_of_row w1 w.heap.size 0 _ 28 (0, 0) hX1).trans rfl
    have k1 := (cell_of_row w1 w.heap.size 1 _ 28 (0, 0) hX1).trans rfl
    clear hw1 hX1
    go_wp2
    go_ret
    exact ⟨rfl, HB1.out⟩
  by_cases c3 : 1073741824 < cz
  · go_enter Try.func6, Try.ntmps6
    go_wp2_with fail
    refine (awake_c J _ (J.on hG ((Below.refl _ _).alloc (Nat.le_refl _) _))).mono ?_
    rintro _ w1 ⟨rfl, hw1⟩
    have HB1 : Hid (Below w.heap.size w w1) := ((Below.refl _ w).alloc (Nat.le_refl _) _).trans (hw1.mono (by simp))
    have hX1 := (hw1.block w.heap.size (by simp)).trans (heap_alloc_new w _)
    have k0 := (cell_of_row w1 w.heap.size 0 _ 28 (0, 0) hX1).trans rfl
    have k1 := (cell_of_row w1 w.heap.size 1 _ 28 (0, 0) hX1).trans rfl
    clear hw1 hX1
    go_wp2
    go_ret
    exact ⟨rfl, HB1.out⟩
  go_enter Try.func6, Try.ntmps6
  go_wp2_with fail
  refine (awake_c J _ (J.on hG ((Below.refl _ _).alloc (Nat.le_refl _) _))).mono ?_
  rintro _ w1 ⟨rfl, hw1⟩
  have HB1 : Hid (Below w.heap.size w w1) := ((Below.refl _ w).alloc (Nat.le_refl _) _).trans (hw1.mono (by simp))
  have HG1 : Hid (J.G w1) := J.on hG HB1.out
  have hX1 := (hw1.block w.heap.size (by simp)).trans (heap_alloc_new w _)
  have HX1 : Hid (w1.heap[w.heap.size]? = some (.cells #[.int .i64 cx, .int .i64 cz] 28 (0, 0))) := hX1
  have k0 : w1.cell? ⟨w.heap.size, 0, none⟩ = some (.int .i64 cx) := (cell_of_row w1 w.heap.size 0 _ 28 (0, 0) HX1.out).trans rfl
  have k1 : w1.cell? ⟨w.heap.size, 1, none⟩ = some (.int .i64 cz) := (cell_of_row w1 w.heap.size 1 _ 28 (0, 0) HX1.out).trans rfl
  have Hlt : Hid (w.heap.size < w1.heap.size) := (Array.getElem?_eq_some_iff.1 hX1).1
  have hnine := nine_c S cx cz p n c' l w1 hS (by unfold Far; omega) (by unfold Far; omega) ((hl.on HB1.out).up (Nat.le_of_lt Hlt.out)) hn
  clear hw1 hX1 hG
  go_wp2_with fail
  refine hnine.mono ?_
  clear hnine k0 k1
  rintro _ w2 ⟨hb2, b, cp, g, c, rfl, hN2, hap, hlo⟩
  have HB2 : Hid (Below w.heap.size w w2) := HB1.out.trans (hb2.mono HB1.out.size)
  have HX2 : Hid (w2.heap[w.heap.size]? = some (.cells #[.int .i64 cx, .int .i64 cz] 28 (0, 0))) := (hb2.block _ Hlt.out).trans HX1.out
  have HG2 : Hid (J.G w2) := J.on HG1.out hb2
  have Hlo : Hid (Apart9 g ∧ ∀ i, i < 9 → w1.heap.size ≤ g i) := ⟨hap, hlo⟩
  clear hb2 HB1 HX1 HG1 hap hlo
  have HN2 : Hid (B9 w2 b g c (spoilN (nineN S cx cz) l (min n 100))) := hN2
  clear hN2
  generalize spoilN (nineN S cx cz) l (min n 100) = css at *
  have hch := chunks_c b cp g c css w2 HN2.out
  go_wp2_with fail
  refine hch.mono ?_
  clear hch
  rintro _ w3 ⟨hb3, xb, xc, xg, rfl, hN3⟩
  have HB3 : Hid (Below w.heap.size w w3) := HB2.out.trans (hb3.mono HB2.out.size)
  have HX3 : Hid (w3.heap[w.heap.size]? = some (.cells #[.int .i64 cx, .int .i64 cz] 28 (0, 0))) := (hb3.block _ (Array.getElem?_eq_some_iff.1 HX2.out).1).trans HX2.out
  have HG3 : Hid (J.G w3) := J.on HG2.out hb3
  have HN3 : Hid (B9 w3 b g c css) := HN2.out.on hb3
  have HC3 : Hid (N9 w3 (some ⟨xb, 0, none⟩) xg css) := hN3
  clear hb3 HB2 HX2 HG2 HN2 hN3
  have hnil := some_nil w3 xb 9 xc
  have HL3 : Hid (CutsAt w3 w3.heap.size p2 n2 l2) := (hl2.on HB3.out).up HB3.out.size
  clear hl2
  go_wp2
  go_loopw [12, 13] (fun vo vi wr => ∃ (i : Nat) (av : Option Addr) (cv : Nat) (gs : List (Nat × Nat)), vi = .int .i64 (i : Int) ∧ vo = .slice av i cv ∧ i ≤ 9 ∧ Hid (ManyP w3 (fun i => css.getD i []) i av cv gs wr)) (fun _ vi _ => 9 - (intOf vi).toNat)
  case atStart => exact ⟨0, none, 0, [], rfl, rfl, by omega, ManyP.init⟩
  case round =>
    obtain ⟨i, av, cv, gs, rfl, rfl, hi, HM⟩ := hrel
    by_cases hlt : i < 9
    case pos =>
      have hlt' : (i : Int) < 9 := by omega
      have hB := HN3.out.on HM.out.bel
      have r0 := hB.row i hlt
      have HPi : Hid (Pre wr (g i) 5 (css.getD i []) ∧ (css.getD i []).length = 32768) := ⟨hB.pre i hlt, hB.len i hlt⟩
      clear hB
      generalize g i = gi at *
      generalize c i = ci at *
      go_wp2_with (at_builtin; first
        | (refine wpList_append_copy rfl _ _ rfl gi ci (css.getD i []) HPi.out.2 HPi.out.1 rfl rfl ?_; intro og oc w4 hPre hb4 hog; have HM4 : Hid (ManyP w3 (fun i => css.getD i []) i av cv gs (w4.alloc (.cells #[cpV (og, oc)] 38))) := (HM.out.on hb4).on ((Below.refl _ _).alloc (Nat.le_refl _) _); have HP4 : Hid (Pre (w4.alloc (.cells #[cpV (og, oc)] 38)) og 5 (css.getD i []) ∧ w3.heap.size ≤ og ∧ og ∉ gs.map (·.1)) := ⟨hPre.below ((Below.refl _ _).alloc (Nat.le_refl _) _) hPre.lt, Nat.le_trans HM.out.bel.size hog, fun hm => by have := HM.out.lt og hm; omega⟩; clear hPre hb4 hog HM)
        | (refine wpList_append_val 30 38 (.slice none 0 0) 24 Try.underlying30 info38 rfl (by omega) rfl _ _ rfl w3.heap.size av i cv (gs.map cpV) rfl HM4.out.own ⟨w4.heap.size, 0, none⟩ (cpV (og, oc)) rfl (cell_new _ _ _) rfl (by omega) HM4.out.bel.size ?_; intro a5 c5 w5 hO5 hgr5; have HM5 : Hid (ManyP w3 (fun i => css.getD i []) (i + 1) a5 c5 (gs ++ [(og, oc)]) w5) := HM4.out.add (x := (og, oc)) HP4.out.1 HP4.out.2.1 HP4.out.2.2 hO5 hgr5; clear hO5 hgr5 HM4))
      exact ⟨⟨i + 1, a5, c5, gs ++ [(og, oc)], by simp, rfl, by omega, HM5⟩, by simp [intOf]; omega⟩
    have hge : ¬ (i : Int) < 9 := by omega
    obtain rfl : i = 9 := by omega
    obtain ⟨ob, rfl, hO, hap, hlo⟩ := HM.out.b9 HN3.out.n HN3.out.len HN3.out.kin
    have Hbw : Hid (Below w3.heap.size w3 wr) := HM.out.bel
    obtain ⟨og, hog⟩ : ∃ og : Nat → Nat, og = fun i => (gs.getD i (0, 0)).1 := ⟨_, rfl⟩
    obtain ⟨oc, hoc⟩ : ∃ oc : Nat → Nat, oc = fun i => (gs.getD i (0, 0)).2 := ⟨_, rfl⟩
    have hlo' : ∀ i, i < 9 → w3.heap.size ≤ og i := by rw [hog]; exact hlo
    rw [← hog, ← hoc] at hO
    rw [← hog] at hap
    clear hog hoc hlo HM
    have hsp := spoilt_c ob cv og oc css w3.heap.size p2 n2 e2 l2 wr hO hap hlo' (HL3.out.on Hbw.out) hn2
    have Hap : Hid (Apart9 og ∧ ∀ i, i < 9 → w3.heap.size ≤ og i) := ⟨hap, hlo'⟩
    clear hO hap hlo'
    generalize spoilN css l2 (min n2 100) = css2 at *
    go_wp2_with fail
    refine hsp.mono ?_
    clear hsp
    rintro _ w6 ⟨rfl, hO6, hb6⟩
    have HI0 : Hid (∃ cssT, B9 w6 ob og oc cssT ∧ Mixed css css2 cssT 0 0 ∧ Below w3.heap.size w3 w6) := ⟨css2, hO6, Mixed.init css css2, Hbw.out.trans hb6⟩
    clear hO6 hb6 Hbw HL3
    go_wp2
    go_loopw [14] (fun v wr => ∃ i : Nat, v = .int .i64 (i : Int) ∧ i ≤ 9 ∧ Hid (∃ cssT, B9 wr ob og oc cssT ∧ Mixed css css2 cssT i 0 ∧ Below w3.heap.size w3 wr)) (fun v _ => 9 - (intOf v).toNat)
    case atStart => exact ⟨0, rfl, by omega, HI0⟩
    case round =>
      clear HI0
      obtain ⟨i, rfl, hi, HI⟩ := hrel
      by_cases hlt : i < 9
      case pos =>
        have hlt' : (i : Int) < 9 := by omega
        go_wp2
        go_loopw [15] (fun v wr => ∃ k : Nat, v = .int .i64 (k : Int) ∧ k ≤ 32768 ∧ Hid (∃ cssT, B9 wr ob og oc cssT ∧ Mixed css css2 cssT i k ∧ Below w3.heap.size w3 wr)) (fun v _ => 32768 - (intOf v).toNat)
        case atStart => exact ⟨0, rfl, by omega, HI⟩
        case round =>
          clear HI
          obtain ⟨k, rfl, hk, HI⟩ := hrel
          by_cases hlk : k < 32768
          case neg =>
            have hge : ¬ (k : Int) < 32768 := by omega
            have HI2 : Hid (∃ cssT, B9 wr ob og oc cssT ∧ Mixed css css2 cssT (i + 1) 0 ∧ Below w3.heap.size w3 wr) := by
              obtain ⟨cssT, h1, h2, h3⟩ := HI.out
              obtain rfl : k = 32768 := by omega
              exact ⟨cssT, h1, h2.next, h3⟩
            clear HI
            go_wp2
            exact ⟨⟨i + 1, by simp, by omega, HI2⟩, by simp [intOf]; omega⟩
          have hlk' : (k : Int) < 32768 := by omega
          have t1 : Int.tmod (i : Int) 3 = (i : Int) % 3 := Int.tmod_eq_emod_of_nonneg (by omega)
          have t2 : Int.tmod (k : Int) 16 = (k : Int) % 16 := Int.tmod_eq_emod_of_nonneg (by omega)
          have t3 : Int.tdiv (i : Int) 3 = (i : Int) / 3 := Int.tdiv_eq_ediv_of_nonneg (by omega)
          have t4 : Int.tdiv (k : Int) 16 = (k : Int) / 16 := Int.tdiv_eq_ediv_of_nonneg (by omega)
          have t5 : Int.tmod ((k : Int) / 16) 16 = (k : Int) / 16 % 16 := Int.tmod_eq_emod_of_nonneg (by omega)
          have r1 : 0 ≤ (i : Int) % 3 ∧ (i : Int) % 3 ≤ 2 := by omega
          have r2 : 0 ≤ (k : Int) % 16 ∧ (k : Int) % 16 ≤ 15 := by omega
          have r3 : 0 ≤ (i : Int) / 3 ∧ (i : Int) / 3 ≤ 2 := by omega
          have r4 : 0 ≤ (k : Int) / 16 ∧ (k : Int) / 16 ≤ 2047 := by omega
          have r5 : 0 ≤ (k : Int) / 16 % 16 ∧ (k : Int) / 16 % 16 ≤ 15 := by omega
          have Hnb : Hid (nearB i k = decide (-2 ≤ (i : Int) % 3 * 16 + (k : Int) % 16 - 16 ∧ (i : Int) % 3 * 16 + (k : Int) % 16 - 16 < 18 ∧ -2 ≤ (i : Int) / 3 * 16 + (k : Int) / 16 % 16 - 16 ∧ (i : Int) / 3 * 16 + (k : Int) / 16 % 16 - 16 < 18)) := rfl
          have Hskip : Hid (nearB i k = false → ∃ cssT, B9 wr ob og oc cssT ∧ Mixed css css2 cssT i (k + 1) ∧ Below w3.heap.size w3 wr) := fun h => by
            obtain ⟨cssT, h1, h2, h3⟩ := HI.out
            exact ⟨cssT, h1, h2.skip (by rw [h]; simp), h3⟩
          generalize (k : Int) / 16 % 16 = KQ at *
          generalize (k : Int) / 16 = K16 at *
          generalize (i : Int) / 3 = I3 at *
          generalize (k : Int) % 16 = KR at *
          generalize (i : Int) % 3 = IR at *
          obtain ⟨r10, r11⟩ := r1
          obtain ⟨r20, r21⟩ := r2
          obtain ⟨r30, r31⟩ := r3
          obtain ⟨r40, r41⟩ := r4
          obtain ⟨r50, r51⟩ := r5
          by_cases a0 : -2 ≤ IR * 16 + KR - 16
          case neg =>
            have HI3 : Hid (∃ cssT, B9 wr ob og oc cssT ∧ Mixed css css2 cssT i (k + 1) ∧ Below w3.heap.size w3 wr) := Hskip.out (by rw [Hnb.out]; exact decide_eq_false (by omega))
            clear Hskip HI Hnb
            go_wp2
            exact ⟨⟨k + 1, by simp, by omega, HI3⟩, by simp [intOf]; omega⟩
          by_cases a1 : IR * 16 + KR - 16 < 18
          case neg =>
            have HI3 : Hid (∃ cssT, B9 wr ob og oc cssT ∧ Mixed css css2 cssT i (k + 1) ∧ Below w3.heap.size w3 wr) := Hskip.out (by rw [Hnb.out]; exact decide_eq_false (by omega))
            clear Hskip HI Hnb
            go_wp2
            exact ⟨⟨k + 1, by simp, by omega, HI3⟩, by simp [intOf]; omega⟩
          by_cases a2 : -2 ≤ I3 * 16 + KQ - 16
          case neg =>
            have HI3 : Hid (∃ cssT, B9 wr ob og oc cssT ∧ Mixed css css2 cssT i (k + 1) ∧ Below w3.heap.size w3 wr) := Hskip.out (by rw [Hnb.out]; exact decide_eq_false (by omega))
            clear Hskip HI Hnb
            go_wp2
            exact ⟨⟨k + 1, by simp, by omega, HI3⟩, by simp [intOf]; omega⟩
          by_cases a3 : I3 * 16 + KQ - 16 < 18
          case neg =>
            have HI3 : Hid (∃ cssT, B9 wr ob og oc cssT ∧ Mixed css css2 cssT i (k + 1) ∧ Below w3.heap.size w3 wr) := Hskip.out (by rw [Hnb.out]; exact decide_eq_false (by omega))
            clear Hskip HI Hnb
            go_wp2
            exact ⟨⟨k + 1, by simp, by omega, HI3⟩, by simp [intOf]; omega⟩
          have hnear : nearB i k = true := by rw [Hnb.out]; exact decide_eq_true (by omega)
          obtain ⟨cssT, h1, h2, h3⟩ := HI.out
          have hB := HN3.out.on h3
          have q1 := hB.row i hlt
          have q2 := (hB.pre i hlt).cell (k := k) (by rw [hB.len i hlt]; exact hlk)
          have q3 := h1.row i hlt
          have q4 := (h1.pre i hlt).cell (k := k) (by rw [h1.len i hlt]; exact hlk)
          have q5 := (h1.pre i hlt).free k
          have hv := (hB.kin i hlt).at k
          have HI3 : Hid (∃ cssT, B9 (wr.drew.setCell ⟨og i, k, none⟩ (.int .u8 ((css.getD i []).getD k 0))) ob og oc cssT ∧ Mixed css css2 cssT i (k + 1) ∧ Below w3.heap.size w3 (wr.drew.setCell ⟨og i, k, none⟩ (.int .u8 ((css.getD i []).getD k 0)))) := by
            have hd : Below wr.heap.size wr wr.drew := (Below.refl _ _).drew
            exact ⟨_, (h1.on hd).set Hap.out.1 i k _ hlt hv, h2.put hnear hlt h1.n hlk (h1.len i hlt), (h3.trans (hd.mono h3.size)).setCell (p := ⟨og i, k, none⟩) (Hap.out.2 i hlt) _⟩
          clear Hskip HI Hnb h1 h2 h3 hB hnear
          generalize (css.getD i []).getD k 0 = cv0 at *
          generalize ((cssT.getD i []).getD k 0) = cv1 at *
          generalize og i = ogi at *
          generalize oc i = oci at *
          generalize g i = gi at *
          generalize c i = ci at *
          go_wp2_with fail
          clear t1 t2 t3 t4 t5 r10 r11 r20 r21 r30 r31 r40 r41 r50 r51 a0 a1 a2 a3
          refine region_L (fun w' => w'.cell? ⟨b, i, none⟩ = some (.slice (some ⟨gi, 0, none⟩) 32768 ci) ∧ w'.cell? ⟨gi, k, none⟩ = some (.int .u8 cv0) ∧ w'.cell? ⟨ob, i, none⟩ = some (.slice (some ⟨ogi, 0, none⟩) 32768 oci)) 13 (by kernel_rfl) ?_
          have hHeld : wr.drew.cell? ⟨b, i, none⟩ = some (.slice (some ⟨gi, 0, none⟩) 32768 ci) ∧ wr.drew.cell? ⟨gi, k, none⟩ = some (.int .u8 cv0) ∧ wr.drew.cell? ⟨ob, i, none⟩ = some (.slice (some ⟨ogi, 0, none⟩) 32768 oci) := ⟨q1, q2, q3⟩
          have q4' : wr.drew.cell? ⟨ogi, k, none⟩ = some (.int .u8 cv1) := q4
          have q5' : wr.drew.frozen? ⟨ogi, k, none⟩ = false := q5
          clear q1 q2 q3 q4 q5
          generalize wr.drew = va at *
          have hne : Nonempty (Sub (fun w' => w'.cell? ⟨b, i, none⟩ = some (.slice (some ⟨gi, 0, none⟩) 32768 ci) ∧ w'.cell? ⟨gi, k, none⟩ = some (.int .u8 cv0) ∧ w'.cell? ⟨ob, i, none⟩ = some (.slice (some ⟨ogi, 0, none⟩) 32768 oci))) := ⟨⟨_, hHeld⟩⟩
          have s1 : ∀ s : Sub (fun w' => w'.cell? ⟨b, i, none⟩ = some (.slice (some ⟨gi, 0, none⟩) 32768 ci) ∧ w'.cell? ⟨gi, k, none⟩ = some (.int .u8 cv0) ∧ w'.cell? ⟨ob, i, none⟩ = some (.slice (some ⟨ogi, 0, none⟩) 32768 oci)), s.w.cell? ⟨b, i, none⟩ = some (.slice (some ⟨gi, 0, none⟩) 32768 ci) := fun s => s.ok.1
          have s2 : ∀ s : Sub (fun w' => w'.cell? ⟨b, i, none⟩ = some (.slice (some ⟨gi, 0, none⟩) 32768 ci) ∧ w'.cell? ⟨gi, k, none⟩ = some (.int .u8 cv0) ∧ w'.cell? ⟨ob, i, none⟩ = some (.slice (some ⟨ogi, 0, none⟩) 32768 oci)), s.w.cell? ⟨gi, k, none⟩ = some (.int .u8 cv0) := fun s => s.ok.2.1
          have s3 : ∀ s : Sub (fun w' => w'.cell? ⟨b, i, none⟩ = some (.slice (some ⟨gi, 0, none⟩) 32768 ci) ∧ w'.cell? ⟨gi, k, none⟩ = some (.int .u8 cv0) ∧ w'.cell? ⟨ob, i, none⟩ = some (.slice (some ⟨ogi, 0, none⟩) 32768 oci)), s.w.cell? ⟨ob, i, none⟩ = some (.slice (some ⟨ogi, 0, none⟩) 32768 oci) := fun s => s.ok.2.2
          refine take_L (i := 0) rfl (by kernel_rfl) (by kernel_rfl) (by kernel_rfl) (by kernel_rfl) (fun _ _ _ _ h => h) (by exact hHeld) (fun K hK => ?_)
          go_simp
          refine hK _ ?_
          clear hK K
          refine take_L (i := 1) rfl (by kernel_rfl) (by kernel_rfl) (by kernel_rfl) (by kernel_rfl) (fun _ _ _ _ h => h) (by exact hHeld) (fun K hK => ?_)
          go_simp
          refine hK _ ?_
          clear hK K
          refine take_L (i := 2) rfl (by kernel_rfl) (by kernel_rfl) (by kernel_rfl) (by kernel_rfl) (fun _ _ _ _ h => h) (by exact hHeld) (fun K hK => ?_)
          go_simp
          refine hK _ ?_
          clear hK K
          refine take_L (i := 3) rfl (by kernel_rfl) (by kernel_rfl) (by kernel_rfl) (by kernel_rfl) (fun _ _ _ _ h => h) (by exact hHeld) (fun K hK => ?_)
          go_simp
          refine hK _ ?_
          clear hK K
          refine take_L (i := 4) rfl (by kernel_rfl) (by kernel_rfl) (by kernel_rfl) (by kernel_rfl) (fun _ _ _ _ h => h) (by exact hHeld) (fun K hK => ?_)
          go_simp
          refine hK _ ?_
          clear hK K
          refine take_L (i := 5) rfl (by kernel_rfl) (by kernel_rfl) (by kernel_rfl) (by kernel_rfl) (fun _ _ _ _ h => h) (by exact hHeld) (fun K hK => ?_)
          go_simp
          refine hK _ ?_
          clear hK K
          refine take_L (i := 6) rfl (by kernel_rfl) (by kernel_rfl) (by kernel_rfl) (by kernel_rfl) (fun _ _ _ _ h => h) (by exact hHeld) (fun K hK => ?_)
          go_simp
          refine hK _ ?_
          clear hK K
          refine take_L (i := 7) rfl (by kernel_rfl) (by kernel_rfl) (by kernel_rfl) (by kernel_rfl) (fun _ _ _ _ h => h) (by exact hHeld) (fun K hK => ?_)
          go_simp
          refine hK _ ?_
          clear hK K
          refine take_L (i := 8) rfl (by kernel_rfl) (by kernel_rfl) (by kernel_rfl) (by kernel_rfl) (fun _ _ _ _ h => h) (by exact hHeld) (fun K hK => ?_)
          go_simp
          refine hK _ ?_
          clear hK K
          refine take_L (i := 9) rfl (by kernel_rfl) (by kernel_rfl) (by kernel_rfl) (by kernel_rfl) (fun _ _ _ _ h => h) (by exact hHeld) (fun K hK => ?_)
          go_simp
          refine hK _ ?_
          clear hK K
          refine take_L (i := 10) rfl (by kernel_rfl) (by kernel_rfl) (by kernel_rfl) (by kernel_rfl) (fun _ _ _ _ h => h) (by exact hHeld) (fun K hK => ?_)
          go_simp
          refine hK _ ?_
          clear hK K
          refine take_L (i := 11) rfl (by kernel_rfl) (by kernel_rfl) (by kernel_rfl) (by kernel_rfl) (fun _ _ _ _ h => h) (by exact hHeld) (fun K hK => ?_)
          go_simp
          refine hK _ ?_
          clear hK K
          refine one_L (i := 12) (by kernel_rfl) rfl (fun K hK => ?_)
          go_simp
          refine hK.out _ _ (fun _ => hHeld) ?_
          clear hK K
          refine one_L (i := 13) (by kernel_rfl) rfl (fun K hK => ?_)
          go_simp
          refine hK.out _ _ (fun h => absurd rfl h) ?_
          clear hK K
          refine done_L (by kernel_rfl) ?_ _
          clear hHeld hne s1 s2 s3 q4' q5'
          go_wp2
          exact ⟨⟨k + 1, by simp, by omega, HI3⟩, by simp [intOf]; omega⟩
      have hge : ¬ (i : Int) < 9 := by omega
      obtain rfl : i = 9 := by omega
      obtain ⟨cssT, h1, h2, h3⟩ := HI.out
      have Hmix : Hid (Mixed css css2 cssT 9 0) := h2
      have hch := chunks_c ob cv og oc cssT wr h1
      have H7 : Hid (Below w3.heap.size w3 wr) := h3
      clear HI h1 h2 h3
      go_wp2_with fail
      refine hch.mono ?_
      clear hch
      rintro _ w7 ⟨hb7, yb, yc, yg, rfl, hN7⟩
      have H7' : Hid (Below w3.heap.size w3 w7) := H7.out.trans (hb7.mono H7.out.size)
      have HB7 : Hid (Below w.heap.size w w7) := HB3.out.trans (H7'.out.mono HB3.out.size)
      have HX7 : Hid (w7.heap[w.heap.size]? = some (.cells #[.int .i64 cx, .int .i64 cz] 28 (0, 0))) := (H7'.out.block _ (Array.getElem?_eq_some_iff.1 HX3.out).1).trans HX3.out
      have HG7 : Hid (J.G w7) := J.on HG3.out H7'.out
      have HN7 : Hid (B9 w7 b g c css) := HN3.out.on H7'.out
      have HC7 : Hid (N9 w7 (some ⟨xb, 0, none⟩) xg css) := HC3.out.on H7'.out
      have HD7 : Hid (N9 w7 (some ⟨yb, 0, none⟩) yg cssT) := hN7
      clear hb7 H7 H7' hN7 HB3 HX3 HG3 HN3 HC3 hnil
      have hnil := some_nil w7 xb 9 xc
      have hnil2 := some_nil w7 yb 9 yc
      have k0 : w7.cell? ⟨w.heap.size, 0, none⟩ = some (.int .i64 cx) := (cell_of_row w7 w.heap.size 0 _ 28 (0, 0) HX7.out).trans rfl
      have k1 : w7.cell? ⟨w.heap.size, 1, none⟩ = some (.int .i64 cz) := (cell_of_row w7 w.heap.size 1 _ 28 (0, 0) HX7.out).trans rfl
      have hcv := J.carve_ S cx cz (some ⟨xb, 0, none⟩) xc xg css w7 hS (by unfold Far; omega) (by unfold Far; omega) HC7.out HG7.out
      go_wp2_with fail
      refine hcv.mono ?_
      clear hcv hnil hnil2 k0 k1
      rintro _ w8 ⟨hb8, ag, rfl, hA8⟩
      have HB8 : Hid (Below w.heap.size w w8) := HB7.out.trans (hb8.mono HB7.out.size)
      have HX8 : Hid (w8.heap[w.heap.size]? = some (.cells #[.int .i64 cx, .int .i64 cz] 28 (0, 0))) := (hb8.block _ (Array.getElem?_eq_some_iff.1 HX7.out).1).trans HX7.out
      have HG8 : Hid (J.G w8) := J.on HG7.out hb8
      have HN8 : Hid (B9 w8 b g c css) := HN7.out.on hb8
      have HD8 : Hid (N9 w8 (some ⟨yb, 0, none⟩) yg cssT) := HD7.out.on hb8
      have HA8 : Hid (Blk w8 ag 73 (carveN S cx cz css)) := hA8
      clear hb8 hA8 HB7 HX7 HG7 HN7 HC7 HD7
      have k0 : w8.cell? ⟨w.heap.size, 0, none⟩ = some (.int .i64 cx) := (cell_of_row w8 w.heap.size 0 _ 28 (0, 0) HX8.out).trans rfl
      have k1 : w8.cell? ⟨w.heap.size, 1, none⟩ = some (.int .i64 cz) := (cell_of_row w8 w.heap.size 1 _ 28 (0, 0) HX8.out).trans rfl
      have hcv := J.carve_ S cx cz (some ⟨yb, 0, none⟩) yc yg cssT w8 hS (by unfold Far; omega) (by unfold Far; omega) HD8.out HG8.out
      rw [mixed_same Hmix.out] at hcv
      go_wp2_with fail
      refine hcv.mono ?_
      clear hcv k0 k1
      rintro _ w9 ⟨hb9, bg, rfl, hA9⟩
      have HB9 : Hid (Below w.heap.size w w9) := HB8.out.trans (hb9.mono HB8.out.size)
      have HN9 : Hid (B9 w9 b g c css) := HN8.out.on hb9
      have HA9 : Hid (Blk w9 ag 73 (carveN S cx cz css) ∧ Blk w9 bg 73 (carveN S cx cz css)) := ⟨HA8.out.below hb9 HA8.out.lt, hA9⟩
      have HF : Hid ((carveN S cx cz css).length = 32768 ∧ Kinds (carveN S cx cz css)) := ⟨carveN_len _ _ _ _, carve_kinds (HN8.out.kin 4 (by omega))⟩
      have HS : Hid (∀ i : Nat, i < 32768 → (carveN S cx cz css).getD i 0 = (css.getD 4 []).getD i 0 ∨ ((css.getD 4 []).getD i 0 = 1 ∧ 6 ≤ (i : Int) / 256 ∧ (i : Int) / 256 ≤ 29 ∧ (((i : Int) / 256 ≤ 10 ∧ (carveN S cx cz css).getD i 0 = 5) ∨ (10 < (i : Int) / 256 ∧ (carveN S cx cz css).getD i 0 = 0)))) := fun i hi => by
        rw [carveN_at S cx cz css i hi]
        exact carv_says S cx cz css i hi
      clear hb9 hA9 HB8 HX8 HG8 HN8 HD8 HA8 Hmix
      generalize carveN S cx cz css = F at *
      have hby := bytes_c ag F w9 HA9.out.1 HF.out.1
      go_wp2_with fail
      refine hby.mono ?_
      clear hby
      rintro _ w10 ⟨rfl, hP10, hb10⟩
      have HI0 : Hid (Below w.heap.size w w10 ∧ B9 w10 b g c css ∧ Blk w10 w9.heap.size 5 F ∧ Blk w10 bg 73 F) := ⟨HB9.out.trans (hb10.mono HB9.out.size), HN9.out.on hb10, hP10, HA9.out.2.below hb10 HA9.out.2.lt⟩
      clear hb10 hP10 HB9 HN9 HA9
      generalize w9.heap.size = pg at *
      go_wp2
      go_loop [24] (fun v => ∃ i : Nat, v = .int .i64 (i : Int) ∧ i ≤ 32768) (fun v => 32768 - (intOf v).toNat)
      case atStart => exact ⟨0, rfl, by omega⟩
      case round =>
        obtain ⟨i, rfl, hi⟩ := hrel
        by_cases hli : i < 32768
        case pos =>
          have hli' : (i : Int) < 32768 := by omega
          have u0 : Int.tdiv (i : Int) 256 = (i : Int) / 256 := Int.tdiv_eq_ediv_of_nonneg (by omega)
          have u1 : 0 ≤ (i : Int) / 256 ∧ (i : Int) / 256 ≤ 127 := by omega
          have q1 := HI0.out.2.1.row 4 (by omega)
          have q2 := (HI0.out.2.1.pre 4 (by omega)).cell (k := i) (by rw [HI0.out.2.1.len 4 (by omega)]; exact hli)
          have q3 := HI0.out.2.2.1.cell (k := i) (by rw [HF.out.1]; exact hli)
          have hs := HS.out i hli
          have hv1 := (HI0.out.2.1.kin 4 (by omega)).at i
          have hv2 := HF.out.2.at i
          generalize (css.getD 4 []).getD i 0 = kv at *
          generalize F.getD i 0 = fv at *
          generalize g 4 = g4 at *
          generalize c 4 = c4 at *
          generalize (i : Int) / 256 = H at *
          obtain ⟨u10, u11⟩ := u1
          rcases hs with rfl | ⟨rfl, hy0, hy1, ⟨hy2, rfl⟩ | ⟨hy2, rfl⟩⟩
          · go_wp2
            exact ⟨⟨i + 1, by simp, by omega⟩, by simp [intOf]; omega⟩
          · have g1 : ¬ H < 6 := by omega
            have g2 : ¬ 29 < H := by omega
            have g3 : ¬ 10 < H := by omega
            go_wp2
            exact ⟨⟨i + 1, by simp, by omega⟩, by simp [intOf]; omega⟩
          · have g1 : ¬ H < 6 := by omega
            have g2 : ¬ 29 < H := by omega
            have g3 : ¬ H ≤ 10 := by omega
            go_wp2
            exact ⟨⟨i + 1, by simp, by omega⟩, by simp [intOf]; omega⟩
        have hge : ¬ (i : Int) < 32768 := by omega
        go_wp2_with fail
        refine region_L (fun w' => Blk w' pg 5 F) 6 (by kernel_rfl) ?_
        have HBd : Hid (Below w.heap.size w w10.drew) := HI0.out.1.drew
        have HAd : Hid (Blk w10.drew bg 73 F) := HI0.out.2.2.2
        have hHeld : Blk w10.drew pg 5 F := HI0.out.2.2.1
        clear HI0 HS
        generalize w10.drew = va at *
        have hne : Nonempty (Sub (fun w' => Blk w' pg 5 F)) := ⟨⟨_, hHeld⟩⟩
        obtain ⟨X, hX⟩ : ∃ X, X = strOfNums F := ⟨_, rfl⟩
        have hcw : ∀ s : Sub (fun w' => Blk w' pg 5 F), (convert 38 9 (.slice (some ⟨pg, 0, none⟩) 32768 32768)).run Try.prog s.w = .ok (.string X) s.w := fun s => by rw [hX]; exact Blk.conv2 s.ok HF.out.1 HF.out.2
        have HXs : Hid (X = strOfNums F) := hX
        clear hX
        refine take_L (i := 0) rfl (by kernel_rfl) (by kernel_rfl) (by kernel_rfl) (by kernel_rfl) (fun _ _ _ _ h => h) (by exact hHeld) (fun K hK => ?_)
        go_simp
        refine hK _ ?_
        clear hK K
        refine take_L (i := 1) rfl (by kernel_rfl) (by kernel_rfl) (by kernel_rfl) (by kernel_rfl) (fun _ _ _ _ h => h) (by exact hHeld) (fun K hK => ?_)
        go_simp
        refine hK _ ?_
        clear hK K
        refine take_L (i := 2) rfl (by kernel_rfl) (by kernel_rfl) (by kernel_rfl) (by kernel_rfl) (fun _ _ _ _ h => h) (by exact hHeld) (fun K hK => ?_)
        go_simp
        refine hK _ ?_
        clear hK K
        refine one_L (i := 3) (by kernel_rfl) rfl (fun K hK => ?_)
        go_simp
        refine (bytes_c bg F va HAd.out HF.out.1).mono ?_
        rintro _ w11 ⟨rfl, hB11, hb11⟩
        have v11 : (convert 38 9 (.slice (some ⟨va.heap.size, 0, none⟩) 32768 32768)).run Try.prog w11 = .ok (.string X) w11 := by rw [HXs.out]; exact Blk.conv2 hB11 HF.out.1 HF.out.2
        have HB11 : Hid (Below w.heap.size w w11) := HBd.out.trans (hb11.mono HBd.out.size)
        replace hHeld : Blk w11 pg 5 F := Blk.below hHeld hb11 hHeld.lt
        refine hK.out _ _ (fun _ => hHeld) ?_
        clear hK K hB11 hb11 HBd HAd hcw hne
        generalize va.heap.size = gv at *
        refine one_L (i := 4) (by kernel_rfl) rfl (fun K hK => ?_)
        go_simp
        refine hK.out _ _ (fun _ => hHeld) ?_
        clear hK K
        clear v11
        refine one_L (i := 5) (by kernel_rfl) rfl (fun K hK => ?_)
        go_simp
        refine hK.out _ _ (fun _ => hHeld) ?_
        clear hK K
        refine one_L (i := 6) (by kernel_rfl) rfl (fun K hK => ?_)
        go_simp
        refine hK.out _ _ (fun h => absurd rfl h) ?_
        clear hK K
        refine done_L (by kernel_rfl) ?_ _
        clear hHeld HXs
        go_wp2
        go_ret
        exact ⟨rfl, HB11.out⟩
end Go.Proofs.Ytajjaeaknonmfaa