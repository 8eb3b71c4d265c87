/-
  The statements' own Nine and chunks.
-/
import Derived.Test.YtajjaeaknonmfaaVnine
set_option maxRecDepth 20000
namespace Go.Proofs.Ytajjaeaknonmfaa
open C Go.RowKit

theorem map_ok (S : Nat) (x z : Int) : okCols (mapH S x z) (mapB S x z) := ⟨mapH_len S x z, mapB_len S x z, fun i hi => by
  have h1 : i < (mapH S x z).length := by rw [mapH_len]; exact hi
  have h2 : i < (mapB S x z).length := by rw [mapB_len]; exact hi
  rw [List.getD_eq_getElem?_getD, List.getElem?_eq_getElem h1, List.getD_eq_getElem?_getD, List.getElem?_eq_getElem h2, Option.getD_some, Option.getD_some, mapH_at, mapB_at]
  have := hOf_bd S (x * 16 + (i : Int) % 16) (z * 16 + (i : Int) / 16)
  have := bandOf_bd S (x * 16 + (i : Int) % 16) (z * 16 + (i : Int) / 16)
  omega⟩
/-- The strata of the i-th of nine chunks. -/
def nineAt (S : Nat) (cx cz : Int) (i : Nat) : List Int := fillN (mapH S (cx + (i : Int) % 3 - 1) (cz + (i : Int) / 3 - 1)) (mapB S (cx + (i : Int) % 3 - 1) (cz + (i : Int) / 3 - 1))
def nineN (S : Nat) (cx cz : Int) : List (List Int) := (List.range 9).map (nineAt S cx cz)
/-- What Nine answers. -/
def NineSay (css : List (List Int)) (w : World) (e : Ending) (w' : World) : Prop :=
  Below w.heap.size w w' ∧ ∃ b cp g c, e = .returned (.slice (some ⟨b, 0, none⟩) 9 cp) ∧ B9 w' b g c css ∧ Apart9 g ∧ ∀ i, i < 9 → w.heap.size ≤ g i
set_option maxRecDepth 100000 in
set_option maxHeartbeats 2000000 in
theorem nine_c (S : Nat) (cx cz : Int) (p : Option Addr) (n c' : Nat) (l : List Cut) (w : World) (hS : S < 18446744073709551616) (hcx : Far 1073741824 cx) (hcz : Far 1073741824 cz) (hl : CutsAt w w.heap.size p n l) (hn : n ≤ 9223372036854775807) :
    Calls Try.prog 11 #[.int .u64 S, .agg #[.int .i64 cx, .int .i64 cz], .slice p n c'] w (NineSay (spoilN (nineN S cx cz) l (min n 100)) w) := by
  obtain ⟨Post, hPost⟩ : ∃ Post : Ending → World → Prop, Post = NineSay (spoilN (nineN S cx cz) l (min n 100)) w := ⟨_, rfl⟩
  rw [← hPost]
  have HP : Hid (∀ e w', NineSay (spoilN (nineN S cx cz) l (min n 100)) w e w' → Post e w') := fun e w' h => by rw [hPost]; exact h
  clear hPost
  obtain ⟨cx0, cx1⟩ := hcx
  obtain ⟨cz0, cz1⟩ := hcz
  have Hb0 : Hid (Below w.heap.size w (w.alloc (.cells #[.int .i64 cx, .int .i64 cz] 28))) := (Below.refl _ _).alloc (Nat.le_refl _) _
  have HX0 : Hid ((w.alloc (.cells #[.int .i64 cx, .int .i64 cz] 28)).heap[w.heap.size]? = some (.cells #[.int .i64 cx, .int .i64 cz] 28 (0, 0))) := heap_alloc_new w (.cells #[.int .i64 cx, .int .i64 cz] 28)
  have Hsz : Hid ((w.alloc (.cells #[.int .i64 cx, .int .i64 cz] 28)).heap.size = w.heap.size + 1) := by show _ = _; simp
  have HL : Hid (CutsAt (w.alloc (.cells #[.int .i64 cx, .int .i64 cz] 28)) (w.alloc (.cells #[.int .i64 cx, .int .i64 cz] 28)).heap.size p n l) := (hl.on Hb0.out).up (by rw [Hsz.out]; omega)
  clear hl
  go_enter Try.func11, Try.ntmps11
  go_wp2
  generalize w.alloc (.cells #[.int .i64 cx, .int .i64 cz] 28) = w0 at *
  go_loopw [7, 8] (fun vo vi wr => ∃ (i : Nat) (av : Option Addr) (cv : Nat) (gs : List Nat), vi = .int .i64 (i : Int) ∧ vo = .slice av i cv ∧ i ≤ 9 ∧ Hid (Many w0 38 5 slV (nineAt S cx cz) i av cv gs wr)) (fun _ vi _ => 9 - (intOf vi).toNat)
  case atStart => exact ⟨0, none, 0, [], rfl, rfl, by omega, Many.init⟩
  case round =>
    obtain ⟨i, av, cv, gs, rfl, rfl, hi, HM⟩ := hrel
    by_cases hlt : i < 9
    case neg =>
      have hge : ¬ (i : Int) < 9 := by omega
      obtain rfl : i = 9 := by omega
      obtain ⟨b, rfl, hB9, hap, hlo⟩ := HM.out.b9 (fun i _ => fillN_len _ _) (fun i _ => fillN_bd _ _)
      have hsp := spoilt_c b cv (fun i => gs.getD i 0) (fun _ => 32768) _ w0.heap.size p n c' l wr hB9 hap hlo (HL.out.on HM.out.bel) hn
      have Hbel : Hid (Below w0.heap.size w0 wr) := HM.out.bel
      have Hap : Hid (Apart9 (fun i => gs.getD i 0) ∧ ∀ i, i < 9 → w0.heap.size ≤ gs.getD i 0) := ⟨hap, hlo⟩
      clear hB9 hap hlo HM
      go_wp2_with fail
      refine hsp.mono ?_
      clear hsp
      rintro _ w1 ⟨rfl, hB1, hb1⟩
      have R : Post (.returned (.slice (some ⟨b, 0, none⟩) 9 cv)) w1 := HP.out _ _ ⟨Hb0.out.trans ((Hbel.out.trans hb1).mono (by have := Hsz.out; omega)), b, cv, _, _, rfl, hB1, Hap.out.1, fun i hi => by have := Hap.out.2 i hi; have := Hsz.out; omega⟩
      clear hB1 hb1 HP
      go_wp2
      exact R
    have hlt' : (i : Int) < 9 := by omega
    have t1 : Int.tmod (i : Int) 3 = (i : Int) % 3 := Int.tmod_eq_emod_of_nonneg (by omega)
    have t2 : Int.tdiv (i : Int) 3 = (i : Int) / 3 := Int.tdiv_eq_ediv_of_nonneg (by omega)
    have r1 : 0 ≤ (i : Int) % 3 ∧ (i : Int) % 3 ≤ 2 := by omega
    have r2 : 0 ≤ (i : Int) / 3 ∧ (i : Int) / 3 ≤ 2 := by omega
    have Hf : Hid (nineAt S cx cz i = fillN (mapH S (cx + (i : Int) % 3 - 1) (cz + (i : Int) / 3 - 1)) (mapB S (cx + (i : Int) % 3 - 1) (cz + (i : Int) / 3 - 1))) := rfl
    generalize (i : Int) % 3 = R3 at *
    generalize (i : Int) / 3 = Q3 at *
    obtain ⟨r10, r11⟩ := r1
    obtain ⟨r20, r21⟩ := r2
    have hX := (HM.out.bel.block w.heap.size (by have := Hsz.out; omega)).trans HX0.out
    have k0 : wr.cell? ⟨w.heap.size, 0, none⟩ = some (.int .i64 cx) := (cell_of_row wr _ 0 _ 28 (0, 0) hX).trans rfl
    have k1 : wr.cell? ⟨w.heap.size, 1, none⟩ = some (.int .i64 cz) := (cell_of_row wr _ 1 _ 28 (0, 0) hX).trans rfl
    clear hX
    have hmap := rmap_c S (cx + R3 - 1) (cz + Q3 - 1) wr hS (by unfold Far; omega) (by unfold Far; omega)
    have Hok : Hid (okCols (mapH S (cx + R3 - 1) (cz + Q3 - 1)) (mapB S (cx + R3 - 1) (cz + Q3 - 1))) := map_ok _ _ _
    have Hmh : Hid ((mapH S (cx + R3 - 1) (cz + Q3 - 1)).length = 256 ∧ (mapB S (cx + R3 - 1) (cz + Q3 - 1)).length = 256) := ⟨mapH_len _ _ _, mapB_len _ _ _⟩
    generalize mapH S (cx + R3 - 1) (cz + Q3 - 1) = Hh at *
    generalize mapB S (cx + R3 - 1) (cz + Q3 - 1) = Bb at *
    go_wp2_with fail
    refine hmap.mono ?_
    clear hmap
    rintro _ w1 ⟨hb1, a1, c1, a2, c2, rfl, hC1, hC2⟩
    have HM1 : Hid (Many w0 38 5 slV (nineAt S cx cz) i av cv gs w1) := HM.out.on hb1
    have hI1 := hC1.ints
    have hI2 := hC2.ints
    rw [Hmh.out.1] at hI1
    rw [Hmh.out.2] at hI2
    have hfill := rfill_c a1 a2 256 256 c1 c2 Hh Bb w1 hI1 hI2 (by omega) (by omega)
    clear hb1 hC1 hC2 hI1 hI2 HM k0 k1
    go_wp2_with fail
    refine hfill.mono ?_
    clear hfill
    rintro e w2 ⟨hb2, hyes, hno⟩
    obtain ⟨g2, hg2, rfl, hG2⟩ := hyes Hok.out
    have HM2 : Hid (Many w0 38 5 slV (nineAt S cx cz) i av cv gs (w2.alloc (.cells #[slV g2] 38))) := (HM1.out.on hb2).on ((Below.refl _ _).alloc (Nat.le_refl _) _)
    have Hnew : Hid (g2 ∉ gs ∧ w0.heap.size ≤ g2) := ⟨fun hm => by have := HM1.out.lt g2 hm; omega, Nat.le_trans HM1.out.bel.size hg2⟩
    have HG2 : Hid (Blk (w2.alloc (.cells #[slV g2] 38)) g2 5 (nineAt S cx cz i)) := by
      show Blk _ _ _ _
      rw [Hf.out]
      exact (hG2.below ((Below.refl _ _).alloc (Nat.le_refl _) _) hG2.lt)
    clear hb2 hyes hno hg2 hG2 HM1 Hok Hmh Hf
    go_wp2_with (at_builtin; refine wpList_append_val 30 38 (.slice none 0 0) 24 Try.underlying30 info38 rfl (by omega) rfl _ _ rfl w0.heap.size av i cv (gs.map slV) rfl HM2.out.own ⟨w2.heap.size, 0, none⟩ (slV g2) rfl (cell_new _ _ _) rfl (by omega) HM2.out.bel.size ?_; intro a3 c3 w3 hO3 hgr3; have HM3 : Hid (Many w0 38 5 slV (nineAt S cx cz) (i + 1) a3 c3 (gs ++ [g2]) w3) := HM2.out.add (by decide) HG2.out Hnew.out.2 Hnew.out.1 hO3 hgr3; clear hO3 hgr3 HM2)
    exact ⟨⟨i + 1, a3, c3, gs ++ [g2], by simp, rfl, by omega, HM3⟩, by simp [intOf]; omega⟩
theorem Kinds.bad' {cs : List Int} (h : Kinds cs) : ∀ n, badTo cs n = false
  | 0 => rfl
  | n + 1 => by
    unfold badTo
    rw [Kinds.bad' h n, decide_eq_false (by have := h.at n; omega)]
    rfl
theorem Kinds.may' {cs : List Int} (h : Kinds cs) (hl : cs.length = 32768) : mayC cs = 0 := by
  unfold mayC
  rw [hl, if_neg (by omega), if_neg (by omega), Kinds.bad' h]
  rfl
set_option maxRecDepth 100000 in
set_option maxHeartbeats 2000000 in
theorem chunks_c (b cp : Nat) (g c : Nat → Nat) (css : List (List Int)) (w : World) (hN : B9 w b g c css) :
    Calls Try.prog 12 #[.slice (some ⟨b, 0, none⟩) 9 cp] w fun e w' => Below w.heap.size w w' ∧ ∃ b' c' g', e = .returned (.slice (some ⟨b', 0, none⟩) 9 c') ∧ N9 w' (some ⟨b', 0, none⟩) g' css := by
  obtain ⟨Post, hPost⟩ : ∃ Post : Ending → World → Prop, Post = fun e w' => Below w.heap.size w w' ∧ ∃ b' c' g', e = .returned (.slice (some ⟨b', 0, none⟩) 9 c') ∧ N9 w' (some ⟨b', 0, none⟩) g' css := ⟨_, rfl⟩
  rw [← hPost]
  have HP : Hid (∀ b' c' g' w', Below w.heap.size w w' → N9 w' (some ⟨b', 0, none⟩) g' css → Post (.returned (.slice (some ⟨b', 0, none⟩) 9 c')) w') := fun b' c' g' w' h1 h2 => by rw [hPost]; exact ⟨h1, b', c', g', rfl, h2⟩
  clear hPost
  have HN : Hid (B9 w b g c css) := hN
  clear hN
  go_enter Try.func12, Try.ntmps12
  go_wp2
  go_loopw [3, 4] (fun vo vi wr => ∃ (i : Nat) (av : Option Addr) (cv : Nat) (gs : List Nat), vi = .int .i64 (i : Int) ∧ vo = .slice av i cv ∧ i ≤ 9 ∧ Hid (Many w 34 73 ptV (fun i => css.getD i []) i av cv gs wr)) (fun _ vi _ => 9 - (intOf vi).toNat)
  case atStart => exact ⟨0, none, 0, [], rfl, rfl, by omega, Many.init⟩
  case round =>
    obtain ⟨i, av, cv, gs, rfl, rfl, hi, HM⟩ := hrel
    by_cases hlt : i < 9
    case neg =>
      have hge : ¬ (i : Int) < 9 := by omega
      obtain rfl : i = 9 := by omega
      obtain ⟨b', rfl, hr⟩ := HM.out.row (by omega)
      have R : Post (.returned (.slice (some ⟨b', 0, none⟩) 9 cv)) wr := HP.out b' cv (fun i => gs.getD i 0) wr HM.out.bel ⟨HN.out.n, ⟨b', 0, rfl, fun i hi => by rw [Nat.zero_add]; exact hr i hi⟩, HM.out.blk, HN.out.len, HN.out.kin⟩
      clear HM HP
      go_wp2
      exact R
    have hlt' : (i : Int) < 9 := by omega
    have hB := HN.out.on HM.out.bel
    have c0 := hB.row i hlt
    have hsrc := (hB.pre i hlt).src (hB.kin i hlt)
    rw [hB.len i hlt] at hsrc
    have hfrom := from_c (some ⟨g i, 0, none⟩) 32768 (c i) (css.getD i []) wr hsrc (by omega)
    have hm := Kinds.may' (hB.kin i hlt) (hB.len i hlt)
    clear hB hsrc
    generalize g i = gi at *
    generalize c i = ci at *
    go_wp2_with fail
    refine hfrom.mono ?_
    clear hfrom
    rintro e w1 ⟨hb1, h | h⟩
    case inr => exact absurd hm h.1
    obtain ⟨_, rfl, hG1⟩ := h
    have HM1 : Hid (Many w 34 73 ptV (fun i => css.getD i []) i av cv gs (w1.alloc (.cells #[ptV wr.heap.size] 34))) := (HM.out.on hb1).on ((Below.refl _ _).alloc (Nat.le_refl _) _)
    have Hnew : Hid (wr.heap.size ∉ gs ∧ w.heap.size ≤ wr.heap.size) := ⟨fun hm => by have := HM.out.lt _ hm; omega, HM.out.bel.size⟩
    have HG1 : Hid (Blk (w1.alloc (.cells #[ptV wr.heap.size] 34)) wr.heap.size 73 (css.getD i [])) := hG1.below ((Below.refl _ _).alloc (Nat.le_refl _) _) hG1.lt
    clear hb1 hG1 HM c0 hm
    generalize wr.heap.size = gw at *
    go_wp2_with (at_builtin; refine wpList_append_val 32 34 (.pointer none) 8 Try.underlying32 info34 rfl (by omega) rfl _ _ rfl w.heap.size av i cv (gs.map ptV) rfl HM1.out.own ⟨w1.heap.size, 0, none⟩ (ptV gw) rfl (cell_new _ _ _) rfl (by omega) HM1.out.bel.size ?_; intro a3 c3 w3 hO3 hgr3; have HM3 : Hid (Many w 34 73 ptV (fun i => css.getD i []) (i + 1) a3 c3 (gs ++ [gw]) w3) := HM1.out.add (by decide) HG1.out Hnew.out.2 Hnew.out.1 hO3 hgr3; clear hO3 hgr3 HM1)
    exact ⟨⟨i + 1, a3, c3, gs ++ [gw], by simp, rfl, by omega, HM3⟩, by simp [intOf]; omega⟩
end Go.Proofs.Ytajjaeaknonmfaa