/-
  Walks of CavesCarves and CavesOnce.
-/
import Derived.Test.YtajjaeaknonmfaaVheld
import Derived.Test.YtajjaeaknonmfaaCSame
set_option maxRecDepth 20000
namespace Go.Proofs.Ytajjaeaknonmfaa
open C Go.RowKit

theorem Blk.conv2 {w : World} {g : Nat} {t : TypeId} {cs : List Int} (h : Blk w g t cs) (hl : cs.length = 32768) (hk : Kinds cs) : (convert 38 9 (.slice (some ⟨g, 0, none⟩) 32768 32768)).run Try.prog w = .ok (.string (strOfNums cs)) w := (Blk.pre h).conv hl hk
set_option maxRecDepth 100000 in
set_option maxHeartbeats 2000000 in
theorem cavesCarves_walk (J : VSpec) (S : Nat) (cx cz : Int) (p : Option Addr) (n c' : Nat) (l : List Cut) (w : World) (hS : S < 18446744073709551616) (hl : CutsAt w w.heap.size p n l) (hn : n ≤ 9223372036854775807) (hG : J.G w) :
    Calls Try.prog 4 #[.int .u64 S, .agg #[.int .i64 cx, .int .i64 cz], .slice p n c'] w fun e w' => e = .returned (.bool true) ∧ Below w.heap.size w w' := by
  by_cases c0 : cx < -1073741824
  · go_enter Try.func4, Try.ntmps4
    go_wp2_with fail
    refine (awake_c J _ (J.on hG ((Below.refl _ _).alloc (Nat.le_refl _) _))).mono ?_
    rintro _ w1 ⟨rfl, hw1⟩
    have HB1 : Hid (Below w.heap.size w w1) := ((Below.refl _ w).alloc (Nat.le_refl _) _).trans (hw1.mono (by simp))
    have hX1 := (hw1.block w.heap.size (by simp)).trans (heap_alloc_new w _)
    have k0 := (cell_of_row w1 w.heap.size 0 _ 28 (0, 0) hX1).trans rfl
    have k1 := (cell_of_row w1 w.heap.size 1 _ 28 (0, 0) hX1).trans rfl
    clear hw1 hX1
    go_wp2
    go_ret
    exact ⟨rfl, HB1.out⟩
  by_cases c1 : 1073741824 < cx
  · go_enter Try.func4, Try.ntmps4
    go_wp2_with fail
    refine (awake_c J _ (J.on hG ((Below.refl _ _).alloc (Nat.le_refl _) _))).mono ?_
    rintro _ w1 ⟨rfl, hw1⟩
    have HB1 : Hid (Below w.heap.size w w1) := ((Below.refl _ w).alloc (Nat.le_refl _) _).trans (hw1.mono (by simp))
    have hX1 := (hw1.block w.heap.size (by simp)).trans (heap_alloc_new w _)
    have k0 := (cell_of_row w1 w.heap.size 0 _ 28 (0, 0) hX1).trans rfl
    have k1 := (cell_of_row w1 w.heap.size 1 _ 28 (0, 0) hX1).trans rfl
    clear hw1 hX1
    go_wp2
    go_ret
    exact ⟨rfl, HB1.out⟩
  by_cases c2 : cz < -1073741824
  · go_enter Try.func4, Try.ntmps4
    go_wp2_with fail
    refine (awake_c J _ (J.on hG ((Below.refl _ _).alloc (Nat.le_refl _) _))).mono ?_
    rintro _ w1 ⟨rfl, hw1⟩
    have HB1 : Hid (Below w.heap.size w w1) := ((Below.refl _ w).alloc (Nat.le_refl _) _).trans (hw1.mono (by simp))
    have hX1 := (hw1.block w.heap.size (by simp)).trans (heap_alloc_new w _)
    have k0 := (cell_of_row w1 w.heap.size 0 _ 28 (0, 0) hX1).trans rfl
    have k1 := (cell_of_row w1 w.heap.size 1 _ 28 (0, 0) hX1).trans rfl
    clear hw1 hX1
    go_wp2
    go_ret
    exact ⟨rfl, HB1.out⟩
  by_cases c3 : 1073741824 < cz
  · go_enter Try.func4, Try.ntmps4
    go_wp2_with fail
    refine (awake_c J _ (J.on hG ((Below.refl _ _).alloc (Nat.le_refl _) _))).mono ?_
    rintro _ w1 ⟨rfl, hw1⟩
    have HB1 : Hid (Below w.heap.size w w1) := ((Below.refl _ w).alloc (Nat.le_refl _) _).trans (hw1.mono (by simp))
    have hX1 := (hw1.block w.heap.size (by simp)).trans (heap_alloc_new w _)
    have k0 := (cell_of_row w1 w.heap.size 0 _ 28 (0, 0) hX1).trans rfl
    have k1 := (cell_of_row w1 w.heap.size 1 _ 28 (0, 0) hX1).trans rfl
    clear hw1 hX1
    go_wp2
    go_ret
    exact ⟨rfl, HB1.out⟩
  go_enter Try.func4, Try.ntmps4
  go_wp2_with fail
  refine (awake_c J _ (J.on hG ((Below.refl _ _).alloc (Nat.le_refl _) _))).mono ?_
  rintro _ w1 ⟨rfl, hw1⟩
  have HB1 : Hid (Below w.heap.size w w1) := ((Below.refl _ w).alloc (Nat.le_refl _) _).trans (hw1.mono (by simp))
  have HG1 : Hid (J.G w1) := J.on hG HB1.out
  have hX1 := (hw1.block w.heap.size (by simp)).trans (heap_alloc_new w _)
  have HX1 : Hid (w1.heap[w.heap.size]? = some (.cells #[.int .i64 cx, .int .i64 cz] 28 (0, 0))) := hX1
  have k0 : w1.cell? ⟨w.heap.size, 0, none⟩ = some (.int .i64 cx) := (cell_of_row w1 w.heap.size 0 _ 28 (0, 0) HX1.out).trans rfl
  have k1 : w1.cell? ⟨w.heap.size, 1, none⟩ = some (.int .i64 cz) := (cell_of_row w1 w.heap.size 1 _ 28 (0, 0) HX1.out).trans rfl
  have Hlt : Hid (w.heap.size < w1.heap.size) := (Array.getElem?_eq_some_iff.1 hX1).1
  have hnine := nine_c S cx cz p n c' l w1 hS (by unfold Far; omega) (by unfold Far; omega) ((hl.on HB1.out).up (Nat.le_of_lt Hlt.out)) hn
  clear hw1 hX1 hG
  go_wp2_with fail
  refine hnine.mono ?_
  clear hnine k0 k1
  rintro _ w2 ⟨hb2, b, cp, g, c, rfl, hN2, hap, hlo⟩
  have HB2 : Hid (Below w.heap.size w w2) := HB1.out.trans (hb2.mono HB1.out.size)
  have HX2 : Hid (w2.heap[w.heap.size]? = some (.cells #[.int .i64 cx, .int .i64 cz] 28 (0, 0))) := (hb2.block _ Hlt.out).trans HX1.out
  have HG2 : Hid (J.G w2) := J.on HG1.out hb2
  have Hlo : Hid (Apart9 g ∧ ∀ i, i < 9 → w1.heap.size ≤ g i) := ⟨hap, hlo⟩
  clear hb2 HB1 HX1 HG1 hap hlo
  have HN2 : Hid (B9 w2 b g c (spoilN (nineN S cx cz) l (min n 100))) := hN2
  clear hN2
  generalize spoilN (nineN S cx cz) l (min n 100) = css at *
  have hch := chunks_c b cp g c css w2 HN2.out
  go_wp2_with fail
  refine hch.mono ?_
  clear hch
  rintro _ w3 ⟨hb3, xb, xc, xg, rfl, hN3⟩
  have HB3 : Hid (Below w.heap.size w w3) := HB2.out.trans (hb3.mono HB2.out.size)
  have HX3 : Hid (w3.heap[w.heap.size]? = some (.cells #[.int .i64 cx, .int .i64 cz] 28 (0, 0))) := (hb3.block _ (Array.getElem?_eq_some_iff.1 HX2.out).1).trans HX2.out
  have HG3 : Hid (J.G w3) := J.on HG2.out hb3
  have HN3 : Hid (B9 w3 b g c css) := HN2.out.on hb3
  have HC3 : Hid (N9 w3 (some ⟨xb, 0, none⟩) xg css) := hN3
  clear hb3 HB2 HX2 HG2 HN2 hN3
  have hnil := some_nil w3 xb 9 xc
  have k0 : w3.cell? ⟨w.heap.size, 0, none⟩ = some (.int .i64 cx) := (cell_of_row w3 w.heap.size 0 _ 28 (0, 0) HX3.out).trans rfl
  have k1 : w3.cell? ⟨w.heap.size, 1, none⟩ = some (.int .i64 cz) := (cell_of_row w3 w.heap.size 1 _ 28 (0, 0) HX3.out).trans rfl
  have hcv := J.carve_ S cx cz (some ⟨xb, 0, none⟩) xc xg css w3 hS (by unfold Far; omega) (by unfold Far; omega) HC3.out HG3.out
  go_wp2_with fail
  refine hcv.mono ?_
  clear hcv hnil k0 k1
  rintro _ w4 ⟨hb4, ag, rfl, hA4⟩
  have HB4 : Hid (Below w.heap.size w w4) := HB3.out.trans (hb4.mono HB3.out.size)
  have HX4 : Hid (w4.heap[w.heap.size]? = some (.cells #[.int .i64 cx, .int .i64 cz] 28 (0, 0))) := (hb4.block _ (Array.getElem?_eq_some_iff.1 HX3.out).1).trans HX3.out
  have HN4 : Hid (B9 w4 b g c css) := HN3.out.on hb4
  have HC4 : Hid (N9 w4 (some ⟨xb, 0, none⟩) xg css) := HC3.out.on hb4
  have HA4 : Hid (Blk w4 ag 73 (carveN S cx cz css)) := hA4
  clear hb4 HB3 HX3 HN3 HC3 hA4 HG3
  have k0 : w4.cell? ⟨w.heap.size, 0, none⟩ = some (.int .i64 cx) := (cell_of_row w4 w.heap.size 0 _ 28 (0, 0) HX4.out).trans rfl
  have k1 : w4.cell? ⟨w.heap.size, 1, none⟩ = some (.int .i64 cz) := (cell_of_row w4 w.heap.size 1 _ 28 (0, 0) HX4.out).trans rfl
  have hrc := rcarve_c S cx cz b cp g c css w4 hS (by unfold Far; omega) (by unfold Far; omega) HN4.out
  go_wp2_with fail
  refine hrc.mono ?_
  clear hrc k0 k1
  rintro _ w5 ⟨hb5, og, oc, rfl, hO5⟩
  have HB5 : Hid (Below w.heap.size w w5) := HB4.out.trans (hb5.mono HB4.out.size)
  have HN5 : Hid (B9 w5 b g c css) := HN4.out.on hb5
  have HC5 : Hid (N9 w5 (some ⟨xb, 0, none⟩) xg css) := HC4.out.on hb5
  have HA5 : Hid (Blk w5 ag 73 (carveN S cx cz css)) := HA4.out.below hb5 HA4.out.lt
  have HO5 : Hid (Pre w5 og 5 (carveN S cx cz css)) := hO5
  have HF : Hid ((carveN S cx cz css).length = 32768 ∧ Kinds (carveN S cx cz css)) := ⟨carveN_len _ _ _ _, carve_kinds (HN4.out.kin 4 (by omega))⟩
  clear hb5 HB4 HX4 HN4 HC4 HA4 hO5
  generalize carveN S cx cz css = F at *
  go_wp2_with fail
  refine region_L (fun w' => Pre w' og 5 F) 14 (by kernel_rfl) ?_
  have HBd : Hid (Below w.heap.size w w5.drew) := HB5.out.drew
  have hd0 : Below w5.heap.size w5 w5.drew := (Below.refl _ _).drew
  have HNd : Hid (B9 w5.drew b g c css) := HN5.out.on hd0
  have HCd : Hid (N9 w5.drew (some ⟨xb, 0, none⟩) xg css) := HC5.out.on hd0
  have HAd : Hid (Blk w5.drew ag 73 F) := HA5.out
  have hHeld : Pre w5.drew og 5 F := HO5.out
  clear HB5 HN5 HC5 HA5 HO5 hd0
  generalize w5.drew = va at *
  have hne : Nonempty (Sub (fun w' => Pre w' og 5 F)) := ⟨⟨_, hHeld⟩⟩
  obtain ⟨X, hX⟩ : ∃ X, X = strOfNums F := ⟨_, rfl⟩
  have hcw : ∀ s : Sub (fun w' => Pre w' og 5 F), (convert 38 9 (.slice (some ⟨og, 0, none⟩) 32768 oc)).run Try.prog s.w = .ok (.string X) s.w := fun s => by rw [hX]; exact Pre.conv s.ok HF.out.1 HF.out.2
  have HXs : Hid (X = strOfNums F) := hX
  clear hX
  refine take_L (i := 0) rfl (by kernel_rfl) (by kernel_rfl) (by kernel_rfl) (by kernel_rfl) (fun _ _ _ _ h => h) (by exact hHeld) (fun K hK => ?_)
  go_simp
  refine hK _ ?_
  clear hK K
  refine take_L (i := 1) rfl (by kernel_rfl) (by kernel_rfl) (by kernel_rfl) (by kernel_rfl) (fun _ _ _ _ h => h) (by exact hHeld) (fun K hK => ?_)
  go_simp
  refine hK _ ?_
  clear hK K
  refine take_L (i := 2) rfl (by kernel_rfl) (by kernel_rfl) (by kernel_rfl) (by kernel_rfl) (fun _ _ _ _ h => h) (by exact hHeld) (fun K hK => ?_)
  go_simp
  refine hK _ ?_
  clear hK K
  refine take_L (i := 3) rfl (by kernel_rfl) (by kernel_rfl) (by kernel_rfl) (by kernel_rfl) (fun _ _ _ _ h => h) (by exact hHeld) (fun K hK => ?_)
  go_simp
  refine hK _ ?_
  clear hK K
  refine take_L (i := 4) rfl (by kernel_rfl) (by kernel_rfl) (by kernel_rfl) (by kernel_rfl) (fun _ _ _ _ h => h) (by exact hHeld) (fun K hK => ?_)
  go_simp
  refine hK _ ?_
  clear hK K
  refine take_L (i := 5) rfl (by kernel_rfl) (by kernel_rfl) (by kernel_rfl) (by kernel_rfl) (fun _ _ _ _ h => h) (by exact hHeld) (fun K hK => ?_)
  go_simp
  refine hK _ ?_
  clear hK K
  refine take_L (i := 6) rfl (by kernel_rfl) (by kernel_rfl) (by kernel_rfl) (by kernel_rfl) (fun _ _ _ _ h => h) (by exact hHeld) (fun K hK => ?_)
  go_simp
  refine hK _ ?_
  clear hK K
  refine take_L (i := 7) rfl (by kernel_rfl) (by kernel_rfl) (by kernel_rfl) (by kernel_rfl) (fun _ _ _ _ h => h) (by exact hHeld) (fun K hK => ?_)
  go_simp
  refine hK _ ?_
  clear hK K
  refine take_L (i := 10) rfl (by kernel_rfl) (by kernel_rfl) (by kernel_rfl) (by kernel_rfl) (fun _ _ _ _ h => h) (by exact hHeld) (fun K hK => ?_)
  go_simp
  refine hK _ ?_
  clear hK K
  refine take_L (i := 11) rfl (by kernel_rfl) (by kernel_rfl) (by kernel_rfl) (by kernel_rfl) (fun _ _ _ _ h => h) (by exact hHeld) (fun K hK => ?_)
  go_simp
  refine hK _ ?_
  clear hK K
  refine one_L (i := 8) (by kernel_rfl) rfl (fun K hK => ?_)
  go_simp
  refine (bytes_c ag F va HAd.out HF.out.1).mono ?_
  rintro _ w6 ⟨rfl, hB6, hb6⟩
  have v6 : (convert 38 9 (.slice (some ⟨va.heap.size, 0, none⟩) 32768 32768)).run Try.prog w6 = .ok (.string X) w6 := by rw [HXs.out]; exact Blk.conv2 hB6 HF.out.1 HF.out.2
  have HB6 : Hid (Below w.heap.size w w6) := HBd.out.trans (hb6.mono HBd.out.size)
  have HN6 : Hid (B9 w6 b g c css) := HNd.out.on hb6
  have HC6 : Hid (N9 w6 (some ⟨xb, 0, none⟩) xg css) := HCd.out.on hb6
  replace hHeld : Pre w6 og 5 F := Pre.below hHeld hb6 hHeld.lt
  refine hK.out _ _ (fun _ => hHeld) ?_
  clear hK K hB6 hb6 HBd HNd HCd HAd hcw hne
  generalize va.heap.size = gv at *
  refine one_L (i := 9) (by kernel_rfl) rfl (fun K hK => ?_)
  go_simp
  refine hK.out _ _ (fun _ => hHeld) ?_
  clear hK K
  clear v6
  refine one_L (i := 12) (by kernel_rfl) rfl (fun K hK => ?_)
  go_simp
  refine hK.out _ _ (fun _ => hHeld) ?_
  clear hK K
  refine one_L (i := 13) (by kernel_rfl) rfl (fun K hK => ?_)
  go_simp
  refine hK.out _ _ (fun _ => hHeld) ?_
  clear hK K
  refine done_L (by kernel_rfl) ?_ _
  clear hHeld HXs
  go_wp2
  go_loopw [14] (fun v wr => ∃ i : Nat, v = .int .i64 (i : Int) ∧ i ≤ 9 ∧ Hid (B9 wr b g c css ∧ N9 wr (some ⟨xb, 0, none⟩) xg css ∧ Below w.heap.size w wr)) (fun v _ => 9 - (intOf v).toNat)
  case atStart => exact ⟨0, rfl, by omega, HN6.out, HC6.out, HB6.out⟩
  case round =>
    clear HN6 HC6 HB6
    obtain ⟨i, rfl, hi, HI⟩ := hrel
    by_cases hlt : i < 9
    case neg =>
      have hge : ¬ (i : Int) < 9 := by omega
      have R := HI.out.2.2
      clear HI
      go_wp2
      go_ret
      exact ⟨rfl, R⟩
    have hlt' : (i : Int) < 9 := by omega
    go_wp2_with fail
    refine region_L (fun w' => B9 w' b g c css ∧ N9 w' (some ⟨xb, 0, none⟩) xg css) 12 (by kernel_rfl) ?_
    have HBd : Hid (Below w.heap.size w wr.drew) := HI.out.2.2.drew
    have hd0 : Below wr.heap.size wr wr.drew := (Below.refl _ _).drew
    have hHeld : B9 wr.drew b g c css ∧ N9 wr.drew (some ⟨xb, 0, none⟩) xg css := ⟨HI.out.1.on hd0, HI.out.2.1.on hd0⟩
    clear HI hd0
    generalize wr.drew = va at *
    have hne : Nonempty (Sub (fun w' => B9 w' b g c css ∧ N9 w' (some ⟨xb, 0, none⟩) xg css)) := ⟨⟨_, hHeld⟩⟩
    obtain ⟨cs, hcs⟩ : ∃ cs, css.getD i [] = cs := ⟨_, rfl⟩
    have Hcs : Hid (css.getD i [] = cs ∧ cs.length = 32768 ∧ Kinds cs) := ⟨hcs, by rw [← hcs]; exact hHeld.1.len i hlt, by rw [← hcs]; exact hHeld.1.kin i hlt⟩
    obtain ⟨X, hX⟩ : ∃ X, X = strOfNums cs := ⟨_, rfl⟩
    have k0 : ∀ s : Sub (fun w' => B9 w' b g c css ∧ N9 w' (some ⟨xb, 0, none⟩) xg css), s.w.cell? ⟨xb, i, none⟩ = some (.pointer (some ⟨xg i, 0, none⟩)) := fun s => by
      obtain ⟨b', o', e, hr⟩ := s.ok.2.row
      cases e
      have := hr i hlt
      rwa [Nat.zero_add] at this
    have k1 : ∀ s : Sub (fun w' => B9 w' b g c css ∧ N9 w' (some ⟨xb, 0, none⟩) xg css), s.w.cell? ⟨b, i, none⟩ = some (.slice (some ⟨g i, 0, none⟩) 32768 (c i)) := fun s => s.ok.1.row i hlt
    have hcw : ∀ s : Sub (fun w' => B9 w' b g c css ∧ N9 w' (some ⟨xb, 0, none⟩) xg css), (convert 38 9 (.slice (some ⟨g i, 0, none⟩) 32768 (c i))).run Try.prog s.w = .ok (.string X) s.w := fun s => by
      rw [hX, ← Hcs.out.1]
      exact (s.ok.1.pre i hlt).conv (s.ok.1.len i hlt) (s.ok.1.kin i hlt)
    have HXs : Hid (X = strOfNums cs) := hX
    have HBk : Hid (∀ w', N9 w' (some ⟨xb, 0, none⟩) xg css → Blk w' (xg i) 73 cs) := fun w' h => by
      have := h.blk i hlt
      rwa [Hcs.out.1] at this
    clear hX hcs
    obtain ⟨xgi, hxgi⟩ : ∃ xgi, xg i = xgi := ⟨_, rfl⟩
    rw [hxgi] at k0 HBk
    clear hxgi
    generalize g i = gi at *
    generalize c i = ci at *
    refine take_L (i := 0) rfl (by kernel_rfl) (by kernel_rfl) (by kernel_rfl) (by kernel_rfl) (fun _ _ _ _ h => h) (by exact hHeld) (fun K hK => ?_)
    go_simp
    refine hK _ ?_
    clear hK K
    refine take_L (i := 1) rfl (by kernel_rfl) (by kernel_rfl) (by kernel_rfl) (by kernel_rfl) (fun _ _ _ _ h => h) (by exact hHeld) (fun K hK => ?_)
    go_simp
    refine hK _ ?_
    clear hK K
    refine take_L (i := 2) rfl (by kernel_rfl) (by kernel_rfl) (by kernel_rfl) (by kernel_rfl) (fun _ _ _ _ h => h) (by exact hHeld) (fun K hK => ?_)
    go_simp
    refine hK _ ?_
    clear hK K
    refine take_L (i := 3) rfl (by kernel_rfl) (by kernel_rfl) (by kernel_rfl) (by kernel_rfl) (fun _ _ _ _ h => h) (by exact hHeld) (fun K hK => ?_)
    go_simp
    refine hK _ ?_
    clear hK K
    refine take_L (i := 6) rfl (by kernel_rfl) (by kernel_rfl) (by kernel_rfl) (by kernel_rfl) (fun _ _ _ _ h => h) (by exact hHeld) (fun K hK => ?_)
    go_simp
    refine hK _ ?_
    clear hK K
    refine take_L (i := 7) rfl (by kernel_rfl) (by kernel_rfl) (by kernel_rfl) (by kernel_rfl) (fun _ _ _ _ h => h) (by exact hHeld) (fun K hK => ?_)
    go_simp
    refine hK _ ?_
    clear hK K
    refine take_L (i := 8) rfl (by kernel_rfl) (by kernel_rfl) (by kernel_rfl) (by kernel_rfl) (fun _ _ _ _ h => h) (by exact hHeld) (fun K hK => ?_)
    go_simp
    refine hK _ ?_
    clear hK K
    refine take_L (i := 9) rfl (by kernel_rfl) (by kernel_rfl) (by kernel_rfl) (by kernel_rfl) (fun _ _ _ _ h => h) (by exact hHeld) (fun K hK => ?_)
    go_simp
    refine hK _ ?_
    clear hK K
    refine take_L (i := 10) rfl (by kernel_rfl) (by kernel_rfl) (by kernel_rfl) (by kernel_rfl) (fun _ _ _ _ h => h) (by exact hHeld) (fun K hK => ?_)
    go_simp
    refine hK _ ?_
    clear hK K
    refine one_L (i := 4) (by kernel_rfl) rfl (fun K hK => ?_)
    go_simp
    refine (bytes_c xgi cs va (HBk.out va hHeld.2) Hcs.out.2.1).mono ?_
    rintro _ w7 ⟨rfl, hB7, hb7⟩
    have v7 : (convert 38 9 (.slice (some ⟨va.heap.size, 0, none⟩) 32768 32768)).run Try.prog w7 = .ok (.string X) w7 := by rw [HXs.out]; exact Blk.conv2 hB7 Hcs.out.2.1 Hcs.out.2.2
    have HB7 : Hid (Below w.heap.size w w7) := HBd.out.trans (hb7.mono HBd.out.size)
    replace hHeld : B9 w7 b g c css ∧ N9 w7 (some ⟨xb, 0, none⟩) xg css := ⟨hHeld.1.on hb7, hHeld.2.on hb7⟩
    refine hK.out _ _ (fun _ => hHeld) ?_
    clear hK K hB7 hb7 HBd hcw hne k0 k1 HBk
    generalize va.heap.size = gv at *
    refine one_L (i := 5) (by kernel_rfl) rfl (fun K hK => ?_)
    go_simp
    refine hK.out _ _ (fun _ => hHeld) ?_
    clear hK K
    clear v7
    refine one_L (i := 11) (by kernel_rfl) rfl (fun K hK => ?_)
    go_simp
    refine hK.out _ _ (fun _ => hHeld) ?_
    clear hK K
    refine done_L (by kernel_rfl) ?_ _
    have HI3 : Hid (B9 w7 b g c css ∧ N9 w7 (some ⟨xb, 0, none⟩) xg css ∧ Below w.heap.size w w7) := ⟨hHeld.1, hHeld.2, HB7.out⟩
    clear hHeld HXs Hcs HB7
    go_wp2
    exact ⟨⟨i + 1, by simp, by omega, HI3⟩, by simp [intOf]; omega⟩
end Go.Proofs.Ytajjaeaknonmfaa