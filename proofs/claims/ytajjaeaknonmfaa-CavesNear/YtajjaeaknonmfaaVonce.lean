/-
  Walk of CavesOnce.
-/
import Derived.Test.YtajjaeaknonmfaaVcarves
set_option maxRecDepth 20000
namespace Go.Proofs.Ytajjaeaknonmfaa
open C Go.RowKit

/-- Where stone became air or water: as much stone as there is less, there is more of these. -/
theorem cnt_carved (F G : List Int) (n : Nat) (h : ∀ k, k < n → F.getD k 0 = G.getD k 0 ∨ (G.getD k 0 = 1 ∧ (F.getD k 0 = 5 ∨ F.getD k 0 = 0))) : cnt F 1 n ≤ cnt G 1 n ∧ cnt F 1 n + cnt F 0 n + cnt F 5 n = cnt G 1 n + cnt G 0 n + cnt G 5 n := by
  induction n with
  | zero => exact ⟨Int.le_refl _, rfl⟩
  | succ n ih =>
    obtain ⟨i1, i2⟩ := ih (fun k hk => h k (by omega))
    simp only [cnt]
    rcases h n (by omega) with e | ⟨e1, e2 | e2⟩
    · rw [e]
      refine ⟨by split <;> omega, ?_⟩
      split <;> split <;> split <;> omega
    · rw [e1, e2]
      simp
      omega
    · rw [e1, e2]
      simp
      omega
theorem once_counts (S : Nat) (cx cz : Int) (css : List (List Int)) (hk : Kinds (css.getD 4 [])) :
    (cntTo (carveN S cx cz css) 32768).getD 1 0 ≤ (cntTo (css.getD 4 []) 32768).getD 1 0 ∧
    (cntTo (carveN S cx cz css) 32768).getD 1 0 + (cntTo (carveN S cx cz css) 32768).getD 0 0 + (cntTo (carveN S cx cz css) 32768).getD 5 0 = (cntTo (css.getD 4 []) 32768).getD 1 0 + (cntTo (css.getD 4 []) 32768).getD 0 0 + (cntTo (css.getD 4 []) 32768).getD 5 0 := by
  have hk2 : Kinds (carveN S cx cz css) := carve_kinds hk
  rw [cntTo_cnt _ hk2 0 (by omega), cntTo_cnt _ hk2 5 (by omega), cntTo_cnt _ hk2 1 (by omega), cntTo_cnt _ hk 0 (by omega), cntTo_cnt _ hk 5 (by omega), cntTo_cnt _ hk 1 (by omega)]
  refine cnt_carved _ _ 32768 (fun k hk => ?_)
  rw [carveN_at S cx cz css k hk]
  rcases carv_says S cx cz css k hk with h | ⟨h1, _, _, h | h⟩
  · exact .inl h
  · exact .inr ⟨h1, .inl h.2⟩
  · exact .inr ⟨h1, .inr h.2⟩
theorem ints_nil {w : World} {base : Nat} {v : Value} (h : Ints w base v []) : ∃ a c, v = .slice a 0 c := by
  rcases h.2 with ⟨rfl, _⟩ | ⟨g', cap, cur, rfl, _⟩
  · exact ⟨_, _, rfl⟩
  · exact ⟨_, _, rfl⟩
theorem b64_on {w w' : World} {b : Nat} {l : List Int} (h : B64k w b 3 l) (hb : Below w.heap.size w w') : B64k w' b 3 l := (hb.block b (Array.getElem?_eq_some_iff.1 h).1).trans h
set_option maxRecDepth 100000 in
set_option maxHeartbeats 2000000 in
theorem cavesOnce_walk (J : VSpec) (S : Nat) (cx cz : Int) (p : Option Addr) (n c' : Nat) (l : List Cut) (w : World) (hS : S < 18446744073709551616) (hl : CutsAt w w.heap.size p n l) (hn : n ≤ 9223372036854775807) (hG : J.G w) :
    Calls Try.prog 7 #[.int .u64 S, .agg #[.int .i64 cx, .int .i64 cz], .slice p n c'] w fun e w' => e = .returned (.bool true) ∧ Below w.heap.size w w' := by
  by_cases c0 : cx < -1073741824
  · go_enter Try.func7, Try.ntmps7
    go_wp2_with fail
    refine (awake_c J _ (J.on hG ((Below.refl _ _).alloc (Nat.le_refl _) _))).mono ?_
    rintro _ w1 ⟨rfl, hw1⟩
    have HB1 : Hid (Below w.heap.size w w1) := ((Below.refl _ w).alloc (Nat.le_refl _) _).trans (hw1.mono (by simp))
    have hX1 := (hw1.block w.heap.size (by simp)).trans (heap_alloc_new w _)
    have k0 := (cell_of_row w1 w.heap.size 0 _ 28 (0, 0) hX1).trans rfl
    have k1 := (cell_of_row w1 w.heap.size 1 _ 28 (0, 0) hX1).trans rfl
    clear hw1 hX1
    go_wp2
    go_ret
    exact ⟨rfl, HB1.out⟩
  by_cases c1 : 1073741824 < cx
  · go_enter Try.func7, Try.ntmps7
    go_wp2_with fail
    refine (awake_c J _ (J.on hG ((Below.refl _ _).alloc (Nat.le_refl _) _))).mono ?_
    rintro _ w1 ⟨rfl, hw1⟩
    have HB1 : Hid (Below w.heap.size w w1) := ((Below.refl _ w).alloc (Nat.le_refl _) _).trans (hw1.mono (by simp))
    have hX1 := (hw1.block w.heap.size (by simp)).trans (heap_alloc_new w _)
    have k0 := (cell_of_row w1 w.heap.size 0 _ 28 (0, 0) hX1).trans rfl
    have k1 := (cell_of_row w1 w.heap.size 1 _ 28 (0, 0) hX1).trans rfl
    clear hw1 hX1
    go_wp2
    go_ret
    exact ⟨rfl, HB1.out⟩
  by_cases c2 : cz < -1073741824
  · go_enter Try.func7, Try.ntmps7
    go_wp2_with fail
    refine (awake_c J _ (J.on hG ((Below.refl _ _).alloc (Nat.le_refl _) _))).mono ?_
    rintro _ w1 ⟨rfl, hw1⟩
    have HB1 : Hid (Below w.heap.size w w1) := ((Below.refl _ w).alloc (Nat.le_refl _) _).trans (hw1.mono (by simp))
    have hX1 := (hw1.block w.heap.size (by simp)).trans (heap_alloc_new w _)
    have k0 := (cell_of_row w1 w.heap.size 0 _ 28 (0, 0) hX1).trans rfl
    have k1 := (cell_of_row w1 w.heap.size 1 _ 28 (0, 0) hX1).trans rfl
    clear hw1 hX1
    go_wp2
    go_ret
    exact ⟨rfl, HB1.out⟩
  by_cases c3 : 1073741824 < cz
  · go_enter Try.func7, Try.ntmps7
    go_wp2_with fail
    refine (awake_c J _ (J.on hG ((Below.refl _ _).alloc (Nat.le_refl _) _))).mono ?_
    rintro _ w1 ⟨rfl, hw1⟩
    have HB1 : Hid (Below w.heap.size w w1) := ((Below.refl _ w).alloc (Nat.le_refl _) _).trans (hw1.mono (by simp))
    have hX1 := (hw1.block w.heap.size (by simp)).trans (heap_alloc_new w _)
    have k0 := (cell_of_row w1 w.heap.size 0 _ 28 (0, 0) hX1).trans rfl
    have k1 := (cell_of_row w1 w.heap.size 1 _ 28 (0, 0) hX1).trans rfl
    clear hw1 hX1
    go_wp2
    go_ret
    exact ⟨rfl, HB1.out⟩
  go_enter Try.func7, Try.ntmps7
  go_wp2_with fail
  refine (awake_c J _ (J.on hG ((Below.refl _ _).alloc (Nat.le_refl _) _))).mono ?_
  rintro _ w1 ⟨rfl, hw1⟩
  have HB1 : Hid (Below w.heap.size w w1) := ((Below.refl _ w).alloc (Nat.le_refl _) _).trans (hw1.mono (by simp))
  have HG1 : Hid (J.G w1) := J.on hG HB1.out
  have hX1 := (hw1.block w.heap.size (by simp)).trans (heap_alloc_new w _)
  have HX1 : Hid (w1.heap[w.heap.size]? = some (.cells #[.int .i64 cx, .int .i64 cz] 28 (0, 0))) := hX1
  have k0 : w1.cell? ⟨w.heap.size, 0, none⟩ = some (.int .i64 cx) := (cell_of_row w1 w.heap.size 0 _ 28 (0, 0) HX1.out).trans rfl
  have k1 : w1.cell? ⟨w.heap.size, 1, none⟩ = some (.int .i64 cz) := (cell_of_row w1 w.heap.size 1 _ 28 (0, 0) HX1.out).trans rfl
  have Hlt : Hid (w.heap.size < w1.heap.size) := (Array.getElem?_eq_some_iff.1 hX1).1
  have hnine := nine_c S cx cz p n c' l w1 hS (by unfold Far; omega) (by unfold Far; omega) ((hl.on HB1.out).up (Nat.le_of_lt Hlt.out)) hn
  clear hw1 hX1 hG
  go_wp2_with fail
  refine hnine.mono ?_
  clear hnine k0 k1
  rintro _ w2 ⟨hb2, b, cp, g, c, rfl, hN2, hap, hlo⟩
  have HB2 : Hid (Below w.heap.size w w2) := HB1.out.trans (hb2.mono HB1.out.size)
  have HX2 : Hid (w2.heap[w.heap.size]? = some (.cells #[.int .i64 cx, .int .i64 cz] 28 (0, 0))) := (hb2.block _ Hlt.out).trans HX1.out
  have HG2 : Hid (J.G w2) := J.on HG1.out hb2
  have Hlo : Hid (Apart9 g ∧ ∀ i, i < 9 → w1.heap.size ≤ g i) := ⟨hap, hlo⟩
  clear hb2 HB1 HX1 HG1 hap hlo
  have HN2 : Hid (B9 w2 b g c (spoilN (nineN S cx cz) l (min n 100))) := hN2
  clear hN2
  generalize spoilN (nineN S cx cz) l (min n 100) = css at *
  have hch := chunks_c b cp g c css w2 HN2.out
  go_wp2_with fail
  refine hch.mono ?_
  clear hch
  rintro _ w3 ⟨hb3, xb, xc, xg, rfl, hN3⟩
  have HB3 : Hid (Below w.heap.size w w3) := HB2.out.trans (hb3.mono HB2.out.size)
  have HX3 : Hid (w3.heap[w.heap.size]? = some (.cells #[.int .i64 cx, .int .i64 cz] 28 (0, 0))) := (hb3.block _ (Array.getElem?_eq_some_iff.1 HX2.out).1).trans HX2.out
  have HG3 : Hid (J.G w3) := J.on HG2.out hb3
  have HN3 : Hid (B9 w3 b g c css) := HN2.out.on hb3
  have HC3 : Hid (N9 w3 (some ⟨xb, 0, none⟩) xg css) := hN3
  clear hb3 HB2 HX2 HG2 HN2 hN3
  have hnil := some_nil w3 xb 9 xc
  have k0 : w3.cell? ⟨w.heap.size, 0, none⟩ = some (.int .i64 cx) := (cell_of_row w3 w.heap.size 0 _ 28 (0, 0) HX3.out).trans rfl
  have k1 : w3.cell? ⟨w.heap.size, 1, none⟩ = some (.int .i64 cz) := (cell_of_row w3 w.heap.size 1 _ 28 (0, 0) HX3.out).trans rfl
  have hcv := J.carve_ S cx cz (some ⟨xb, 0, none⟩) xc xg css w3 hS (by unfold Far; omega) (by unfold Far; omega) HC3.out HG3.out
  go_wp2_with fail
  refine hcv.mono ?_
  clear hcv hnil k0 k1
  rintro _ w4 ⟨hb4, ag, rfl, hA4⟩
  have HB4 : Hid (Below w.heap.size w w4) := HB3.out.trans (hb4.mono HB3.out.size)
  have HX4 : Hid (w4.heap[w.heap.size]? = some (.cells #[.int .i64 cx, .int .i64 cz] 28 (0, 0))) := (hb4.block _ (Array.getElem?_eq_some_iff.1 HX3.out).1).trans HX3.out
  have HC4 : Hid (N9 w4 (some ⟨xb, 0, none⟩) xg css) := HC3.out.on hb4
  have HA4 : Hid (Blk w4 ag 73 (carveN S cx cz css)) := hA4
  have HG4 : Hid (J.G w4) := J.on HG3.out hb4
  clear hb4 HB3 HX3 HN3 HC3 hA4 HG3
  have k0 : w4.cell? ⟨w.heap.size, 0, none⟩ = some (.int .i64 cx) := (cell_of_row w4 w.heap.size 0 _ 28 (0, 0) HX4.out).trans rfl
  have k1 : w4.cell? ⟨w.heap.size, 1, none⟩ = some (.int .i64 cz) := (cell_of_row w4 w.heap.size 1 _ 28 (0, 0) HX4.out).trans rfl
  have hcv := J.carve_ S cx cz (some ⟨xb, 0, none⟩) xc xg css w4 hS (by unfold Far; omega) (by unfold Far; omega) HC4.out HG4.out
  go_wp2_with fail
  refine hcv.mono ?_
  clear hcv k0 k1
  rintro _ w5 ⟨hb5, bg, rfl, hA5⟩
  have HB5 : Hid (Below w.heap.size w w5) := HB4.out.trans (hb5.mono HB4.out.size)
  have HC5 : Hid (N9 w5 (some ⟨xb, 0, none⟩) xg css) := HC4.out.on hb5
  have HA5 : Hid (Blk w5 ag 73 (carveN S cx cz css) ∧ Blk w5 bg 73 (carveN S cx cz css)) := ⟨HA4.out.below hb5 HA4.out.lt, hA5⟩
  have HF : Hid ((carveN S cx cz css).length = 32768 ∧ Kinds (carveN S cx cz css)) := ⟨carveN_len _ _ _ _, carve_kinds (HC4.out.kin 4 (by omega))⟩
  have hq := once_counts S cx cz css (HC4.out.kin 4 (by omega))
  clear hb5 HB4 HX4 HC4 HA4 hA5 HG4
  generalize carveN S cx cz css = F at *
  have hco := counts_c ag F w5 HA5.out.1 HF.out.1 HF.out.2
  have a1 := cntTo_bd F 1 (by omega)
  have a0 := cntTo_bd F 0 (by omega)
  have a5 := cntTo_bd F 5 (by omega)
  have al := cntTo_length F 32768
  generalize cntTo F 32768 = L at *
  go_wp2_with fail
  refine hco.mono ?_
  clear hco
  rintro _ w6 ⟨rfl, hL6, hb6⟩
  have HB6 : Hid (Below w.heap.size w w6) := HB5.out.trans (hb6.mono HB5.out.size)
  have hC6 := HC5.out.on hb6
  have HA6 : Hid (Blk w6 ag 73 F ∧ Blk w6 bg 73 F) := ⟨HA5.out.1.below hb6 HA5.out.1.lt, HA5.out.2.below hb6 HA5.out.2.lt⟩
  have HL6 : Hid (B64k w6 w5.heap.size 3 L) := hL6
  have k4 : w6.cell? ⟨xb, 4, none⟩ = some (.pointer (some ⟨xg 4, 0, none⟩)) := by
    obtain ⟨b', o', e, hr⟩ := hC6.row
    cases e
    have := hr 4 (by omega)
    rwa [Nat.zero_add] at this
  have hcm := counts_c (xg 4) (css.getD 4 []) w6 (hC6.blk 4 (by omega)) (hC6.len 4 (by omega)) (hC6.kin 4 (by omega))
  have m1 := cntTo_bd (css.getD 4 []) 1 (by omega)
  have m0 := cntTo_bd (css.getD 4 []) 0 (by omega)
  have m5 := cntTo_bd (css.getD 4 []) 5 (by omega)
  have ml := cntTo_length (css.getD 4 []) 32768
  clear hL6 hb6 hC6 HB5 HC5 HA5
  generalize cntTo (css.getD 4 []) 32768 = M at *
  generalize xg 4 = x4 at *
  generalize w5.heap.size = gL at *
  go_wp2_with fail
  refine hcm.mono ?_
  clear hcm k4
  rintro _ w7 ⟨rfl, hM7, hb7⟩
  have HB7 : Hid (Below w.heap.size w w7) := HB6.out.trans (hb7.mono HB6.out.size)
  have HA7 : Hid (Blk w7 ag 73 F ∧ Blk w7 bg 73 F) := ⟨HA6.out.1.below hb7 HA6.out.1.lt, HA6.out.2.below hb7 HA6.out.2.lt⟩
  have HL7 : Hid (B64k w7 gL 3 L) := b64_on HL6.out hb7
  have HM7 : Hid (B64k w7 w6.heap.size 3 M) := hM7
  clear hb7 hM7 HB6 HA6 HL6
  generalize w6.heap.size = gM at *
  go_wp2_with fail
  refine region_L (fun w' => B64k w' gL 3 L ∧ B64k w' gM 3 M) 39 (by kernel_rfl) ?_
  have HBd : Hid (Below w.heap.size w w7.drew) := HB7.out.drew
  have HAd : Hid (Blk w7.drew ag 73 F ∧ Blk w7.drew bg 73 F) := HA7.out
  have hHeld : B64k w7.drew gL 3 L ∧ B64k w7.drew gM 3 M := ⟨HL7.out, HM7.out⟩
  clear HB7 HA7 HL7 HM7
  generalize w7.drew = va at *
  have hne : Nonempty (Sub (fun w' => B64k w' gL 3 L ∧ B64k w' gM 3 M)) := ⟨⟨_, hHeld⟩⟩
  have k0 : ∀ s : Sub (fun w' => B64k w' gL 3 L ∧ B64k w' gM 3 M), s.w.cell? ⟨gL, 0, none⟩ = some (.int .i64 (L.getD 0 0)) := fun s => s.ok.1.cell (by omega)
  have k1 : ∀ s : Sub (fun w' => B64k w' gL 3 L ∧ B64k w' gM 3 M), s.w.cell? ⟨gL, 1, none⟩ = some (.int .i64 (L.getD 1 0)) := fun s => s.ok.1.cell (by omega)
  have k5 : ∀ s : Sub (fun w' => B64k w' gL 3 L ∧ B64k w' gM 3 M), s.w.cell? ⟨gL, 5, none⟩ = some (.int .i64 (L.getD 5 0)) := fun s => s.ok.1.cell (by omega)
  have l0 : ∀ s : Sub (fun w' => B64k w' gL 3 L ∧ B64k w' gM 3 M), s.w.cell? ⟨gM, 0, none⟩ = some (.int .i64 (M.getD 0 0)) := fun s => s.ok.2.cell (by omega)
  have l1 : ∀ s : Sub (fun w' => B64k w' gL 3 L ∧ B64k w' gM 3 M), s.w.cell? ⟨gM, 1, none⟩ = some (.int .i64 (M.getD 1 0)) := fun s => s.ok.2.cell (by omega)
  have l5 : ∀ s : Sub (fun w' => B64k w' gL 3 L ∧ B64k w' gM 3 M), s.w.cell? ⟨gM, 5, none⟩ = some (.int .i64 (M.getD 5 0)) := fun s => s.ok.2.cell (by omega)
  clear al ml
  generalize L.getD 0 0 = n0 at *
  generalize L.getD 1 0 = n1 at *
  generalize L.getD 5 0 = n5 at *
  generalize M.getD 0 0 = p0 at *
  generalize M.getD 1 0 = p1 at *
  generalize M.getD 5 0 = p5 at *
  obtain ⟨q1, q2⟩ := hq
  have w1' : IntKind.i64.wrap (n1 + n0) = n1 + n0 := by rw [IntKind.wrap_i64]; omega
  have w2' : IntKind.i64.wrap (n1 + n0 + n5) = n1 + n0 + n5 := by rw [IntKind.wrap_i64]; omega
  have w3' : IntKind.i64.wrap (p1 + p0) = p1 + p0 := by rw [IntKind.wrap_i64]; omega
  have w4' : IntKind.i64.wrap (p1 + p0 + p5) = p1 + p0 + p5 := by rw [IntKind.wrap_i64]; omega
  have d1' : decide (n1 ≤ p1) = true := decide_eq_true q1
  have d2' : (n1 + n0 + n5 == p1 + p0 + p5) = true := by rw [q2]; simp
  clear q1 q2 a1 a0 a5 m1 m0 m5
  refine take_L (i := 0) rfl (by kernel_rfl) (by kernel_rfl) (by kernel_rfl) (by kernel_rfl) (fun _ _ _ _ h => h) (by exact hHeld) (fun K hK => ?_)
  go_simp
  refine hK _ ?_
  clear hK K
  refine take_L (i := 1) rfl (by kernel_rfl) (by kernel_rfl) (by kernel_rfl) (by kernel_rfl) (fun _ _ _ _ h => h) (by exact hHeld) (fun K hK => ?_)
  go_simp
  refine hK _ ?_
  clear hK K
  have hdf := diff_c ag bg F F va HAd.out.1 HAd.out.2 HF.out.1 HF.out.1
  rw [diffTo_self] at hdf
  refine one_L (i := 2) (by kernel_rfl) rfl (fun K hK => ?_)
  go_simp
  refine hdf.mono ?_
  clear hdf
  rintro _ w8 ⟨v8, rfl, hI8, hb8⟩
  obtain ⟨a8, c8, rfl⟩ := ints_nil hI8
  have HB8 : Hid (Below w.heap.size w w8) := HBd.out.trans (hb8.mono HBd.out.size)
  replace hHeld : B64k w8 gL 3 L ∧ B64k w8 gM 3 M := ⟨b64_on hHeld.1 hb8, b64_on hHeld.2 hb8⟩
  refine hK.out _ _ (fun _ => hHeld) ?_
  clear hK K hI8 hb8 HBd HAd
  refine one_L (i := 3) (by kernel_rfl) rfl (fun K hK => ?_)
  go_simp
  refine hK.out _ _ (fun _ => hHeld) ?_
  clear hK K
  refine one_L (i := 4) (by kernel_rfl) rfl (fun K hK => ?_)
  go_simp
  refine hK.out _ _ (fun _ => hHeld) ?_
  clear hK K
  refine one_L (i := 5) (by kernel_rfl) rfl (fun K hK => ?_)
  go_simp
  refine hK.out _ _ (fun _ => hHeld) ?_
  clear hK K
  refine take_L (i := 6) rfl (by kernel_rfl) (by kernel_rfl) (by kernel_rfl) (by kernel_rfl) (fun _ _ _ _ h => h) (by exact hHeld) (fun K hK => ?_)
  go_simp
  refine hK _ ?_
  clear hK K
  refine take_L (i := 7) rfl (by kernel_rfl) (by kernel_rfl) (by kernel_rfl) (by kernel_rfl) (fun _ _ _ _ h => h) (by exact hHeld) (fun K hK => ?_)
  go_simp
  refine hK _ ?_
  clear hK K
  refine take_L (i := 8) rfl (by kernel_rfl) (by kernel_rfl) (by kernel_rfl) (by kernel_rfl) (fun _ _ _ _ h => h) (by exact hHeld) (fun K hK => ?_)
  go_simp
  refine hK _ ?_
  clear hK K
  refine take_L (i := 9) rfl (by kernel_rfl) (by kernel_rfl) (by kernel_rfl) (by kernel_rfl) (fun _ _ _ _ h => h) (by exact hHeld) (fun K hK => ?_)
  go_simp
  refine hK _ ?_
  clear hK K
  refine take_L (i := 10) rfl (by kernel_rfl) (by kernel_rfl) (by kernel_rfl) (by kernel_rfl) (fun _ _ _ _ h => h) (by exact hHeld) (fun K hK => ?_)
  go_simp
  refine hK _ ?_
  clear hK K
  refine take_L (i := 11) rfl (by kernel_rfl) (by kernel_rfl) (by kernel_rfl) (by kernel_rfl) (fun _ _ _ _ h => h) (by exact hHeld) (fun K hK => ?_)
  go_simp
  refine hK _ ?_
  clear hK K
  refine take_L (i := 12) rfl (by kernel_rfl) (by kernel_rfl) (by kernel_rfl) (by kernel_rfl) (fun _ _ _ _ h => h) (by exact hHeld) (fun K hK => ?_)
  go_simp
  refine hK _ ?_
  clear hK K
  refine take_L (i := 13) rfl (by kernel_rfl) (by kernel_rfl) (by kernel_rfl) (by kernel_rfl) (fun _ _ _ _ h => h) (by exact hHeld) (fun K hK => ?_)
  go_simp
  refine hK _ ?_
  clear hK K
  refine take_L (i := 14) rfl (by kernel_rfl) (by kernel_rfl) (by kernel_rfl) (by kernel_rfl) (fun _ _ _ _ h => h) (by exact hHeld) (fun K hK => ?_)
  go_simp
  refine hK _ ?_
  clear hK K
  refine take_L (i := 15) rfl (by kernel_rfl) (by kernel_rfl) (by kernel_rfl) (by kernel_rfl) (fun _ _ _ _ h => h) (by exact hHeld) (fun K hK => ?_)
  go_simp
  refine hK _ ?_
  clear hK K
  refine take_L (i := 16) rfl (by kernel_rfl) (by kernel_rfl) (by kernel_rfl) (by kernel_rfl) (fun _ _ _ _ h => h) (by exact hHeld) (fun K hK => ?_)
  go_simp
  refine hK _ ?_
  clear hK K
  refine take_L (i := 17) rfl (by kernel_rfl) (by kernel_rfl) (by kernel_rfl) (by kernel_rfl) (fun _ _ _ _ h => h) (by exact hHeld) (fun K hK => ?_)
  go_simp
  refine hK _ ?_
  clear hK K
  refine take_L (i := 18) rfl (by kernel_rfl) (by kernel_rfl) (by kernel_rfl) (by kernel_rfl) (fun _ _ _ _ h => h) (by exact hHeld) (fun K hK => ?_)
  go_simp
  refine hK _ ?_
  clear hK K
  refine take_L (i := 19) rfl (by kernel_rfl) (by kernel_rfl) (by kernel_rfl) (by kernel_rfl) (fun _ _ _ _ h => h) (by exact hHeld) (fun K hK => ?_)
  go_simp
  refine hK _ ?_
  clear hK K
  refine take_L (i := 20) rfl (by kernel_rfl) (by kernel_rfl) (by kernel_rfl) (by kernel_rfl) (fun _ _ _ _ h => h) (by exact hHeld) (fun K hK => ?_)
  go_simp
  refine hK _ ?_
  clear hK K
  refine take_L (i := 21) rfl (by kernel_rfl) (by kernel_rfl) (by kernel_rfl) (by kernel_rfl) (fun _ _ _ _ h => h) (by exact hHeld) (fun K hK => ?_)
  go_simp
  refine hK _ ?_
  clear hK K
  refine take_L (i := 22) rfl (by kernel_rfl) (by kernel_rfl) (by kernel_rfl) (by kernel_rfl) (fun _ _ _ _ h => h) (by exact hHeld) (fun K hK => ?_)
  go_simp
  refine hK _ ?_
  clear hK K
  refine take_L (i := 23) rfl (by kernel_rfl) (by kernel_rfl) (by kernel_rfl) (by kernel_rfl) (fun _ _ _ _ h => h) (by exact hHeld) (fun K hK => ?_)
  go_simp
  refine hK _ ?_
  clear hK K
  refine take_L (i := 24) rfl (by kernel_rfl) (by kernel_rfl) (by kernel_rfl) (by kernel_rfl) (fun _ _ _ _ h => h) (by exact hHeld) (fun K hK => ?_)
  go_simp
  refine hK _ ?_
  clear hK K
  refine take_L (i := 25) rfl (by kernel_rfl) (by kernel_rfl) (by kernel_rfl) (by kernel_rfl) (fun _ _ _ _ h => h) (by exact hHeld) (fun K hK => ?_)
  go_simp
  refine hK _ ?_
  clear hK K
  refine take_L (i := 26) rfl (by kernel_rfl) (by kernel_rfl) (by kernel_rfl) (by kernel_rfl) (fun _ _ _ _ h => h) (by exact hHeld) (fun K hK => ?_)
  go_simp
  refine hK _ ?_
  clear hK K
  refine take_L (i := 27) rfl (by kernel_rfl) (by kernel_rfl) (by kernel_rfl) (by kernel_rfl) (fun _ _ _ _ h => h) (by exact hHeld) (fun K hK => ?_)
  go_simp
  refine hK _ ?_
  clear hK K
  refine take_L (i := 28) rfl (by kernel_rfl) (by kernel_rfl) (by kernel_rfl) (by kernel_rfl) (fun _ _ _ _ h => h) (by exact hHeld) (fun K hK => ?_)
  go_simp
  refine hK _ ?_
  clear hK K
  refine take_L (i := 29) rfl (by kernel_rfl) (by kernel_rfl) (by kernel_rfl) (by kernel_rfl) (fun _ _ _ _ h => h) (by exact hHeld) (fun K hK => ?_)
  go_simp
  refine hK _ ?_
  clear hK K
  refine take_L (i := 30) rfl (by kernel_rfl) (by kernel_rfl) (by kernel_rfl) (by kernel_rfl) (fun _ _ _ _ h => h) (by exact hHeld) (fun K hK => ?_)
  go_simp
  refine hK _ ?_
  clear hK K
  refine take_L (i := 31) rfl (by kernel_rfl) (by kernel_rfl) (by kernel_rfl) (by kernel_rfl) (fun _ _ _ _ h => h) (by exact hHeld) (fun K hK => ?_)
  go_simp
  refine hK _ ?_
  clear hK K
  refine take_L (i := 32) rfl (by kernel_rfl) (by kernel_rfl) (by kernel_rfl) (by kernel_rfl) (fun _ _ _ _ h => h) (by exact hHeld) (fun K hK => ?_)
  go_simp
  refine hK _ ?_
  clear hK K
  refine take_L (i := 33) rfl (by kernel_rfl) (by kernel_rfl) (by kernel_rfl) (by kernel_rfl) (fun _ _ _ _ h => h) (by exact hHeld) (fun K hK => ?_)
  go_simp
  refine hK _ ?_
  clear hK K
  refine take_L (i := 34) rfl (by kernel_rfl) (by kernel_rfl) (by kernel_rfl) (by kernel_rfl) (fun _ _ _ _ h => h) (by exact hHeld) (fun K hK => ?_)
  go_simp
  refine hK _ ?_
  clear hK K
  refine take_L (i := 35) rfl (by kernel_rfl) (by kernel_rfl) (by kernel_rfl) (by kernel_rfl) (fun _ _ _ _ h => h) (by exact hHeld) (fun K hK => ?_)
  go_simp
  refine hK _ ?_
  clear hK K
  refine take_L (i := 36) rfl (by kernel_rfl) (by kernel_rfl) (by kernel_rfl) (by kernel_rfl) (fun _ _ _ _ h => h) (by exact hHeld) (fun K hK => ?_)
  go_simp
  refine hK _ ?_
  clear hK K
  refine take_L (i := 37) rfl (by kernel_rfl) (by kernel_rfl) (by kernel_rfl) (by kernel_rfl) (fun _ _ _ _ h => h) (by exact hHeld) (fun K hK => ?_)
  go_simp
  refine hK _ ?_
  clear hK K
  refine take_L (i := 38) rfl (by kernel_rfl) (by kernel_rfl) (by kernel_rfl) (by kernel_rfl) (fun _ _ _ _ h => h) (by exact hHeld) (fun K hK => ?_)
  go_simp
  refine hK _ ?_
  clear hK K
  refine one_L (i := 39) (by kernel_rfl) rfl (fun K hK => ?_)
  go_simp
  refine hK.out _ _ (fun h => absurd rfl h) ?_
  clear hK K
  refine done_L (by kernel_rfl) ?_ _
  clear k0 k1 k5 l0 l1 l5 hne hHeld
  go_wp2
  go_ret
  exact ⟨rfl, HB8.out⟩
end Go.Proofs.Ytajjaeaknonmfaa