/-
  Walks of VeinsTwice.
-/
import Derived.Test.YtbcadklodjdokaaWapplies
import Derived.Test.YtbcadklodjdokaaCSame
set_option maxRecDepth 20000
namespace Go.Proofs.Ytbcadklodjdokaa
open C Go.RowKit

theorem ints_nil {w : World} {base : Nat} {v : Value} (h : Ints w base v []) : ∃ a c, v = .slice a 0 c := by
  rcases h.2 with ⟨rfl, _⟩ | ⟨g', cap, cur, rfl, _⟩
  · exact ⟨_, _, rfl⟩
  · exact ⟨_, _, rfl⟩
set_option maxRecDepth 1000000 in
set_option maxHeartbeats 4000000 in
theorem veinsTwice_walk (J : WSpec) (S : Nat) (cx cz : Int) (a : Option Addr) (n cap : Nat) (w : World) (hS : S < 18446744073709551616) (hR : Runs w a n) (hG : J.G w) :
    Calls Try.prog 6 #[.int .u64 S, .agg #[.int .i64 cx, .int .i64 cz], .slice a n cap] w fun e w' => e = .returned (.bool true) ∧ Below w.heap.size w w' := by
  have HG : Hid (J.G w) := hG
  have HR : Hid (Runs w a n) := hR
  clear hG hR
  by_cases c0 : cx < -1073741824
  · go_enter Try.func6, Try.ntmps6
    go_wp2_with fail
    refine (awake_c J _ (J.on HG.out ((Below.refl _ _).alloc (Nat.le_refl _) _))).mono ?_
    rintro _ w1 ⟨rfl, hw1⟩
    have HB1 : Hid (Below w.heap.size w w1) := ((Below.refl _ w).alloc (Nat.le_refl _) _).trans (hw1.mono (by simp))
    have HX1 : Hid (w1.heap[w.heap.size]? = some (.cells #[.int .i64 cx, .int .i64 cz] 30 (0, 0))) := (hw1.block w.heap.size (by simp)).trans (heap_alloc_new w _)
    have k0 : w1.cell? ⟨w.heap.size, 0, none⟩ = some (.int .i64 cx) := (cell_of_row w1 w.heap.size 0 _ 30 (0, 0) HX1.out).trans rfl
    have k1 : w1.cell? ⟨w.heap.size, 1, none⟩ = some (.int .i64 cz) := (cell_of_row w1 w.heap.size 1 _ 30 (0, 0) HX1.out).trans rfl
    clear hw1
    go_wp2
    go_ret
    exact ⟨rfl, HB1.out⟩
  by_cases c1 : 1073741824 < cx
  · go_enter Try.func6, Try.ntmps6
    go_wp2_with fail
    refine (awake_c J _ (J.on HG.out ((Below.refl _ _).alloc (Nat.le_refl _) _))).mono ?_
    rintro _ w1 ⟨rfl, hw1⟩
    have HB1 : Hid (Below w.heap.size w w1) := ((Below.refl _ w).alloc (Nat.le_refl _) _).trans (hw1.mono (by simp))
    have HX1 : Hid (w1.heap[w.heap.size]? = some (.cells #[.int .i64 cx, .int .i64 cz] 30 (0, 0))) := (hw1.block w.heap.size (by simp)).trans (heap_alloc_new w _)
    have k0 : w1.cell? ⟨w.heap.size, 0, none⟩ = some (.int .i64 cx) := (cell_of_row w1 w.heap.size 0 _ 30 (0, 0) HX1.out).trans rfl
    have k1 : w1.cell? ⟨w.heap.size, 1, none⟩ = some (.int .i64 cz) := (cell_of_row w1 w.heap.size 1 _ 30 (0, 0) HX1.out).trans rfl
    clear hw1
    go_wp2
    go_ret
    exact ⟨rfl, HB1.out⟩
  by_cases c2 : cz < -1073741824
  · go_enter Try.func6, Try.ntmps6
    go_wp2_with fail
    refine (awake_c J _ (J.on HG.out ((Below.refl _ _).alloc (Nat.le_refl _) _))).mono ?_
    rintro _ w1 ⟨rfl, hw1⟩
    have HB1 : Hid (Below w.heap.size w w1) := ((Below.refl _ w).alloc (Nat.le_refl _) _).trans (hw1.mono (by simp))
    have HX1 : Hid (w1.heap[w.heap.size]? = some (.cells #[.int .i64 cx, .int .i64 cz] 30 (0, 0))) := (hw1.block w.heap.size (by simp)).trans (heap_alloc_new w _)
    have k0 : w1.cell? ⟨w.heap.size, 0, none⟩ = some (.int .i64 cx) := (cell_of_row w1 w.heap.size 0 _ 30 (0, 0) HX1.out).trans rfl
    have k1 : w1.cell? ⟨w.heap.size, 1, none⟩ = some (.int .i64 cz) := (cell_of_row w1 w.heap.size 1 _ 30 (0, 0) HX1.out).trans rfl
    clear hw1
    go_wp2
    go_ret
    exact ⟨rfl, HB1.out⟩
  by_cases c3 : 1073741824 < cz
  · go_enter Try.func6, Try.ntmps6
    go_wp2_with fail
    refine (awake_c J _ (J.on HG.out ((Below.refl _ _).alloc (Nat.le_refl _) _))).mono ?_
    rintro _ w1 ⟨rfl, hw1⟩
    have HB1 : Hid (Below w.heap.size w w1) := ((Below.refl _ w).alloc (Nat.le_refl _) _).trans (hw1.mono (by simp))
    have HX1 : Hid (w1.heap[w.heap.size]? = some (.cells #[.int .i64 cx, .int .i64 cz] 30 (0, 0))) := (hw1.block w.heap.size (by simp)).trans (heap_alloc_new w _)
    have k0 : w1.cell? ⟨w.heap.size, 0, none⟩ = some (.int .i64 cx) := (cell_of_row w1 w.heap.size 0 _ 30 (0, 0) HX1.out).trans rfl
    have k1 : w1.cell? ⟨w.heap.size, 1, none⟩ = some (.int .i64 cz) := (cell_of_row w1 w.heap.size 1 _ 30 (0, 0) HX1.out).trans rfl
    clear hw1
    go_wp2
    go_ret
    exact ⟨rfl, HB1.out⟩
  by_cases c4 : 1000 < n
  · have c4' : (1000 : Int) < (n : Int) := by omega
    go_enter Try.func6, Try.ntmps6
    go_wp2_with fail
    refine (awake_c J _ (J.on HG.out ((Below.refl _ _).alloc (Nat.le_refl _) _))).mono ?_
    rintro _ w1 ⟨rfl, hw1⟩
    have HB1 : Hid (Below w.heap.size w w1) := ((Below.refl _ w).alloc (Nat.le_refl _) _).trans (hw1.mono (by simp))
    have HX1 : Hid (w1.heap[w.heap.size]? = some (.cells #[.int .i64 cx, .int .i64 cz] 30 (0, 0))) := (hw1.block w.heap.size (by simp)).trans (heap_alloc_new w _)
    have k0 : w1.cell? ⟨w.heap.size, 0, none⟩ = some (.int .i64 cx) := (cell_of_row w1 w.heap.size 0 _ 30 (0, 0) HX1.out).trans rfl
    have k1 : w1.cell? ⟨w.heap.size, 1, none⟩ = some (.int .i64 cz) := (cell_of_row w1 w.heap.size 1 _ 30 (0, 0) HX1.out).trans rfl
    clear hw1
    go_wp2
    go_ret
    exact ⟨rfl, HB1.out⟩
  have hfx : Far 1073741824 cx := by unfold Far; omega
  have hfz : Far 1073741824 cz := by unfold Far; omega
  have hn1 : n ≤ 1000 := by omega
  have c4' : ¬ (1000 : Int) < (n : Int) := by omega
  go_enter Try.func6, Try.ntmps6
  go_wp2_with fail
  refine (awake_c J _ (J.on HG.out ((Below.refl _ _).alloc (Nat.le_refl _) _))).mono ?_
  rintro _ w1 ⟨rfl, hw1⟩
  have HB1 : Hid (Below w.heap.size w w1) := ((Below.refl _ w).alloc (Nat.le_refl _) _).trans (hw1.mono (by simp))
  have HX1 : Hid (w1.heap[w.heap.size]? = some (.cells #[.int .i64 cx, .int .i64 cz] 30 (0, 0))) := (hw1.block w.heap.size (by simp)).trans (heap_alloc_new w _)
  have k0 : w1.cell? ⟨w.heap.size, 0, none⟩ = some (.int .i64 cx) := (cell_of_row w1 w.heap.size 0 _ 30 (0, 0) HX1.out).trans rfl
  have k1 : w1.cell? ⟨w.heap.size, 1, none⟩ = some (.int .i64 cz) := (cell_of_row w1 w.heap.size 1 _ 30 (0, 0) HX1.out).trans rfl
  clear hw1
  have hcl := cells_c a n cap none 0 0 w1 (HR.out.on HB1.out) (fun k hk => absurd hk (Nat.not_lt_zero _)) hn1 (by omega)
  go_wp2_with fail
  refine hcl.mono ?_
  clear hcl k0 k1 c0 c1 c2 c3 c4 c4' 
  rintro _ w2 ⟨rfl, cs, hB2, hl, hk, hb2⟩
  have HB2 : Hid (Below w.heap.size w w2) := HB1.out.trans (hb2.mono HB1.out.size)
  have HX2 : Hid (w2.heap[w.heap.size]? = some (.cells #[.int .i64 cx, .int .i64 cz] 30 (0, 0))) := (hb2.block w.heap.size (Array.getElem?_eq_some_iff.1 HX1.out).1).trans HX1.out
  have HC : Hid (cs.length = 32768 ∧ Kinds cs) := ⟨hl, hk⟩
  have HBk2 : Hid (Blk w2 w1.heap.size 5 cs) := hB2
  have hfr := from_c (some ⟨w1.heap.size, 0, none⟩) 32768 32768 cs w2 (by have := (Blk.pre hB2).src hk; rwa [hl] at this) (by omega)
  have hmay := kinds_may hk hl
  clear hb2 HB1 HX1 hl hk hB2
  generalize w1.heap.size = bg at *
  go_wp2_with fail
  refine hfr.mono ?_
  clear hfr
  rintro _ w3 ⟨hb3, h3⟩
  rcases h3 with ⟨_, rfl, hX3⟩ | ⟨hno, _⟩
  case inr => exact absurd hmay hno
  have HB3 : Hid (Below w.heap.size w w3) := HB2.out.trans (hb3.mono HB2.out.size)
  have HX3 : Hid (w3.heap[w.heap.size]? = some (.cells #[.int .i64 cx, .int .i64 cz] 30 (0, 0))) := (hb3.block w.heap.size (Array.getElem?_eq_some_iff.1 HX2.out).1).trans HX2.out
  have HBk3 : Hid (Blk w3 bg 5 cs) := HBk2.out.below hb3 HBk2.out.lt
  have HXk3 : Hid (Blk w3 w2.heap.size 68 cs) := hX3
  clear hb3 HB2 HX2 HBk2 hX3 hmay
  generalize w2.heap.size = xg at *
  have k0 : w3.cell? ⟨w.heap.size, 0, none⟩ = some (.int .i64 cx) := (cell_of_row w3 w.heap.size 0 _ 30 (0, 0) HX3.out).trans rfl
  have k1 : w3.cell? ⟨w.heap.size, 1, none⟩ = some (.int .i64 cz) := (cell_of_row w3 w.heap.size 1 _ 30 (0, 0) HX3.out).trans rfl
  have hap := J.apply_ S cx cz xg cs w3 hS hfx hfz HXk3.out HC.out.1 HC.out.2 (J.on HG.out HB3.out)
  go_wp2_with fail
  refine hap.mono ?_
  clear hap k0 k1
  rintro _ w4 ⟨hb4, yg, rfl, hY4⟩
  have HB4 : Hid (Below w.heap.size w w4) := HB3.out.trans (hb4.mono HB3.out.size)
  have HX4 : Hid (w4.heap[w.heap.size]? = some (.cells #[.int .i64 cx, .int .i64 cz] 30 (0, 0))) := (hb4.block w.heap.size (Array.getElem?_eq_some_iff.1 HX3.out).1).trans HX3.out
  have HBk4 : Hid (Blk w4 bg 5 cs) := HBk3.out.below hb4 HBk3.out.lt
  have HXk4 : Hid (Blk w4 xg 68 cs) := HXk3.out.below hb4 HXk3.out.lt
  have HY4 : Hid (Blk w4 yg 68 (applyN S cx cz cs)) := hY4
  have HF : Hid ((applyN S cx cz cs).length = 32768 ∧ Kinds (applyN S cx cz cs)) := ⟨applyN_len _ _ _ _, apply_kinds HC.out.2⟩
  clear hb4 HB3 HX3 HBk3 HXk3 hY4
  have Htw : Hid (applyN S cx cz (applyN S cx cz cs) = applyN S cx cz cs) := apply_twice S cx cz cs
  have Hcn : Hid ((cntTo (applyN S cx cz cs) 32768).getD 1 0 ≤ (cntTo cs 32768).getD 1 0 ∧ (cntTo (applyN S cx cz cs) 32768).getD 1 0 + (cntTo (applyN S cx cz cs) 32768).getD 7 0 + (cntTo (applyN S cx cz cs) 32768).getD 8 0 + (cntTo (applyN S cx cz cs) 32768).getD 9 0 = (cntTo cs 32768).getD 1 0 + (cntTo cs 32768).getD 7 0 + (cntTo cs 32768).getD 8 0 + (cntTo cs 32768).getD 9 0) := by
    show _ ∧ _
    rw [cntTo_cnt _ HF.out.2 1 (by omega), cntTo_cnt _ HF.out.2 7 (by omega), cntTo_cnt _ HF.out.2 8 (by omega), cntTo_cnt _ HF.out.2 9 (by omega), cntTo_cnt _ HC.out.2 1 (by omega), cntTo_cnt _ HC.out.2 7 (by omega), cntTo_cnt _ HC.out.2 8 (by omega), cntTo_cnt _ HC.out.2 9 (by omega)]
    exact cnt_apply S cx cz cs
  have k0 : w4.cell? ⟨w.heap.size, 0, none⟩ = some (.int .i64 cx) := (cell_of_row w4 w.heap.size 0 _ 30 (0, 0) HX4.out).trans rfl
  have k1 : w4.cell? ⟨w.heap.size, 1, none⟩ = some (.int .i64 cz) := (cell_of_row w4 w.heap.size 1 _ 30 (0, 0) HX4.out).trans rfl
  have hap := J.apply_ S cx cz yg (applyN S cx cz cs) w4 hS hfx hfz HY4.out HF.out.1 HF.out.2 (J.on HG.out HB4.out)
  rw [Htw.out] at hap
  clear Htw
  generalize applyN S cx cz cs = F at *
  go_wp2_with fail
  refine hap.mono ?_
  clear hap k0 k1
  rintro _ w5 ⟨hb5, zg, rfl, hZ5⟩
  have HB5 : Hid (Below w.heap.size w w5) := HB4.out.trans (hb5.mono HB4.out.size)
  have HXk5 : Hid (Blk w5 xg 68 cs) := HXk4.out.below hb5 HXk4.out.lt
  have HY5 : Hid (Blk w5 yg 68 F) := HY4.out.below hb5 HY4.out.lt
  have HZ5 : Hid (Blk w5 zg 68 F) := hZ5
  clear hb5 HB4 HX4 HBk4 HXk4 HY4 hZ5
  have hco := counts_c xg cs w5 HXk5.out HC.out.1 HC.out.2
  go_wp2_with fail
  refine hco.mono ?_
  clear hco
  rintro _ w6 ⟨rfl, hL6, hb6⟩
  have HB6 : Hid (Below w.heap.size w w6) := HB5.out.trans (hb6.mono HB5.out.size)
  have HY6 : Hid (Blk w6 yg 68 F) := HY5.out.below hb6 HY5.out.lt
  have HZ6 : Hid (Blk w6 zg 68 F) := HZ5.out.below hb6 HZ5.out.lt
  have HL6 : Hid (B64k w6 w5.heap.size 3 (cntTo cs 32768)) := hL6
  clear hb6 HB5 HXk5 HY5 HZ5 hL6
  generalize w5.heap.size = gL at *
  have hco := counts_c yg F w6 HY6.out HF.out.1 HF.out.2
  go_wp2_with fail
  refine hco.mono ?_
  clear hco
  rintro _ w7 ⟨rfl, hM7, hb7⟩
  have HB7 : Hid (Below w.heap.size w w7) := HB6.out.trans (hb7.mono HB6.out.size)
  have HY7 : Hid (Blk w7 yg 68 F) := HY6.out.below hb7 HY6.out.lt
  have HZ7 : Hid (Blk w7 zg 68 F) := HZ6.out.below hb7 HZ6.out.lt
  have HL7 : Hid (B64k w7 gL 3 (cntTo cs 32768)) := b64_on HL6.out hb7
  have HM7 : Hid (B64k w7 w6.heap.size 3 (cntTo F 32768)) := hM7
  clear hb7 HB6 HY6 HZ6 HL6 hM7
  generalize w6.heap.size = gM at *
  have Hbd : Hid ((∀ j, j < 17 → 0 ≤ (cntTo cs 32768).getD j 0 ∧ (cntTo cs 32768).getD j 0 ≤ 32768) ∧ ∀ j, j < 17 → 0 ≤ (cntTo F 32768).getD j 0 ∧ (cntTo F 32768).getD j 0 ≤ 32768) := ⟨fun j hj => cntTo_bd cs j hj, fun j hj => cntTo_bd F j hj⟩
  have Hll : Hid ((cntTo cs 32768).length = 17 ∧ (cntTo F 32768).length = 17) := ⟨cntTo_length _ _, cntTo_length _ _⟩
  generalize cntTo cs 32768 = L at *
  generalize cntTo F 32768 = M at *
  have l1 : ∀ s : Sub (fun w' => Below w7.heap.size w7 w'), s.w.cell? ⟨gL, 1, none⟩ = some (.int .i64 (L.getD 1 0)) := fun s => cell_below (HL7.out.cell (k := 1) (by rw [Hll.out.1]; omega)) s.ok
  obtain ⟨l10, l11⟩ := Hbd.out.1 1 (by omega)
  have l7 : ∀ s : Sub (fun w' => Below w7.heap.size w7 w'), s.w.cell? ⟨gL, 7, none⟩ = some (.int .i64 (L.getD 7 0)) := fun s => cell_below (HL7.out.cell (k := 7) (by rw [Hll.out.1]; omega)) s.ok
  obtain ⟨l70, l71⟩ := Hbd.out.1 7 (by omega)
  have l8 : ∀ s : Sub (fun w' => Below w7.heap.size w7 w'), s.w.cell? ⟨gL, 8, none⟩ = some (.int .i64 (L.getD 8 0)) := fun s => cell_below (HL7.out.cell (k := 8) (by rw [Hll.out.1]; omega)) s.ok
  obtain ⟨l80, l81⟩ := Hbd.out.1 8 (by omega)
  have l9 : ∀ s : Sub (fun w' => Below w7.heap.size w7 w'), s.w.cell? ⟨gL, 9, none⟩ = some (.int .i64 (L.getD 9 0)) := fun s => cell_below (HL7.out.cell (k := 9) (by rw [Hll.out.1]; omega)) s.ok
  obtain ⟨l90, l91⟩ := Hbd.out.1 9 (by omega)
  have m1 : ∀ s : Sub (fun w' => Below w7.heap.size w7 w'), s.w.cell? ⟨gM, 1, none⟩ = some (.int .i64 (M.getD 1 0)) := fun s => cell_below (HM7.out.cell (k := 1) (by rw [Hll.out.2]; omega)) s.ok
  obtain ⟨m10, m11⟩ := Hbd.out.2 1 (by omega)
  have m7 : ∀ s : Sub (fun w' => Below w7.heap.size w7 w'), s.w.cell? ⟨gM, 7, none⟩ = some (.int .i64 (M.getD 7 0)) := fun s => cell_below (HM7.out.cell (k := 7) (by rw [Hll.out.2]; omega)) s.ok
  obtain ⟨m70, m71⟩ := Hbd.out.2 7 (by omega)
  have m8 : ∀ s : Sub (fun w' => Below w7.heap.size w7 w'), s.w.cell? ⟨gM, 8, none⟩ = some (.int .i64 (M.getD 8 0)) := fun s => cell_below (HM7.out.cell (k := 8) (by rw [Hll.out.2]; omega)) s.ok
  obtain ⟨m80, m81⟩ := Hbd.out.2 8 (by omega)
  have m9 : ∀ s : Sub (fun w' => Below w7.heap.size w7 w'), s.w.cell? ⟨gM, 9, none⟩ = some (.int .i64 (M.getD 9 0)) := fun s => cell_below (HM7.out.cell (k := 9) (by rw [Hll.out.2]; omega)) s.ok
  obtain ⟨m90, m91⟩ := Hbd.out.2 9 (by omega)
  obtain ⟨q1, q2⟩ := Hcn.out
  clear Hbd Hll Hcn
  generalize L.getD 1 0 = lv1 at *
  generalize L.getD 7 0 = lv7 at *
  generalize L.getD 8 0 = lv8 at *
  generalize L.getD 9 0 = lv9 at *
  generalize M.getD 1 0 = mv1 at *
  generalize M.getD 7 0 = mv7 at *
  generalize M.getD 8 0 = mv8 at *
  generalize M.getD 9 0 = mv9 at *
  have lw1 : IntKind.i64.wrap (lv1 + lv7) = lv1 + lv7 := by rw [IntKind.wrap_i64]; omega
  have lw2 : IntKind.i64.wrap (lv1 + lv7 + lv8) = lv1 + lv7 + lv8 := by rw [IntKind.wrap_i64]; omega
  obtain ⟨ls, hls⟩ : ∃ s : Int, lv1 + lv7 + lv8 + lv9 = s := ⟨_, rfl⟩
  have lw3 : IntKind.i64.wrap (lv1 + lv7 + lv8 + lv9) = ls := by rw [IntKind.wrap_i64, ← hls]; omega
  have mw1 : IntKind.i64.wrap (mv1 + mv7) = mv1 + mv7 := by rw [IntKind.wrap_i64]; omega
  have mw2 : IntKind.i64.wrap (mv1 + mv7 + mv8) = mv1 + mv7 + mv8 := by rw [IntKind.wrap_i64]; omega
  obtain ⟨ms, hms⟩ : ∃ s : Int, mv1 + mv7 + mv8 + mv9 = s := ⟨_, rfl⟩
  have mw3 : IntKind.i64.wrap (mv1 + mv7 + mv8 + mv9) = ms := by rw [IntKind.wrap_i64, ← hms]; omega
  have hls : ls = ms := by omega
  subst hls
  have d1 : decide (mv1 ≤ lv1) = true := decide_eq_true q1
  clear hls hms q1 q2 l10 l11 l70 l71 l80 l81 l90 l91 m10 m11 m70 m71 m80 m81 m90 m91
  go_wp2_with fail
  refine region_L (fun w' => Below w7.heap.size w7 w') 16 (by kernel_rfl) ?_
  have hHeld : Below w7.heap.size w7 w7.drew := (Below.refl _ _).drew
  generalize w7.drew = va at *
  have hne : Nonempty (Sub (fun w' => Below w7.heap.size w7 w')) := ⟨⟨_, hHeld⟩⟩
  refine take_L (i := 0) rfl (by kernel_rfl) (by kernel_rfl) (by kernel_rfl) (by kernel_rfl) (fun _ _ _ _ h => h) (by exact hHeld) (fun K hK => ?_)
  go_simp
  refine hK _ ?_
  clear hK K
  refine take_L (i := 1) rfl (by kernel_rfl) (by kernel_rfl) (by kernel_rfl) (by kernel_rfl) (fun _ _ _ _ h => h) (by exact hHeld) (fun K hK => ?_)
  go_simp
  refine hK _ ?_
  clear hK K
  refine take_L (i := 2) rfl (by kernel_rfl) (by kernel_rfl) (by kernel_rfl) (by kernel_rfl) (fun _ _ _ _ h => h) (by exact hHeld) (fun K hK => ?_)
  go_simp
  refine hK _ ?_
  clear hK K
  refine take_L (i := 3) rfl (by kernel_rfl) (by kernel_rfl) (by kernel_rfl) (by kernel_rfl) (fun _ _ _ _ h => h) (by exact hHeld) (fun K hK => ?_)
  go_simp
  refine hK _ ?_
  clear hK K
  refine take_L (i := 4) rfl (by kernel_rfl) (by kernel_rfl) (by kernel_rfl) (by kernel_rfl) (fun _ _ _ _ h => h) (by exact hHeld) (fun K hK => ?_)
  go_simp
  refine hK _ ?_
  clear hK K
  refine take_L (i := 5) rfl (by kernel_rfl) (by kernel_rfl) (by kernel_rfl) (by kernel_rfl) (fun _ _ _ _ h => h) (by exact hHeld) (fun K hK => ?_)
  go_simp
  refine hK _ ?_
  clear hK K
  refine take_L (i := 6) rfl (by kernel_rfl) (by kernel_rfl) (by kernel_rfl) (by kernel_rfl) (fun _ _ _ _ h => h) (by exact hHeld) (fun K hK => ?_)
  go_simp
  refine hK _ ?_
  clear hK K
  refine take_L (i := 7) rfl (by kernel_rfl) (by kernel_rfl) (by kernel_rfl) (by kernel_rfl) (fun _ _ _ _ h => h) (by exact hHeld) (fun K hK => ?_)
  go_simp
  refine hK _ ?_
  clear hK K
  refine take_L (i := 8) rfl (by kernel_rfl) (by kernel_rfl) (by kernel_rfl) (by kernel_rfl) (fun _ _ _ _ h => h) (by exact hHeld) (fun K hK => ?_)
  go_simp
  refine hK _ ?_
  clear hK K
  refine take_L (i := 9) rfl (by kernel_rfl) (by kernel_rfl) (by kernel_rfl) (by kernel_rfl) (fun _ _ _ _ h => h) (by exact hHeld) (fun K hK => ?_)
  go_simp
  refine hK _ ?_
  clear hK K
  refine take_L (i := 10) rfl (by kernel_rfl) (by kernel_rfl) (by kernel_rfl) (by kernel_rfl) (fun _ _ _ _ h => h) (by exact hHeld) (fun K hK => ?_)
  go_simp
  refine hK _ ?_
  clear hK K
  refine take_L (i := 11) rfl (by kernel_rfl) (by kernel_rfl) (by kernel_rfl) (by kernel_rfl) (fun _ _ _ _ h => h) (by exact hHeld) (fun K hK => ?_)
  go_simp
  refine hK _ ?_
  clear hK K
  refine take_L (i := 12) rfl (by kernel_rfl) (by kernel_rfl) (by kernel_rfl) (by kernel_rfl) (fun _ _ _ _ h => h) (by exact hHeld) (fun K hK => ?_)
  go_simp
  refine hK _ ?_
  clear hK K
  refine take_L (i := 13) rfl (by kernel_rfl) (by kernel_rfl) (by kernel_rfl) (by kernel_rfl) (fun _ _ _ _ h => h) (by exact hHeld) (fun K hK => ?_)
  go_simp
  refine hK _ ?_
  clear hK K
  refine take_L (i := 14) rfl (by kernel_rfl) (by kernel_rfl) (by kernel_rfl) (by kernel_rfl) (fun _ _ _ _ h => h) (by exact hHeld) (fun K hK => ?_)
  go_simp
  refine hK _ ?_
  clear hK K
  refine take_L (i := 15) rfl (by kernel_rfl) (by kernel_rfl) (by kernel_rfl) (by kernel_rfl) (fun _ _ _ _ h => h) (by exact hHeld) (fun K hK => ?_)
  go_simp
  refine hK _ ?_
  clear hK K
  refine done_L (by kernel_rfl) ?_ _
  go_wp2_with fail
  refine region_L (fun w' => Below w7.heap.size w7 w') 16 (by kernel_rfl) ?_
  replace hHeld : Below w7.heap.size w7 va.drew := hHeld.drew
  generalize va.drew = vb at *
  refine take_L (i := 0) rfl (by kernel_rfl) (by kernel_rfl) (by kernel_rfl) (by kernel_rfl) (fun _ _ _ _ h => h) (by exact hHeld) (fun K hK => ?_)
  go_simp
  refine hK _ ?_
  clear hK K
  refine take_L (i := 1) rfl (by kernel_rfl) (by kernel_rfl) (by kernel_rfl) (by kernel_rfl) (fun _ _ _ _ h => h) (by exact hHeld) (fun K hK => ?_)
  go_simp
  refine hK _ ?_
  clear hK K
  refine take_L (i := 2) rfl (by kernel_rfl) (by kernel_rfl) (by kernel_rfl) (by kernel_rfl) (fun _ _ _ _ h => h) (by exact hHeld) (fun K hK => ?_)
  go_simp
  refine hK _ ?_
  clear hK K
  refine take_L (i := 3) rfl (by kernel_rfl) (by kernel_rfl) (by kernel_rfl) (by kernel_rfl) (fun _ _ _ _ h => h) (by exact hHeld) (fun K hK => ?_)
  go_simp
  refine hK _ ?_
  clear hK K
  refine take_L (i := 4) rfl (by kernel_rfl) (by kernel_rfl) (by kernel_rfl) (by kernel_rfl) (fun _ _ _ _ h => h) (by exact hHeld) (fun K hK => ?_)
  go_simp
  refine hK _ ?_
  clear hK K
  refine take_L (i := 5) rfl (by kernel_rfl) (by kernel_rfl) (by kernel_rfl) (by kernel_rfl) (fun _ _ _ _ h => h) (by exact hHeld) (fun K hK => ?_)
  go_simp
  refine hK _ ?_
  clear hK K
  refine take_L (i := 6) rfl (by kernel_rfl) (by kernel_rfl) (by kernel_rfl) (by kernel_rfl) (fun _ _ _ _ h => h) (by exact hHeld) (fun K hK => ?_)
  go_simp
  refine hK _ ?_
  clear hK K
  refine take_L (i := 7) rfl (by kernel_rfl) (by kernel_rfl) (by kernel_rfl) (by kernel_rfl) (fun _ _ _ _ h => h) (by exact hHeld) (fun K hK => ?_)
  go_simp
  refine hK _ ?_
  clear hK K
  refine take_L (i := 8) rfl (by kernel_rfl) (by kernel_rfl) (by kernel_rfl) (by kernel_rfl) (fun _ _ _ _ h => h) (by exact hHeld) (fun K hK => ?_)
  go_simp
  refine hK _ ?_
  clear hK K
  refine take_L (i := 9) rfl (by kernel_rfl) (by kernel_rfl) (by kernel_rfl) (by kernel_rfl) (fun _ _ _ _ h => h) (by exact hHeld) (fun K hK => ?_)
  go_simp
  refine hK _ ?_
  clear hK K
  refine take_L (i := 10) rfl (by kernel_rfl) (by kernel_rfl) (by kernel_rfl) (by kernel_rfl) (fun _ _ _ _ h => h) (by exact hHeld) (fun K hK => ?_)
  go_simp
  refine hK _ ?_
  clear hK K
  refine take_L (i := 11) rfl (by kernel_rfl) (by kernel_rfl) (by kernel_rfl) (by kernel_rfl) (fun _ _ _ _ h => h) (by exact hHeld) (fun K hK => ?_)
  go_simp
  refine hK _ ?_
  clear hK K
  refine take_L (i := 12) rfl (by kernel_rfl) (by kernel_rfl) (by kernel_rfl) (by kernel_rfl) (fun _ _ _ _ h => h) (by exact hHeld) (fun K hK => ?_)
  go_simp
  refine hK _ ?_
  clear hK K
  refine take_L (i := 13) rfl (by kernel_rfl) (by kernel_rfl) (by kernel_rfl) (by kernel_rfl) (fun _ _ _ _ h => h) (by exact hHeld) (fun K hK => ?_)
  go_simp
  refine hK _ ?_
  clear hK K
  refine take_L (i := 14) rfl (by kernel_rfl) (by kernel_rfl) (by kernel_rfl) (by kernel_rfl) (fun _ _ _ _ h => h) (by exact hHeld) (fun K hK => ?_)
  go_simp
  refine hK _ ?_
  clear hK K
  refine take_L (i := 15) rfl (by kernel_rfl) (by kernel_rfl) (by kernel_rfl) (by kernel_rfl) (fun _ _ _ _ h => h) (by exact hHeld) (fun K hK => ?_)
  go_simp
  refine hK _ ?_
  clear hK K
  refine done_L (by kernel_rfl) ?_ _
  go_wp2_with fail
  refine region_L (fun w' => Below w7.heap.size w7 w') 20 (by kernel_rfl) ?_
  replace hHeld : Below w7.heap.size w7 vb.drew := hHeld.drew
  generalize vb.drew = vc at *
  refine take_L (i := 0) rfl (by kernel_rfl) (by kernel_rfl) (by kernel_rfl) (by kernel_rfl) (fun _ _ _ _ h => h) (by exact hHeld) (fun K hK => ?_)
  go_simp
  refine hK _ ?_
  clear hK K
  refine take_L (i := 1) rfl (by kernel_rfl) (by kernel_rfl) (by kernel_rfl) (by kernel_rfl) (fun _ _ _ _ h => h) (by exact hHeld) (fun K hK => ?_)
  go_simp
  refine hK _ ?_
  clear hK K
  have hdf := diff_c yg zg F F vc (HY7.out.below hHeld HY7.out.lt) (HZ7.out.below hHeld HZ7.out.lt) HF.out.1 HF.out.1
  rw [diffTo_self] at hdf
  refine one_L (i := 2) (by kernel_rfl) rfl (fun K hK => ?_)
  go_simp
  refine hdf.mono ?_
  clear hdf
  rintro _ w8 ⟨v8, rfl, hI8, hb8⟩
  obtain ⟨a8, c8, rfl⟩ := ints_nil hI8
  replace hHeld : Below w7.heap.size w7 w8 := hHeld.trans (hb8.mono hHeld.size)
  refine hK.out _ _ (fun _ => hHeld) ?_
  clear hK K hI8 hb8 HY7 HZ7 HL7 HM7
  refine take_L (i := 3) rfl (by kernel_rfl) (by kernel_rfl) (by kernel_rfl) (by kernel_rfl) (fun _ _ _ _ h => h) (by exact hHeld) (fun K hK => ?_)
  go_simp
  refine hK _ ?_
  clear hK K
  refine take_L (i := 4) rfl (by kernel_rfl) (by kernel_rfl) (by kernel_rfl) (by kernel_rfl) (fun _ _ _ _ h => h) (by exact hHeld) (fun K hK => ?_)
  go_simp
  refine hK _ ?_
  clear hK K
  refine take_L (i := 5) rfl (by kernel_rfl) (by kernel_rfl) (by kernel_rfl) (by kernel_rfl) (fun _ _ _ _ h => h) (by exact hHeld) (fun K hK => ?_)
  go_simp
  refine hK _ ?_
  clear hK K
  refine take_L (i := 6) rfl (by kernel_rfl) (by kernel_rfl) (by kernel_rfl) (by kernel_rfl) (fun _ _ _ _ h => h) (by exact hHeld) (fun K hK => ?_)
  go_simp
  refine hK _ ?_
  clear hK K
  refine take_L (i := 7) rfl (by kernel_rfl) (by kernel_rfl) (by kernel_rfl) (by kernel_rfl) (fun _ _ _ _ h => h) (by exact hHeld) (fun K hK => ?_)
  go_simp
  refine hK _ ?_
  clear hK K
  refine take_L (i := 8) rfl (by kernel_rfl) (by kernel_rfl) (by kernel_rfl) (by kernel_rfl) (fun _ _ _ _ h => h) (by exact hHeld) (fun K hK => ?_)
  go_simp
  refine hK _ ?_
  clear hK K
  refine take_L (i := 9) rfl (by kernel_rfl) (by kernel_rfl) (by kernel_rfl) (by kernel_rfl) (fun _ _ _ _ h => h) (by exact hHeld) (fun K hK => ?_)
  go_simp
  refine hK _ ?_
  clear hK K
  refine take_L (i := 10) rfl (by kernel_rfl) (by kernel_rfl) (by kernel_rfl) (by kernel_rfl) (fun _ _ _ _ h => h) (by exact hHeld) (fun K hK => ?_)
  go_simp
  refine hK _ ?_
  clear hK K
  refine take_L (i := 11) rfl (by kernel_rfl) (by kernel_rfl) (by kernel_rfl) (by kernel_rfl) (fun _ _ _ _ h => h) (by exact hHeld) (fun K hK => ?_)
  go_simp
  refine hK _ ?_
  clear hK K
  refine take_L (i := 12) rfl (by kernel_rfl) (by kernel_rfl) (by kernel_rfl) (by kernel_rfl) (fun _ _ _ _ h => h) (by exact hHeld) (fun K hK => ?_)
  go_simp
  refine hK _ ?_
  clear hK K
  refine take_L (i := 13) rfl (by kernel_rfl) (by kernel_rfl) (by kernel_rfl) (by kernel_rfl) (fun _ _ _ _ h => h) (by exact hHeld) (fun K hK => ?_)
  go_simp
  refine hK _ ?_
  clear hK K
  refine take_L (i := 14) rfl (by kernel_rfl) (by kernel_rfl) (by kernel_rfl) (by kernel_rfl) (fun _ _ _ _ h => h) (by exact hHeld) (fun K hK => ?_)
  go_simp
  refine hK _ ?_
  clear hK K
  refine take_L (i := 15) rfl (by kernel_rfl) (by kernel_rfl) (by kernel_rfl) (by kernel_rfl) (fun _ _ _ _ h => h) (by exact hHeld) (fun K hK => ?_)
  go_simp
  refine hK _ ?_
  clear hK K
  refine take_L (i := 16) rfl (by kernel_rfl) (by kernel_rfl) (by kernel_rfl) (by kernel_rfl) (fun _ _ _ _ h => h) (by exact hHeld) (fun K hK => ?_)
  go_simp
  refine hK _ ?_
  clear hK K
  refine take_L (i := 17) rfl (by kernel_rfl) (by kernel_rfl) (by kernel_rfl) (by kernel_rfl) (fun _ _ _ _ h => h) (by exact hHeld) (fun K hK => ?_)
  go_simp
  refine hK _ ?_
  clear hK K
  refine take_L (i := 18) rfl (by kernel_rfl) (by kernel_rfl) (by kernel_rfl) (by kernel_rfl) (fun _ _ _ _ h => h) (by exact hHeld) (fun K hK => ?_)
  go_simp
  refine hK _ ?_
  clear hK K
  refine take_L (i := 19) rfl (by kernel_rfl) (by kernel_rfl) (by kernel_rfl) (by kernel_rfl) (fun _ _ _ _ h => h) (by exact hHeld) (fun K hK => ?_)
  go_simp
  refine hK _ ?_
  clear hK K
  refine done_L (by kernel_rfl) ?_ _
  have R := HB7.out.trans (hHeld.mono HB7.out.size)
  clear hHeld hne l1 l7 l8 l9 m1 m7 m8 m9
  go_wp2
  go_ret
  exact ⟨rfl, R⟩
end Go.Proofs.Ytbcadklodjdokaa