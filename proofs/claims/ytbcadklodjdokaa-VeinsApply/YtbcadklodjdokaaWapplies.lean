/-
  Walks of VeinsApply.
-/
import Derived.Test.YtbcadklodjdokaaWheld
import Derived.Test.YtbcadklodjdokaaCSame
set_option maxRecDepth 20000
namespace Go.Proofs.Ytbcadklodjdokaa
open C Go.RowKit

theorem kinds_bad {cs : List Int} (h : Kinds cs) : ∀ n, badTo cs n = false
  | 0 => rfl
  | n + 1 => by
    unfold badTo
    rw [kinds_bad h n, decide_eq_false (by have := h.at n; omega)]
    rfl
theorem cell_below {w w' : World} {p : Addr} {v : Value} (h : w.cell? p = some v) (hb : Below w.heap.size w w') : w'.cell? p = some v := Since.cell h ⟨w', hb⟩
theorem kinds_may {cs : List Int} (h : Kinds cs) (hl : cs.length = 32768) : mayC cs = 0 := by
  unfold mayC
  rw [hl, if_neg (by omega), if_neg (by omega), kinds_bad h]
  rfl
theorem Blk.conv2 {w : World} {g : Nat} {t : TypeId} {cs : List Int} (h : Blk w g t cs) (hl : cs.length = 32768) (hk : Kinds cs) : (convert 33 9 (.slice (some ⟨g, 0, none⟩) 32768 32768)).run Try.prog w = .ok (.string (strOfNums cs)) w := (Blk.pre h).conv hl hk
set_option maxRecDepth 1000000 in
set_option maxHeartbeats 4000000 in
theorem veinsApply_walk (J : WSpec) (S : Nat) (cx cz : Int) (a : Option Addr) (n cap : Nat) (s : Option Addr) (ns caps : Nat) (w : World) (hS : S < 18446744073709551616) (hR : Runs w a n) (hI : Nums w s ns) (hG : J.G w) :
    Calls Try.prog 4 #[.int .u64 S, .agg #[.int .i64 cx, .int .i64 cz], .slice a n cap, .slice s ns caps] w fun e w' => e = .returned (.bool true) ∧ Below w.heap.size w w' := by
  have HG : Hid (J.G w) := hG
  have HR : Hid (Runs w a n) := hR
  clear hG hR
  have HI : Hid (Nums w s ns) := hI
  clear hI
  by_cases c0 : cx < -1073741824
  · go_enter Try.func4, Try.ntmps4
    go_wp2_with fail
    refine (awake_c J _ (J.on HG.out ((Below.refl _ _).alloc (Nat.le_refl _) _))).mono ?_
    rintro _ w1 ⟨rfl, hw1⟩
    have HB1 : Hid (Below w.heap.size w w1) := ((Below.refl _ w).alloc (Nat.le_refl _) _).trans (hw1.mono (by simp))
    have HX1 : Hid (w1.heap[w.heap.size]? = some (.cells #[.int .i64 cx, .int .i64 cz] 30 (0, 0))) := (hw1.block w.heap.size (by simp)).trans (heap_alloc_new w _)
    have k0 : w1.cell? ⟨w.heap.size, 0, none⟩ = some (.int .i64 cx) := (cell_of_row w1 w.heap.size 0 _ 30 (0, 0) HX1.out).trans rfl
    have k1 : w1.cell? ⟨w.heap.size, 1, none⟩ = some (.int .i64 cz) := (cell_of_row w1 w.heap.size 1 _ 30 (0, 0) HX1.out).trans rfl
    clear hw1
    go_wp2
    go_ret
    exact ⟨rfl, HB1.out⟩
  by_cases c1 : 1073741824 < cx
  · go_enter Try.func4, Try.ntmps4
    go_wp2_with fail
    refine (awake_c J _ (J.on HG.out ((Below.refl _ _).alloc (Nat.le_refl _) _))).mono ?_
    rintro _ w1 ⟨rfl, hw1⟩
    have HB1 : Hid (Below w.heap.size w w1) := ((Below.refl _ w).alloc (Nat.le_refl _) _).trans (hw1.mono (by simp))
    have HX1 : Hid (w1.heap[w.heap.size]? = some (.cells #[.int .i64 cx, .int .i64 cz] 30 (0, 0))) := (hw1.block w.heap.size (by simp)).trans (heap_alloc_new w _)
    have k0 : w1.cell? ⟨w.heap.size, 0, none⟩ = some (.int .i64 cx) := (cell_of_row w1 w.heap.size 0 _ 30 (0, 0) HX1.out).trans rfl
    have k1 : w1.cell? ⟨w.heap.size, 1, none⟩ = some (.int .i64 cz) := (cell_of_row w1 w.heap.size 1 _ 30 (0, 0) HX1.out).trans rfl
    clear hw1
    go_wp2
    go_ret
    exact ⟨rfl, HB1.out⟩
  by_cases c2 : cz < -1073741824
  · go_enter Try.func4, Try.ntmps4
    go_wp2_with fail
    refine (awake_c J _ (J.on HG.out ((Below.refl _ _).alloc (Nat.le_refl _) _))).mono ?_
    rintro _ w1 ⟨rfl, hw1⟩
    have HB1 : Hid (Below w.heap.size w w1) := ((Below.refl _ w).alloc (Nat.le_refl _) _).trans (hw1.mono (by simp))
    have HX1 : Hid (w1.heap[w.heap.size]? = some (.cells #[.int .i64 cx, .int .i64 cz] 30 (0, 0))) := (hw1.block w.heap.size (by simp)).trans (heap_alloc_new w _)
    have k0 : w1.cell? ⟨w.heap.size, 0, none⟩ = some (.int .i64 cx) := (cell_of_row w1 w.heap.size 0 _ 30 (0, 0) HX1.out).trans rfl
    have k1 : w1.cell? ⟨w.heap.size, 1, none⟩ = some (.int .i64 cz) := (cell_of_row w1 w.heap.size 1 _ 30 (0, 0) HX1.out).trans rfl
    clear hw1
    go_wp2
    go_ret
    exact ⟨rfl, HB1.out⟩
  by_cases c3 : 1073741824 < cz
  · go_enter Try.func4, Try.ntmps4
    go_wp2_with fail
    refine (awake_c J _ (J.on HG.out ((Below.refl _ _).alloc (Nat.le_refl _) _))).mono ?_
    rintro _ w1 ⟨rfl, hw1⟩
    have HB1 : Hid (Below w.heap.size w w1) := ((Below.refl _ w).alloc (Nat.le_refl _) _).trans (hw1.mono (by simp))
    have HX1 : Hid (w1.heap[w.heap.size]? = some (.cells #[.int .i64 cx, .int .i64 cz] 30 (0, 0))) := (hw1.block w.heap.size (by simp)).trans (heap_alloc_new w _)
    have k0 : w1.cell? ⟨w.heap.size, 0, none⟩ = some (.int .i64 cx) := (cell_of_row w1 w.heap.size 0 _ 30 (0, 0) HX1.out).trans rfl
    have k1 : w1.cell? ⟨w.heap.size, 1, none⟩ = some (.int .i64 cz) := (cell_of_row w1 w.heap.size 1 _ 30 (0, 0) HX1.out).trans rfl
    clear hw1
    go_wp2
    go_ret
    exact ⟨rfl, HB1.out⟩
  by_cases c4 : 1000 < n
  · have c4' : (1000 : Int) < (n : Int) := by omega
    go_enter Try.func4, Try.ntmps4
    go_wp2_with fail
    refine (awake_c J _ (J.on HG.out ((Below.refl _ _).alloc (Nat.le_refl _) _))).mono ?_
    rintro _ w1 ⟨rfl, hw1⟩
    have HB1 : Hid (Below w.heap.size w w1) := ((Below.refl _ w).alloc (Nat.le_refl _) _).trans (hw1.mono (by simp))
    have HX1 : Hid (w1.heap[w.heap.size]? = some (.cells #[.int .i64 cx, .int .i64 cz] 30 (0, 0))) := (hw1.block w.heap.size (by simp)).trans (heap_alloc_new w _)
    have k0 : w1.cell? ⟨w.heap.size, 0, none⟩ = some (.int .i64 cx) := (cell_of_row w1 w.heap.size 0 _ 30 (0, 0) HX1.out).trans rfl
    have k1 : w1.cell? ⟨w.heap.size, 1, none⟩ = some (.int .i64 cz) := (cell_of_row w1 w.heap.size 1 _ 30 (0, 0) HX1.out).trans rfl
    clear hw1
    go_wp2
    go_ret
    exact ⟨rfl, HB1.out⟩
  by_cases c5 : 10000 < ns
  · have c4' : ¬ (1000 : Int) < (n : Int) := by omega
    have c5' : (10000 : Int) < (ns : Int) := by omega
    go_enter Try.func4, Try.ntmps4
    go_wp2_with fail
    refine (awake_c J _ (J.on HG.out ((Below.refl _ _).alloc (Nat.le_refl _) _))).mono ?_
    rintro _ w1 ⟨rfl, hw1⟩
    have HB1 : Hid (Below w.heap.size w w1) := ((Below.refl _ w).alloc (Nat.le_refl _) _).trans (hw1.mono (by simp))
    have HX1 : Hid (w1.heap[w.heap.size]? = some (.cells #[.int .i64 cx, .int .i64 cz] 30 (0, 0))) := (hw1.block w.heap.size (by simp)).trans (heap_alloc_new w _)
    have k0 : w1.cell? ⟨w.heap.size, 0, none⟩ = some (.int .i64 cx) := (cell_of_row w1 w.heap.size 0 _ 30 (0, 0) HX1.out).trans rfl
    have k1 : w1.cell? ⟨w.heap.size, 1, none⟩ = some (.int .i64 cz) := (cell_of_row w1 w.heap.size 1 _ 30 (0, 0) HX1.out).trans rfl
    clear hw1
    go_wp2
    go_ret
    exact ⟨rfl, HB1.out⟩
  have hfx : Far 1073741824 cx := by unfold Far; omega
  have hfz : Far 1073741824 cz := by unfold Far; omega
  have hn1 : n ≤ 1000 := by omega
  have c4' : ¬ (1000 : Int) < (n : Int) := by omega
  have hn2 : ns ≤ 10000 := by omega
  have c5' : ¬ (10000 : Int) < (ns : Int) := by omega
  go_enter Try.func4, Try.ntmps4
  go_wp2_with fail
  refine (awake_c J _ (J.on HG.out ((Below.refl _ _).alloc (Nat.le_refl _) _))).mono ?_
  rintro _ w1 ⟨rfl, hw1⟩
  have HB1 : Hid (Below w.heap.size w w1) := ((Below.refl _ w).alloc (Nat.le_refl _) _).trans (hw1.mono (by simp))
  have HX1 : Hid (w1.heap[w.heap.size]? = some (.cells #[.int .i64 cx, .int .i64 cz] 30 (0, 0))) := (hw1.block w.heap.size (by simp)).trans (heap_alloc_new w _)
  have k0 : w1.cell? ⟨w.heap.size, 0, none⟩ = some (.int .i64 cx) := (cell_of_row w1 w.heap.size 0 _ 30 (0, 0) HX1.out).trans rfl
  have k1 : w1.cell? ⟨w.heap.size, 1, none⟩ = some (.int .i64 cz) := (cell_of_row w1 w.heap.size 1 _ 30 (0, 0) HX1.out).trans rfl
  clear hw1
  have hcl := cells_c a n cap s ns caps w1 (HR.out.on HB1.out) (HI.out.on HB1.out) hn1 hn2
  go_wp2_with fail
  refine hcl.mono ?_
  clear hcl k0 k1 c0 c1 c2 c3 c4 c4' c5 c5' 
  rintro _ w2 ⟨rfl, cs, hB2, hl, hk, hb2⟩
  have HB2 : Hid (Below w.heap.size w w2) := HB1.out.trans (hb2.mono HB1.out.size)
  have HX2 : Hid (w2.heap[w.heap.size]? = some (.cells #[.int .i64 cx, .int .i64 cz] 30 (0, 0))) := (hb2.block w.heap.size (Array.getElem?_eq_some_iff.1 HX1.out).1).trans HX1.out
  have HC : Hid (cs.length = 32768 ∧ Kinds cs) := ⟨hl, hk⟩
  have HBk2 : Hid (Blk w2 w1.heap.size 5 cs) := hB2
  have hfr := from_c (some ⟨w1.heap.size, 0, none⟩) 32768 32768 cs w2 (by have := (Blk.pre hB2).src hk; rwa [hl] at this) (by omega)
  have hmay := kinds_may hk hl
  clear hb2 HB1 HX1 hl hk hB2
  generalize w1.heap.size = bg at *
  go_wp2_with fail
  refine hfr.mono ?_
  clear hfr
  rintro _ w3 ⟨hb3, h3⟩
  rcases h3 with ⟨_, rfl, hX3⟩ | ⟨hno, _⟩
  case inr => exact absurd hmay hno
  have HB3 : Hid (Below w.heap.size w w3) := HB2.out.trans (hb3.mono HB2.out.size)
  have HX3 : Hid (w3.heap[w.heap.size]? = some (.cells #[.int .i64 cx, .int .i64 cz] 30 (0, 0))) := (hb3.block w.heap.size (Array.getElem?_eq_some_iff.1 HX2.out).1).trans HX2.out
  have HBk3 : Hid (Blk w3 bg 5 cs) := HBk2.out.below hb3 HBk2.out.lt
  have HXk3 : Hid (Blk w3 w2.heap.size 68 cs) := hX3
  clear hb3 HB2 HX2 HBk2 hX3 hmay
  generalize w2.heap.size = xg at *
  have k0 : w3.cell? ⟨w.heap.size, 0, none⟩ = some (.int .i64 cx) := (cell_of_row w3 w.heap.size 0 _ 30 (0, 0) HX3.out).trans rfl
  have k1 : w3.cell? ⟨w.heap.size, 1, none⟩ = some (.int .i64 cz) := (cell_of_row w3 w.heap.size 1 _ 30 (0, 0) HX3.out).trans rfl
  have hap := J.apply_ S cx cz xg cs w3 hS hfx hfz HXk3.out HC.out.1 HC.out.2 (J.on HG.out HB3.out)
  go_wp2_with fail
  refine hap.mono ?_
  clear hap k0 k1
  rintro _ w4 ⟨hb4, yg, rfl, hY4⟩
  have HB4 : Hid (Below w.heap.size w w4) := HB3.out.trans (hb4.mono HB3.out.size)
  have HX4 : Hid (w4.heap[w.heap.size]? = some (.cells #[.int .i64 cx, .int .i64 cz] 30 (0, 0))) := (hb4.block w.heap.size (Array.getElem?_eq_some_iff.1 HX3.out).1).trans HX3.out
  have HBk4 : Hid (Blk w4 bg 5 cs) := HBk3.out.below hb4 HBk3.out.lt
  have HXk4 : Hid (Blk w4 xg 68 cs) := HXk3.out.below hb4 HXk3.out.lt
  have HY4 : Hid (Blk w4 yg 68 (applyN S cx cz cs)) := hY4
  have HF : Hid ((applyN S cx cz cs).length = 32768 ∧ Kinds (applyN S cx cz cs)) := ⟨applyN_len _ _ _ _, apply_kinds HC.out.2⟩
  clear hb4 HB3 HX3 HBk3 HXk3 hY4
  have hra := fun w' (hb : Below w4.heap.size w4 w') => rapply_c S cx cz bg 32768 cs w' hS hfx hfz (Blk.pre (HBk4.out.below hb HBk4.out.lt)) HC.out.1 HC.out.2
  have Hra : Hid (∀ w', Below w4.heap.size w4 w' → Calls Try.prog 15 #[.int .u64 S, .agg #[.int .i64 cx, .int .i64 cz], .slice (some ⟨bg, 0, none⟩) 32768 32768] w' (RapSay S cx cz cs w')) := hra
  have HRs : Hid (∀ w e w', RapSay S cx cz cs w e w' → Below w.heap.size w w' ∧ ∃ og oc, e = .returned (.slice (some ⟨og, 0, none⟩) 32768 oc) ∧ Pre w' og 5 (applyN S cx cz cs)) := fun w e w' h => h
  clear hra
  generalize applyN S cx cz cs = F at *
  obtain ⟨XF, hXF⟩ : ∃ X, X = strOfNums F := ⟨_, rfl⟩
  have HXF : Hid (XF = strOfNums F) := hXF
  obtain ⟨XC, hXC⟩ : ∃ X, X = strOfNums cs := ⟨_, rfl⟩
  have HXC : Hid (XC = strOfNums cs) := hXC
  clear hXF hXC
  go_wp2_with fail
  refine region_L (fun w' => Below w4.heap.size w4 w') 26 (by kernel_rfl) ?_
  have hHeld : Below w4.heap.size w4 w4.drew := (Below.refl _ _).drew
  generalize w4.drew = va at *
  have hne : Nonempty (Sub (fun w' => Below w4.heap.size w4 w')) := ⟨⟨_, hHeld⟩⟩
  have k0 : ∀ s : Sub (fun w' => Below w4.heap.size w4 w'), s.w.cell? ⟨w.heap.size, 0, none⟩ = some (.int .i64 cx) := fun s => cell_below ((cell_of_row w4 w.heap.size 0 _ 30 (0, 0) HX4.out).trans rfl) s.ok
  have k1 : ∀ s : Sub (fun w' => Below w4.heap.size w4 w'), s.w.cell? ⟨w.heap.size, 1, none⟩ = some (.int .i64 cz) := fun s => cell_below ((cell_of_row w4 w.heap.size 1 _ 30 (0, 0) HX4.out).trans rfl) s.ok
  refine take_L (i := 0) rfl (by kernel_rfl) (by kernel_rfl) (by kernel_rfl) (by kernel_rfl) (fun _ _ _ _ h => h) (by exact hHeld) (fun K hK => ?_)
  go_simp
  refine hK _ ?_
  clear hK K
  refine take_L (i := 1) rfl (by kernel_rfl) (by kernel_rfl) (by kernel_rfl) (by kernel_rfl) (fun _ _ _ _ h => h) (by exact hHeld) (fun K hK => ?_)
  go_simp
  refine hK _ ?_
  clear hK K
  refine take_L (i := 2) rfl (by kernel_rfl) (by kernel_rfl) (by kernel_rfl) (by kernel_rfl) (fun _ _ _ _ h => h) (by exact hHeld) (fun K hK => ?_)
  go_simp
  refine hK _ ?_
  clear hK K
  refine take_L (i := 3) rfl (by kernel_rfl) (by kernel_rfl) (by kernel_rfl) (by kernel_rfl) (fun _ _ _ _ h => h) (by exact hHeld) (fun K hK => ?_)
  go_simp
  refine hK _ ?_
  clear hK K
  refine take_L (i := 4) rfl (by kernel_rfl) (by kernel_rfl) (by kernel_rfl) (by kernel_rfl) (fun _ _ _ _ h => h) (by exact hHeld) (fun K hK => ?_)
  go_simp
  refine hK _ ?_
  clear hK K
  refine take_L (i := 5) rfl (by kernel_rfl) (by kernel_rfl) (by kernel_rfl) (by kernel_rfl) (fun _ _ _ _ h => h) (by exact hHeld) (fun K hK => ?_)
  go_simp
  refine hK _ ?_
  clear hK K
  refine take_L (i := 6) rfl (by kernel_rfl) (by kernel_rfl) (by kernel_rfl) (by kernel_rfl) (fun _ _ _ _ h => h) (by exact hHeld) (fun K hK => ?_)
  go_simp
  refine hK _ ?_
  clear hK K
  refine take_L (i := 7) rfl (by kernel_rfl) (by kernel_rfl) (by kernel_rfl) (by kernel_rfl) (fun _ _ _ _ h => h) (by exact hHeld) (fun K hK => ?_)
  go_simp
  refine hK _ ?_
  clear hK K
  refine take_L (i := 10) rfl (by kernel_rfl) (by kernel_rfl) (by kernel_rfl) (by kernel_rfl) (fun _ _ _ _ h => h) (by exact hHeld) (fun K hK => ?_)
  go_simp
  refine hK _ ?_
  clear hK K
  refine take_L (i := 11) rfl (by kernel_rfl) (by kernel_rfl) (by kernel_rfl) (by kernel_rfl) (fun _ _ _ _ h => h) (by exact hHeld) (fun K hK => ?_)
  go_simp
  refine hK _ ?_
  clear hK K
  refine take_L (i := 12) rfl (by kernel_rfl) (by kernel_rfl) (by kernel_rfl) (by kernel_rfl) (fun _ _ _ _ h => h) (by exact hHeld) (fun K hK => ?_)
  go_simp
  refine hK _ ?_
  clear hK K
  clear k0 k1 hne
  refine one_L (i := 8) (by kernel_rfl) rfl (fun K hK => ?_)
  go_simp
  refine (bytes_c yg F va (HY4.out.below hHeld HY4.out.lt) HF.out.1).mono ?_
  rintro _ w6 ⟨rfl, hB6, hb6⟩
  replace hHeld : Below w4.heap.size w4 w6 := hHeld.trans (hb6.mono hHeld.size)
  refine hK.out _ _ (fun _ => hHeld) ?_
  clear hK K hb6
  generalize va.heap.size = g6 at *
  refine wpAnyL_strong (S' := fun w' => Below w6.heap.size w6 w') (fun w' h => hHeld.trans (h.mono hHeld.size)) _ _ _ _ ?_
  have HH6 : Hid (Below w4.heap.size w4 w6) := hHeld
  replace hHeld : Below w6.heap.size w6 w6 := Below.refl _ _
  have hne : Nonempty (Sub (fun w' => Below w6.heap.size w6 w')) := ⟨⟨_, hHeld⟩⟩
  have v6 : ∀ s : Sub (fun w' => Below w6.heap.size w6 w'), (convert 33 9 (.slice (some ⟨g6, 0, none⟩) 32768 32768)).run Try.prog s.w = .ok (.string XF) s.w := fun s => by rw [HXF.out]; exact Blk.conv2 (hB6.below s.ok hB6.lt) HF.out.1 HF.out.2
  clear hB6
  refine take_L (i := 9) rfl (by kernel_rfl) (by kernel_rfl) (by kernel_rfl) (by kernel_rfl) (fun _ _ _ _ h => h) (by exact hHeld) (fun K hK => ?_)
  go_simp
  refine hK _ ?_
  clear hK K
  clear v6 hne
  refine one_L (i := 13) (by kernel_rfl) rfl (fun K hK => ?_)
  go_simp
  refine (Hra.out w6 HH6.out).mono ?_
  rintro _ w7 hsay
  obtain ⟨hb7, og, oc, rfl, hP7⟩ := HRs.out _ _ _ hsay
  clear hsay
  refine hK.out _ _ (fun _ => hb7) ?_
  clear hK K
  refine wpAnyL_strong (S' := fun w' => Below w7.heap.size w7 w') (fun w' h => hb7.trans (h.mono hb7.size)) _ _ _ _ ?_
  have HH7 : Hid (Below w4.heap.size w4 w7) := HH6.out.trans (hb7.mono HH6.out.size)
  replace hHeld : Below w7.heap.size w7 w7 := Below.refl _ _
  have hne : Nonempty (Sub (fun w' => Below w7.heap.size w7 w')) := ⟨⟨_, hHeld⟩⟩
  have v7 : ∀ s : Sub (fun w' => Below w7.heap.size w7 w'), (convert 33 9 (.slice (some ⟨og, 0, none⟩) 32768 oc)).run Try.prog s.w = .ok (.string XF) s.w := fun s => by rw [HXF.out]; exact Pre.conv (hP7.below s.ok hP7.lt) HF.out.1 HF.out.2
  have v8 : ∀ s : Sub (fun w' => Below w7.heap.size w7 w'), (convert 33 9 (.slice (some ⟨bg, 0, none⟩) 32768 32768)).run Try.prog s.w = .ok (.string XC) s.w := fun s => by
    rw [HXC.out]
    have hb : Blk w7 bg 5 cs := HBk4.out.below HH7.out HBk4.out.lt
    exact Blk.conv2 (hb.below s.ok hb.lt) HC.out.1 HC.out.2
  clear hP7 hb7 HH6
  refine take_L (i := 14) rfl (by kernel_rfl) (by kernel_rfl) (by kernel_rfl) (by kernel_rfl) (fun _ _ _ _ h => h) (by exact hHeld) (fun K hK => ?_)
  go_simp
  refine hK _ ?_
  clear hK K
  refine take_L (i := 15) rfl (by kernel_rfl) (by kernel_rfl) (by kernel_rfl) (by kernel_rfl) (fun _ _ _ _ h => h) (by exact hHeld) (fun K hK => ?_)
  go_simp
  refine hK _ ?_
  clear hK K
  refine take_L (i := 16) rfl (by kernel_rfl) (by kernel_rfl) (by kernel_rfl) (by kernel_rfl) (fun _ _ _ _ h => h) (by exact hHeld) (fun K hK => ?_)
  go_simp
  refine hK _ ?_
  clear hK K
  refine take_L (i := 17) rfl (by kernel_rfl) (by kernel_rfl) (by kernel_rfl) (by kernel_rfl) (fun _ _ _ _ h => h) (by exact hHeld) (fun K hK => ?_)
  go_simp
  refine hK _ ?_
  clear hK K
  refine take_L (i := 18) rfl (by kernel_rfl) (by kernel_rfl) (by kernel_rfl) (by kernel_rfl) (fun _ _ _ _ h => h) (by exact hHeld) (fun K hK => ?_)
  go_simp
  refine hK _ ?_
  clear hK K
  refine take_L (i := 21) rfl (by kernel_rfl) (by kernel_rfl) (by kernel_rfl) (by kernel_rfl) (fun _ _ _ _ h => h) (by exact hHeld) (fun K hK => ?_)
  go_simp
  refine hK _ ?_
  clear hK K
  refine take_L (i := 22) rfl (by kernel_rfl) (by kernel_rfl) (by kernel_rfl) (by kernel_rfl) (fun _ _ _ _ h => h) (by exact hHeld) (fun K hK => ?_)
  go_simp
  refine hK _ ?_
  clear hK K
  clear v7 v8 hne
  refine one_L (i := 19) (by kernel_rfl) rfl (fun K hK => ?_)
  go_simp
  refine (bytes_c xg cs w7 (HXk4.out.below HH7.out HXk4.out.lt) HC.out.1).mono ?_
  rintro _ w8 ⟨rfl, hB8, hb8⟩
  refine hK.out _ _ (fun _ => hb8) ?_
  clear hK K
  refine wpAnyL_strong (S' := fun w' => Below w8.heap.size w8 w') (fun w' h => hb8.trans (h.mono hb8.size)) _ _ _ _ ?_
  have HH8 : Hid (Below w4.heap.size w4 w8) := HH7.out.trans (hb8.mono HH7.out.size)
  generalize w7.heap.size = g8 at *
  replace hHeld : Below w8.heap.size w8 w8 := Below.refl _ _
  have hne : Nonempty (Sub (fun w' => Below w8.heap.size w8 w')) := ⟨⟨_, hHeld⟩⟩
  have v9 : ∀ s : Sub (fun w' => Below w8.heap.size w8 w'), (convert 33 9 (.slice (some ⟨g8, 0, none⟩) 32768 32768)).run Try.prog s.w = .ok (.string XC) s.w := fun s => by rw [HXC.out]; exact Blk.conv2 (hB8.below s.ok hB8.lt) HC.out.1 HC.out.2
  clear hB8 hb8
  refine take_L (i := 20) rfl (by kernel_rfl) (by kernel_rfl) (by kernel_rfl) (by kernel_rfl) (fun _ _ _ _ h => h) (by exact hHeld) (fun K hK => ?_)
  go_simp
  refine hK _ ?_
  clear hK K
  refine take_L (i := 23) rfl (by kernel_rfl) (by kernel_rfl) (by kernel_rfl) (by kernel_rfl) (fun _ _ _ _ h => h) (by exact hHeld) (fun K hK => ?_)
  go_simp
  refine hK _ ?_
  clear hK K
  refine take_L (i := 24) rfl (by kernel_rfl) (by kernel_rfl) (by kernel_rfl) (by kernel_rfl) (fun _ _ _ _ h => h) (by exact hHeld) (fun K hK => ?_)
  go_simp
  refine hK _ ?_
  clear hK K
  refine take_L (i := 25) rfl (by kernel_rfl) (by kernel_rfl) (by kernel_rfl) (by kernel_rfl) (fun _ _ _ _ h => h) (by exact hHeld) (fun K hK => ?_)
  go_simp
  refine hK _ ?_
  clear hK K
  refine done_L (by kernel_rfl) ?_ _
  have R := HB4.out.trans (HH8.out.mono HB4.out.size)
  clear v9 hne hHeld
  go_wp2
  go_ret
  exact ⟨rfl, R⟩
end Go.Proofs.Ytbcadklodjdokaa