/-
  Walks of VeinsPulls.
-/
import Derived.Test.YtbcadklodjdokaaWapplies
import Derived.Test.YtbcadklodjdokaaCSame
set_option maxRecDepth 20000
namespace Go.Proofs.Ytbcadklodjdokaa
open C Go.RowKit

set_option maxRecDepth 1000000 in
set_option maxHeartbeats 4000000 in
theorem veinsPulls_walk (J : WSpec) (S : Nat) (cx cz : Int) (a : Option Addr) (n cap : Nat) (from_ : Int) (w : World) (hS : S < 18446744073709551616) (hR : Runs w a n) (hfr : -9223372036854775808 ≤ from_ ∧ from_ ≤ 9223372036854775807) (hG : J.G w) :
    Calls Try.prog 5 #[.int .u64 S, .agg #[.int .i64 cx, .int .i64 cz], .slice a n cap, .int .i64 from_] w fun e w' => e = .returned (.bool true) ∧ Below w.heap.size w w' := by
  have HG : Hid (J.G w) := hG
  have HR : Hid (Runs w a n) := hR
  clear hG hR
  by_cases c0 : cx < -1073741824
  · go_enter Try.func5, Try.ntmps5
    go_wp2_with fail
    refine (awake_c J _ (J.on HG.out ((Below.refl _ _).alloc (Nat.le_refl _) _))).mono ?_
    rintro _ w1 ⟨rfl, hw1⟩
    have HB1 : Hid (Below w.heap.size w w1) := ((Below.refl _ w).alloc (Nat.le_refl _) _).trans (hw1.mono (by simp))
    have HX1 : Hid (w1.heap[w.heap.size]? = some (.cells #[.int .i64 cx, .int .i64 cz] 30 (0, 0))) := (hw1.block w.heap.size (by simp)).trans (heap_alloc_new w _)
    have k0 : w1.cell? ⟨w.heap.size, 0, none⟩ = some (.int .i64 cx) := (cell_of_row w1 w.heap.size 0 _ 30 (0, 0) HX1.out).trans rfl
    have k1 : w1.cell? ⟨w.heap.size, 1, none⟩ = some (.int .i64 cz) := (cell_of_row w1 w.heap.size 1 _ 30 (0, 0) HX1.out).trans rfl
    clear hw1
    go_wp2
    go_ret
    exact ⟨rfl, HB1.out⟩
  by_cases c1 : 1073741824 < cx
  · go_enter Try.func5, Try.ntmps5
    go_wp2_with fail
    refine (awake_c J _ (J.on HG.out ((Below.refl _ _).alloc (Nat.le_refl _) _))).mono ?_
    rintro _ w1 ⟨rfl, hw1⟩
    have HB1 : Hid (Below w.heap.size w w1) := ((Below.refl _ w).alloc (Nat.le_refl _) _).trans (hw1.mono (by simp))
    have HX1 : Hid (w1.heap[w.heap.size]? = some (.cells #[.int .i64 cx, .int .i64 cz] 30 (0, 0))) := (hw1.block w.heap.size (by simp)).trans (heap_alloc_new w _)
    have k0 : w1.cell? ⟨w.heap.size, 0, none⟩ = some (.int .i64 cx) := (cell_of_row w1 w.heap.size 0 _ 30 (0, 0) HX1.out).trans rfl
    have k1 : w1.cell? ⟨w.heap.size, 1, none⟩ = some (.int .i64 cz) := (cell_of_row w1 w.heap.size 1 _ 30 (0, 0) HX1.out).trans rfl
    clear hw1
    go_wp2
    go_ret
    exact ⟨rfl, HB1.out⟩
  by_cases c2 : cz < -1073741824
  · go_enter Try.func5, Try.ntmps5
    go_wp2_with fail
    refine (awake_c J _ (J.on HG.out ((Below.refl _ _).alloc (Nat.le_refl _) _))).mono ?_
    rintro _ w1 ⟨rfl, hw1⟩
    have HB1 : Hid (Below w.heap.size w w1) := ((Below.refl _ w).alloc (Nat.le_refl _) _).trans (hw1.mono (by simp))
    have HX1 : Hid (w1.heap[w.heap.size]? = some (.cells #[.int .i64 cx, .int .i64 cz] 30 (0, 0))) := (hw1.block w.heap.size (by simp)).trans (heap_alloc_new w _)
    have k0 : w1.cell? ⟨w.heap.size, 0, none⟩ = some (.int .i64 cx) := (cell_of_row w1 w.heap.size 0 _ 30 (0, 0) HX1.out).trans rfl
    have k1 : w1.cell? ⟨w.heap.size, 1, none⟩ = some (.int .i64 cz) := (cell_of_row w1 w.heap.size 1 _ 30 (0, 0) HX1.out).trans rfl
    clear hw1
    go_wp2
    go_ret
    exact ⟨rfl, HB1.out⟩
  by_cases c3 : 1073741824 < cz
  · go_enter Try.func5, Try.ntmps5
    go_wp2_with fail
    refine (awake_c J _ (J.on HG.out ((Below.refl _ _).alloc (Nat.le_refl _) _))).mono ?_
    rintro _ w1 ⟨rfl, hw1⟩
    have HB1 : Hid (Below w.heap.size w w1) := ((Below.refl _ w).alloc (Nat.le_refl _) _).trans (hw1.mono (by simp))
    have HX1 : Hid (w1.heap[w.heap.size]? = some (.cells #[.int .i64 cx, .int .i64 cz] 30 (0, 0))) := (hw1.block w.heap.size (by simp)).trans (heap_alloc_new w _)
    have k0 : w1.cell? ⟨w.heap.size, 0, none⟩ = some (.int .i64 cx) := (cell_of_row w1 w.heap.size 0 _ 30 (0, 0) HX1.out).trans rfl
    have k1 : w1.cell? ⟨w.heap.size, 1, none⟩ = some (.int .i64 cz) := (cell_of_row w1 w.heap.size 1 _ 30 (0, 0) HX1.out).trans rfl
    clear hw1
    go_wp2
    go_ret
    exact ⟨rfl, HB1.out⟩
  by_cases c4 : 1000 < n
  · have c4' : (1000 : Int) < (n : Int) := by omega
    go_enter Try.func5, Try.ntmps5
    go_wp2_with fail
    refine (awake_c J _ (J.on HG.out ((Below.refl _ _).alloc (Nat.le_refl _) _))).mono ?_
    rintro _ w1 ⟨rfl, hw1⟩
    have HB1 : Hid (Below w.heap.size w w1) := ((Below.refl _ w).alloc (Nat.le_refl _) _).trans (hw1.mono (by simp))
    have HX1 : Hid (w1.heap[w.heap.size]? = some (.cells #[.int .i64 cx, .int .i64 cz] 30 (0, 0))) := (hw1.block w.heap.size (by simp)).trans (heap_alloc_new w _)
    have k0 : w1.cell? ⟨w.heap.size, 0, none⟩ = some (.int .i64 cx) := (cell_of_row w1 w.heap.size 0 _ 30 (0, 0) HX1.out).trans rfl
    have k1 : w1.cell? ⟨w.heap.size, 1, none⟩ = some (.int .i64 cz) := (cell_of_row w1 w.heap.size 1 _ 30 (0, 0) HX1.out).trans rfl
    clear hw1
    go_wp2
    go_ret
    exact ⟨rfl, HB1.out⟩
  have hfx : Far 1073741824 cx := by unfold Far; omega
  have hfz : Far 1073741824 cz := by unfold Far; omega
  have hn1 : n ≤ 1000 := by omega
  have c4' : ¬ (1000 : Int) < (n : Int) := by omega
  go_enter Try.func5, Try.ntmps5
  go_wp2_with fail
  refine (awake_c J _ (J.on HG.out ((Below.refl _ _).alloc (Nat.le_refl _) _))).mono ?_
  rintro _ w1 ⟨rfl, hw1⟩
  have HB1 : Hid (Below w.heap.size w w1) := ((Below.refl _ w).alloc (Nat.le_refl _) _).trans (hw1.mono (by simp))
  have HX1 : Hid (w1.heap[w.heap.size]? = some (.cells #[.int .i64 cx, .int .i64 cz] 30 (0, 0))) := (hw1.block w.heap.size (by simp)).trans (heap_alloc_new w _)
  have k0 : w1.cell? ⟨w.heap.size, 0, none⟩ = some (.int .i64 cx) := (cell_of_row w1 w.heap.size 0 _ 30 (0, 0) HX1.out).trans rfl
  have k1 : w1.cell? ⟨w.heap.size, 1, none⟩ = some (.int .i64 cz) := (cell_of_row w1 w.heap.size 1 _ 30 (0, 0) HX1.out).trans rfl
  clear hw1
  have hcl := cells_c a n cap none 0 0 w1 (HR.out.on HB1.out) (fun k hk => absurd hk (Nat.not_lt_zero _)) hn1 (by omega)
  go_wp2_with fail
  refine hcl.mono ?_
  clear hcl k0 k1 c0 c1 c2 c3 c4 c4' 
  rintro _ w2 ⟨rfl, cs, hB2, hl, hk, hb2⟩
  have HB2 : Hid (Below w.heap.size w w2) := HB1.out.trans (hb2.mono HB1.out.size)
  have HX2 : Hid (w2.heap[w.heap.size]? = some (.cells #[.int .i64 cx, .int .i64 cz] 30 (0, 0))) := (hb2.block w.heap.size (Array.getElem?_eq_some_iff.1 HX1.out).1).trans HX1.out
  have HC : Hid (cs.length = 32768 ∧ Kinds cs) := ⟨hl, hk⟩
  have HBk2 : Hid (Blk w2 w1.heap.size 5 cs) := hB2
  have hfr := from_c (some ⟨w1.heap.size, 0, none⟩) 32768 32768 cs w2 (by have := (Blk.pre hB2).src hk; rwa [hl] at this) (by omega)
  have hmay := kinds_may hk hl
  clear hb2 HB1 HX1 hl hk hB2
  generalize w1.heap.size = bg at *
  go_wp2_with fail
  refine hfr.mono ?_
  clear hfr
  rintro _ w3 ⟨hb3, h3⟩
  rcases h3 with ⟨_, rfl, hX3⟩ | ⟨hno, _⟩
  case inr => exact absurd hmay hno
  have HB3 : Hid (Below w.heap.size w w3) := HB2.out.trans (hb3.mono HB2.out.size)
  have HX3 : Hid (w3.heap[w.heap.size]? = some (.cells #[.int .i64 cx, .int .i64 cz] 30 (0, 0))) := (hb3.block w.heap.size (Array.getElem?_eq_some_iff.1 HX2.out).1).trans HX2.out
  have HBk3 : Hid (Blk w3 bg 5 cs) := HBk2.out.below hb3 HBk2.out.lt
  have HXk3 : Hid (Blk w3 w2.heap.size 68 cs) := hX3
  clear hb3 HB2 HX2 HBk2 hX3 hmay
  generalize w2.heap.size = xg at *
  have k0 : w3.cell? ⟨w.heap.size, 0, none⟩ = some (.int .i64 cx) := (cell_of_row w3 w.heap.size 0 _ 30 (0, 0) HX3.out).trans rfl
  have k1 : w3.cell? ⟨w.heap.size, 1, none⟩ = some (.int .i64 cz) := (cell_of_row w3 w.heap.size 1 _ 30 (0, 0) HX3.out).trans rfl
  have hap := J.apply_ S cx cz xg cs w3 hS hfx hfz HXk3.out HC.out.1 HC.out.2 (J.on HG.out HB3.out)
  go_wp2_with fail
  refine hap.mono ?_
  clear hap k0 k1
  rintro _ w4 ⟨hb4, yg, rfl, hY4⟩
  have HB4 : Hid (Below w.heap.size w w4) := HB3.out.trans (hb4.mono HB3.out.size)
  have HX4 : Hid (w4.heap[w.heap.size]? = some (.cells #[.int .i64 cx, .int .i64 cz] 30 (0, 0))) := (hb4.block w.heap.size (Array.getElem?_eq_some_iff.1 HX3.out).1).trans HX3.out
  have HBk4 : Hid (Blk w4 bg 5 cs) := HBk3.out.below hb4 HBk3.out.lt
  have HXk4 : Hid (Blk w4 xg 68 cs) := HXk3.out.below hb4 HXk3.out.lt
  have HY4 : Hid (Blk w4 yg 68 (applyN S cx cz cs)) := hY4
  have HF : Hid ((applyN S cx cz cs).length = 32768 ∧ Kinds (applyN S cx cz cs)) := ⟨applyN_len _ _ _ _, apply_kinds HC.out.2⟩
  clear hb4 HB3 HX3 HBk3 HXk3 hY4
  have hat : ∀ i : Nat, i < 32768 → (applyN S cx cz cs).getD i 0 = if cs.getD i 0 = 1 ∧ oreAt S cx cz i ≠ 0 then oreAt S cx cz i else cs.getD i 0 := fun i hi => by rw [applyN_at _ _ _ _ _ hi]; rfl
  have HA : Hid (∀ i : Nat, i < 32768 → (applyN S cx cz cs).getD i 0 = if cs.getD i 0 = 1 ∧ oreAt S cx cz i ≠ 0 then oreAt S cx cz i else cs.getD i 0) := hat
  clear hat
  generalize applyN S cx cz cs = F at *
  obtain ⟨P, hP, eP, p0, p1⟩ := rem_in from_ 32768 (by omega)
  obtain ⟨f0, f1⟩ := hfr
  go_wp2_with fail
  clear eP p0 p1 f0 f1
  go_loopw [16] (fun vn wr => ∃ N : Nat, N ≤ 400 ∧ vn = .int .i64 (N : Int) ∧ Hid (wr.heap[w.heap.size]? = some (.cells #[.int .i64 cx, .int .i64 cz] 30 (0, 0))) ∧ Hid (Blk wr bg 5 cs ∧ Blk wr yg 68 F) ∧ Hid (Below w.heap.size w wr)) (fun vn _ => 400 - (intOf vn).toNat)
  case atStart => exact ⟨0, by omega, rfl, HX4, ⟨HBk4.out, HY4.out⟩, HB4⟩
  case round =>
    clear HX4 HBk4 HY4 HB4 HXk4
    obtain ⟨N, hN, rfl, HX, HBl, HB⟩ := hrel
    by_cases hlt : N < 400
    case neg =>
      have hge : ¬ (N : Int) < 400 := by omega
      have R := HB.out
      clear HX HBl
      go_wp2
      go_ret
      exact ⟨rfl, R⟩
    have hlt' : (N : Int) < 400 := by omega
    obtain ⟨i, hi⟩ : ∃ i : Nat, (P + 37 * N) % 32768 = i := ⟨_, rfl⟩
    have hil : i < 32768 := by omega
    have hi1 : Int.tmod ((P : Int) + 37 * (N : Int)) 32768 = (i : Int) := by rw [Int.tmod_eq_emod_of_nonneg (by omega)]; omega
    have hi2 : ((P : Int) + 37 * (N : Int)) % 32768 = (i : Int) := by omega
    have hp1 : (P : Int) < 32768 := by omega
    clear hi
    have k0 : wr.cell? ⟨w.heap.size, 0, none⟩ = some (.int .i64 cx) := (cell_of_row wr w.heap.size 0 _ 30 (0, 0) HX.out).trans rfl
    have k1 : wr.cell? ⟨w.heap.size, 1, none⟩ = some (.int .i64 cz) := (cell_of_row wr w.heap.size 1 _ 30 (0, 0) HX.out).trans rfl
    have hce := rcell_c cx cz (i : Int) wr hfx hfz (by omega) (by omega)
    go_wp2_with fail
    refine hce.mono ?_
    clear hce hi1 hi2 k0 k1
    rintro _ w5 ⟨rfl, hb5⟩
    have HB5 : Hid (Below w.heap.size w w5) := HB.out.trans (hb5.mono HB.out.size)
    have HX5 : Hid (w5.heap[w.heap.size]? = some (.cells #[.int .i64 cx, .int .i64 cz] 30 (0, 0))) := (hb5.block w.heap.size (Array.getElem?_eq_some_iff.1 HX.out).1).trans HX.out
    have HBl5 : Hid (Blk w5 bg 5 cs ∧ Blk w5 yg 68 F) := ⟨HBl.out.1.below hb5 HBl.out.1.lt, HBl.out.2.below hb5 HBl.out.2.lt⟩
    clear hb5 HB HX HBl
    have hof := J.of_ S (cx * 16 + (i : Int) % 16) ((i : Int) / 256) (cz * 16 + (i : Int) / 16 % 16) w5 hS (by unfold Far at *; omega) (by unfold Far at *; omega) (by unfold Far at *; omega) (J.on HG.out HB5.out)
    have Hore : Hid (oreAt S cx cz i = ofN S (cx * 16 + (i : Int) % 16) ((i : Int) / 256) (cz * 16 + (i : Int) / 16 % 16)) := rfl
    generalize ofN S (cx * 16 + (i : Int) % 16) ((i : Int) / 256) (cz * 16 + (i : Int) / 16 % 16) = k at *
    go_wp2_with fail
    refine hof.mono ?_
    clear hof
    rintro _ w6 ⟨rfl, hb6⟩
    have HB6 : Hid (Below w.heap.size w w6) := HB5.out.trans (hb6.mono HB5.out.size)
    have HX6 : Hid (w6.heap[w.heap.size]? = some (.cells #[.int .i64 cx, .int .i64 cz] 30 (0, 0))) := (hb6.block w.heap.size (Array.getElem?_eq_some_iff.1 HX5.out).1).trans HX5.out
    have HBl6 : Hid (Blk w6 bg 5 cs ∧ Blk w6 yg 68 F) := ⟨HBl5.out.1.below hb6 HBl5.out.1.lt, HBl5.out.2.below hb6 HBl5.out.2.lt⟩
    clear hb6 HB5 HX5 HBl5
    have cb := HBl6.out.1.cell (k := i) (by rw [HC.out.1]; exact hil)
    have hcb := HC.out.2.at i
    have hget := get_c yg F (i : Int) w6 HBl6.out.2 HF.out.1 HF.out.2
    have hv : getC F (i : Int) = if cs.getD i 0 = 1 ∧ k ≠ 0 then k else cs.getD i 0 := by
      unfold getC
      rw [if_pos (by omega), Int.toNat_natCast, HA.out i hil, Hore.out]
    rw [hv] at hget
    clear hv
    generalize cs.getD i 0 = b at *
    obtain ⟨b0, b1⟩ := hcb
    have hil' : (i : Int) < 32768 := by omega
    by_cases hw : b = 1 ∧ k ≠ 0
    · rw [if_pos hw] at hget
      obtain ⟨rfl, hk0⟩ := hw
      have hk0' : (k == 0) = false := by simpa using hk0
      go_wp2_with fail
      refine hget.mono ?_
      clear hget cb
      rintro _ w7 ⟨rfl, hw7⟩
      replace hw7 := hw7.symm
      subst hw7
      go_wp2
      exact ⟨⟨N + 1, by omega, by simp, HX6, HBl6, HB6⟩, by simp [intOf]; omega⟩
    · rw [if_neg hw] at hget
      by_cases hb1 : b = 1
      · have hk0 : k = 0 := by
          by_cases e : k = 0
          · exact e
          · exact absurd ⟨hb1, e⟩ hw
        subst hb1 hk0
        clear hw
        go_wp2_with fail
        refine hget.mono ?_
        clear hget cb
        rintro _ w7 ⟨rfl, hw7⟩
        replace hw7 := hw7.symm
        subst hw7
        go_wp2
        exact ⟨⟨N + 1, by omega, by simp, HX6, HBl6, HB6⟩, by simp [intOf]; omega⟩
      · have hb1' : (b == 1) = false := by simpa using hb1
        clear hw
        go_wp2_with fail
        refine hget.mono ?_
        clear hget cb
        rintro _ w7 ⟨rfl, hw7⟩
        replace hw7 := hw7.symm
        subst hw7
        go_wp2
        exact ⟨⟨N + 1, by omega, by simp, HX6, HBl6, HB6⟩, by simp [intOf]; omega⟩
end Go.Proofs.Ytbcadklodjdokaa