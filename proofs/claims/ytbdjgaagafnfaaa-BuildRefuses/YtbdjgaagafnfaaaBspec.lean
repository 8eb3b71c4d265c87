/-
  What is asked of a build package, as a structure: the laws are walked over it. The chapter's example.
-/
import Derived.Test.YtbdjgaagafnfaaaBmap
import Derived.Test.YtbdjgaagafnfaaaBapply
import Derived.Test.YtbdjgaagafnfaaaCGiven
set_option maxRecDepth 20000
namespace Go.Proofs.Ytbdjgaagafnfaaa
open C Go.RowKit

/-! ### what is asked -/
structure BSpec where
  G : World → Prop
  on : ∀ {w w' : World}, G w → Below w.heap.size w w' → G w'
  apply_ : ∀ (S : Nat) (cx cz : Int) (g : Nat) (cs : List Int) (a a' : Option Addr) (c c' : Nat) (hs bs : List (List Int)) (w : World), S < 18446744073709551616 → Far 1073741825 cx → Far 1073741825 cz → Blk w g 74 cs → cs.length = 32768 → Kinds cs → Rows2 w a hs → Rows2 w a' bs → okG 128 hs → okG 4 bs → G w →
    Calls Try.prog 8 #[.int .u64 S, .agg #[.int .i64 cx, .int .i64 cz], .pointer (some ⟨g, 0, none⟩), .slice a 9 c, .slice a' 9 c'] w fun e w' => Below w.heap.size w w' ∧ ∃ g', e = .returned (.tuple #[.pointer (some ⟨g', 0, none⟩), .int .i64 0]) ∧ Blk w' g' 74 (buildN S cx cz hs bs cs)
  no_ : ∀ (S : Nat) (cx cz : Int) (xp : Option Nat) (a a' : Option Addr) (n n' c c' : Nat) (hs bs : List (List Int)) (w : World), S < 18446744073709551616 → Far 1073741825 cx → Far 1073741825 cz → (∀ g, xp = some g → ∃ cs, Blk w g 74 cs ∧ cs.length = 32768 ∧ Kinds cs) → Rows2 w a hs → Rows2 w a' bs → hs.length = n → bs.length = n' → n ≤ 100 → n' ≤ 100 → (∀ i, i < n → (hs.getD i []).length ≤ 256) → (∀ i, i < n' → (bs.getD i []).length ≤ 256) → (xp = none ∨ ¬ okG 128 hs ∨ ¬ okG 4 bs) → G w →
    Calls Try.prog 8 #[.int .u64 S, .agg #[.int .i64 cx, .int .i64 cz], .pointer (xp.map fun g => ⟨g, 0, none⟩), .slice a n c, .slice a' n' c'] w fun e w' => e = .returned (.tuple #[.pointer none, .int .i64 1]) ∧ Below w.heap.size w w'

/-! ### plain -/
def bAir (i : Int) : List Int := buildN 1 i 0 (flatN 60) (flatN 1) (List.replicate 32768 0)
theorem rep_getD (m j : Nat) (k : Int) (h : j < m) : (List.replicate m k).getD j 0 = k := by
  rw [List.getD_eq_getElem?_getD, List.getElem?_replicate_of_lt h]
  rfl
theorem zero_kinds : Kinds (List.replicate 32768 (0 : Int)) := fun x hx => by rw [List.eq_of_mem_replicate hx]; omega
theorem bAir_len (i : Int) : (bAir i).length = 32768 := buildN_len _ _ _ _ _ _
theorem bAir_kinds (i : Int) : Kinds (bAir i) := build_kinds zero_kinds
theorem ex_log : pickT (2 * 16 + 14) 61 (0 * 16 + 7) 0 (things 1 2 0 (flatN 60) (flatN 1)) = 10 := by decide +kernel
theorem ex_leaves : pickT (2 * 16 + 15) 64 (0 * 16 + 2) 0 (things 1 2 0 (flatN 60) (flatN 1)) = 11 := by decide +kernel
theorem cnt_pos (cs : List Int) (j : Int) (n : Nat) : 0 ≤ cnt cs j n := by
  induction n with
  | zero => exact Int.le_refl _
  | succ n ih => unfold cnt; split <;> omega
theorem cnt_some (cs : List Int) (j : Int) {k n : Nat} (h : k < n) (hk : cs.getD k 0 = j) : 0 < cnt cs j n := by
  induction n with
  | zero => omega
  | succ n ih =>
    unfold cnt
    have := cnt_pos cs j n
    by_cases e : k = n
    · subst e; rw [if_pos hk]; omega
    · have := ih (by omega); split <;> omega
theorem bAir_log : 0 < (cntTo (bAir 2) 32768).getD 10 0 := by
  rw [cntTo_cnt _ (bAir_kinds 2) 10 (by omega)]
  refine cnt_some _ _ (k := 15742) (by omega) ?_
  unfold bAir
  rw [buildN_at _ _ _ _ _ _ _ (by omega)]
  unfold buildAt
  rw [rep_getD _ _ _ (by omega)]
  exact ex_log
theorem bAir_leaves : 0 < (cntTo (bAir 2) 32768).getD 11 0 := by
  rw [cntTo_cnt _ (bAir_kinds 2) 11 (by omega)]
  refine cnt_some _ _ (k := 16431) (by omega) ?_
  unfold bAir
  rw [buildN_at _ _ _ _ _ _ _ (by omega)]
  unfold buildAt
  rw [rep_getD _ _ _ (by omega)]
  exact ex_leaves
theorem cntTo_bd (cs : List Int) (j : Nat) (hj : j < 17) : 0 ≤ (cntTo cs 32768).getD j 0 ∧ (cntTo cs 32768).getD j 0 ≤ 32768 := by
  have := cntTo_at cs 32768 j hj
  omega
/-! ### the chapter's example -/
set_option maxRecDepth 100000 in
set_option maxHeartbeats 2000000 in
theorem awake_c (J : BSpec) (w : World) (hG : J.G w) : Calls Try.prog 7 #[] w fun e w' => e = .returned (.bool true) ∧ Below w.heap.size w w' := by
  have HG : Hid (J.G w) := hG
  clear hG
  go_enter Try.func7, Try.ntmps7
  go_wp2
  go_loopw [1, 2] (fun vt vi wr => ∃ (i t : Nat), vt = .int .i64 (t : Int) ∧ vi = .int .i64 (i : Int) ∧ i ≤ 4 ∧ t ≤ i ∧ Hid ((3 ≤ i → 1 ≤ t) ∧ Below w.heap.size w wr)) (fun _ vi _ => 4 - (intOf vi).toNat)
  case atStart => exact ⟨0, 0, rfl, rfl, by omega, by omega, fun h => by omega, Below.refl _ _⟩
  case round =>
    obtain ⟨i, t, rfl, rfl, hi, ht, HM⟩ := hrel
    by_cases hlt : i < 4
    case neg =>
      have hge : ¬ (i : Int) < 4 := by omega
      have ht1 : (0 : Int) < (t : Int) := by have := HM.out.1 (by omega); omega
      have HB : Hid (Below w.heap.size w wr) := HM.out.2
      clear HM
      have hf := flat_c 60 wr
      go_wp2_with fail
      refine hf.mono ?_
      clear hf
      rintro _ w1 ⟨hb1, b1, cp1, g1, c1, rfl, hL1⟩
      have HL1 : Hid (L9 w1 b1 g1 c1 (flatN 60) ∧ Below w.heap.size w w1) := ⟨hL1, HB.out.trans (hb1.mono HB.out.size)⟩
      clear hb1 hL1 HB
      have hf := flat_c 0 w1
      go_wp2_with fail
      refine hf.mono ?_
      clear hf
      rintro _ w2 ⟨hb2, b2, cp2, g2, c2, rfl, hL2⟩
      have HB2 : Hid (Below w.heap.size w w2) := HL1.out.2.trans (hb2.mono HL1.out.2.size)
      have hno := J.no_ 1 0 0 none (some ⟨b1, 0, none⟩) (some ⟨b2, 0, none⟩) 9 9 cp1 cp2 (flatN 60) (flatN 0) w2 (by omega) (by unfold Far; omega) (by unfold Far; omega) (fun g h => by cases h) (HL1.out.1.on hb2).rows hL2.rows HL1.out.1.n hL2.n (by omega) (by omega) (fun i hi => by rw [HL1.out.1.len i hi]; omega) (fun i hi => by rw [hL2.len i hi]; omega) (.inl rfl) (J.on HG.out HB2.out)
      clear hb2 hL2 HL1
      go_wp2_with fail
      refine hno.mono ?_
      clear hno
      rintro _ w3 ⟨rfl, hb3⟩
      have HB3 : Hid (Below w.heap.size w w3) := HB2.out.trans (hb3.mono HB2.out.size)
      clear hb3 HB2
      go_wp2
      go_ret
      exact ⟨rfl, HB3.out⟩
    have hlt' : (i : Int) < 4 := by omega
    have HB : Hid (Below w.heap.size w wr) := HM.out.2
    have HT : Hid (3 ≤ i → 1 ≤ t) := HM.out.1
    clear HM
    have hnew := new_c wr
    have HZ : Hid ((List.replicate 32768 (0 : Int)).length = 32768 ∧ Kinds (List.replicate 32768 (0 : Int)) ∧ ∀ i : Int, buildN 1 i 0 (flatN 60) (flatN 1) (List.replicate 32768 0) = bAir i) := ⟨List.length_replicate, zero_kinds, fun _ => rfl⟩
    generalize List.replicate 32768 (0 : Int) = Z at *
    go_wp2_with fail
    refine hnew.mono ?_
    clear hnew
    rintro _ w1 ⟨rfl, hw1⟩
    have HZ1 : Hid (Blk w1 wr.heap.size 74 Z ∧ Below w.heap.size w w1) := by rw [hw1]; exact ⟨Blk.new wr 74 Z, HB.out.alloc HB.out.size _⟩
    clear hw1 HB
    generalize wr.heap.size = xg at *
    have hf := flat_c 60 w1
    go_wp2_with fail
    refine hf.mono ?_
    clear hf
    rintro _ w2 ⟨hb2, b1, cp1, g1, c1, rfl, hL1⟩
    have HZ2 : Hid (Blk w2 xg 74 Z ∧ L9 w2 b1 g1 c1 (flatN 60) ∧ Below w.heap.size w w2) := ⟨HZ1.out.1.below hb2 HZ1.out.1.lt, hL1, HZ1.out.2.trans (hb2.mono HZ1.out.2.size)⟩
    clear hb2 hL1 HZ1
    have hf := flat_c 1 w2
    go_wp2_with fail
    refine hf.mono ?_
    clear hf
    rintro _ w3 ⟨hb3, b2, cp2, g2, c2, rfl, hL2⟩
    have HB3 : Hid (Below w.heap.size w w3) := HZ2.out.2.2.trans (hb3.mono HZ2.out.2.2.size)
    have hap := J.apply_ 1 (i : Int) 0 xg Z (some ⟨b1, 0, none⟩) (some ⟨b2, 0, none⟩) cp1 cp2 (flatN 60) (flatN 1) w3 (by omega) (by unfold Far; omega) (by unfold Far; omega) (HZ2.out.1.below hb3 HZ2.out.1.lt) HZ.out.1 HZ.out.2.1 (HZ2.out.2.1.on hb3).rows hL2.rows (flat_ok (by omega) (by omega)) (flat_ok (by omega) (by omega)) (J.on HG.out HB3.out)
    rw [HZ.out.2.2] at hap
    clear hb3 hL2 HZ2 HZ
    go_wp2_with fail
    refine hap.mono ?_
    clear hap
    rintro _ w4 ⟨hb4, yg, rfl, hY4⟩
    have HB4 : Hid (Below w.heap.size w w4) := HB3.out.trans (hb4.mono HB3.out.size)
    have hco := counts_c yg (bAir i) w4 hY4 (bAir_len _) (bAir_kinds _)
    have HS : Hid (i = 2 → 0 < (cntTo (bAir i) 32768).getD 10 0 ∧ 0 < (cntTo (bAir i) 32768).getD 11 0) := fun e => by subst e; exact ⟨bAir_log, bAir_leaves⟩
    have Hl1 := cntTo_length (bAir i) 32768
    clear hb4 hY4 HB3
    generalize cntTo (bAir i) 32768 = L at *
    go_wp2_with fail
    refine hco.mono ?_
    clear hco
    rintro _ w5 ⟨rfl, hL5, hb5⟩
    have HB5 : Hid (Below w.heap.size w w5) := HB4.out.trans (hb5.mono HB4.out.size)
    have k10 := hL5.cell (k := 10) (by omega)
    have k11 := hL5.cell (k := 11) (by omega)
    clear hb5 hL5 HB4 Hl1
    generalize L.getD 10 0 = n10 at *
    generalize L.getD 11 0 = n11 at *
    generalize w4.heap.size = gA at *
    by_cases h10 : 0 < n10
    · by_cases h11 : 0 < n11
      · go_wp2
        exact ⟨⟨i + 1, t + 1, by simp, by simp, by omega, by omega, fun _ => by omega, HB5.out⟩, by simp [intOf]; omega⟩
      · go_wp2
        exact ⟨⟨i + 1, t, rfl, by simp, by omega, by omega, fun h => by
          by_cases e : i = 2
          · have := (HS.out e).2; omega
          · exact HT.out (by omega), HB5.out⟩, by simp [intOf]; omega⟩
    · go_wp2
      exact ⟨⟨i + 1, t, rfl, by simp, by omega, by omega, fun h => by
        by_cases e : i = 2
        · have := (HS.out e).1; omega
        · exact HT.out (by omega), HB5.out⟩, by simp [intOf]; omega⟩
end Go.Proofs.Ytbdjgaagafnfaaa