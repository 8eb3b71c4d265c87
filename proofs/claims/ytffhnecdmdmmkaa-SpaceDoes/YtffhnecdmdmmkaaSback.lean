/-
  SpaceBack, from what is asked of a space.
-/
import Derived.Test.YtffhnecdmdmmkaaSnew
set_option maxRecDepth 20000
namespace Go.Proofs.Ytffhnecdmdmmkaa
open Go.RowKit

/-- Whole numbers that came in. -/
def IntsIn (W : World) (a : Option Addr) (n : Nat) : Prop := ∀ k, k < n → ∃ b off x, a = some ⟨b, off, none⟩ ∧ I64 x ∧ W.cell? ⟨b, off + k, none⟩ = some (.int .i64 x)
theorem tkS_len (h : Nat) (T : List Bool) (n : Int) : (tkS h T n).2.2.length = T.length := by
  unfold tkS
  split
  · rfl
  · cases hx : takeS h T n.toNat with
    | none => rfl
    | some i =>
      unfold takeS at hx
      have := List.find?_some hx
      rw [Bool.and_eq_true, decide_eq_true_iff] at this
      exact setS_len (by omega) true
theorem tk_ok {h : Nat} {T : List Bool} {n : Int} (h0 : (tkS h T n).2.1 = 0) : ∃ i : Nat, 1 ≤ n ∧ h ≤ i ∧ i + n.toNat ≤ T.length ∧ allS T i n.toNat false = true ∧ tkS h T n = ((i : Int), 0, setS T i n.toNat true) := by
  unfold tkS at h0 ⊢
  by_cases hn : n < 1
  · rw [if_pos hn] at h0
    cases h0
  · rw [if_neg hn] at h0 ⊢
    cases hx : takeS h T n.toNat with
    | none => rw [hx] at h0; cases h0
    | some i =>
      have hx' := hx
      unfold takeS at hx'
      have h1 := List.find?_some hx'
      have h2 := List.mem_of_find?_eq_some hx'
      rw [Bool.and_eq_true, decide_eq_true_iff] at h1
      rw [List.mem_range'_1] at h2
      exact ⟨i, by omega, h2.1, h1.1, h1.2, rfl⟩
theorem tk_err (h : Nat) (T : List Bool) (n : Int) : (tkS h T n).2.1 = 0 ∨ ((tkS h T n).2.1 = 1 ∧ n < 1 ∨ (tkS h T n).2.1 = 7 ∧ 1 ≤ n) ∧ (tkS h T n).2.2 = T := by
  unfold tkS
  by_cases hn : n < 1
  · rw [if_pos hn]
    exact Or.inr ⟨Or.inl ⟨rfl, hn⟩, rfl⟩
  · rw [if_neg hn]
    cases takeS h T n.toNat with
    | none => exact Or.inr ⟨Or.inr ⟨rfl, by omega⟩, rfl⟩
    | some i => exact Or.inl rfl
theorem back_yes {h : Nat} {T : List Bool} {i : Nat} {n : Int} (hn : 1 ≤ n) (hi : h ≤ i) (hf : i + n.toNat ≤ T.length) (ha : allS T i n.toNat false = true) : mayB h (setS T i n.toNat true) (i : Int) n true = true ∧ doS h (setS T i n.toNat true) (i : Int) n true false = T := by
  have h1 : mayB h (setS T i n.toNat true) (i : Int) n true = true := by
    unfold mayB
    rw [Bool.and_eq_true, decide_eq_true_iff, setS_len hf]
    refine ⟨by omega, ?_⟩
    rw [Int.toNat_natCast, allS_iff (by rw [setS_len hf]; exact hf)]
    intro j h3 h4
    rw [setS_at hf, if_pos ⟨h3, h4⟩]
  refine ⟨h1, ?_⟩
  unfold doS
  rw [h1, if_pos rfl, Int.toNat_natCast]
  exact setS_back hf ha
theorem back_no {h : Nat} {T : List Bool} {i m : Nat} (hm : 1 ≤ m) (hf : i + m ≤ T.length) (ha : allS T i m false = true) : mayB h T (i : Int) 1 true = false := by
  unfold mayB
  cases hx : allS T (i : Int).toNat (1 : Int).toNat true with
  | false => simp
  | true =>
    exfalso
    rw [Int.toNat_natCast] at hx
    have h1 := (allS_iff (show i + (1 : Int).toNat ≤ T.length by omega) true).1 hx i (Nat.le_refl _) (by omega)
    have h2 := (allS_iff hf false).1 ha i (Nat.le_refl _) (by omega)
    rw [h1] at h2
    cases h2
set_option maxHeartbeats 2000000 in
theorem spaceBack_walk (J : SSpec) (n h : Int) (hn : I64 n) (hh : I64 h) (la : Option Addr) (ln lc : Nat) (k : Int) (hk : I64 k) (w : World) (hI : IntsIn w la ln) (hln : ln ≤ maxLen) :
    Calls Try.prog 7 #[.int .i64 n, .int .i64 h, .slice la ln lc, .int .i64 k] w fun e w' => e = .returned (.bool true) ∧ Below w.heap.size w w' := by
  obtain ⟨Post, hPost⟩ : ∃ Post : Ending → World → Prop, Post = fun e w' => e = .returned (.bool true) ∧ Below w.heap.size w w' := ⟨_, rfl⟩
  rw [← hPost]
  have HP : Hid (∀ w', Below w.heap.size w w' → Post (.returned (.bool true)) w') := fun w' h => by rw [hPost]; exact ⟨rfl, h⟩
  clear hPost
  have HI : Hid (IntsIn w la ln) := hI
  have hln' : (ln : Int) ≤ 9223372036854775807 := by unfold maxLen at hln; omega
  clear hI hln
  go_enter Try.func7, Try.ntmps7
  go_wp2_with fail
  refine (awake_s J w).mono ?_
  rintro _ w1 ⟨rfl, hb1⟩
  have Hb1 : Hid (Below w.heap.size w w1) := hb1
  clear hb1
  by_cases hs1 : 300 < n
  · have R := HP.out w1 Hb1.out
    clear HP Hb1
    go_wp2
    exact R
  · by_cases hs2 : (300 : Int) < ln
    · have R := HP.out w1 Hb1.out
      clear HP Hb1
      go_wp2
      exact R
    · by_cases hbad : badNew n h
      · go_wp2_with fail
        refine (J.new_ n h w1 hn hh).mono ?_
        rintro e w2 ⟨hb2, ⟨_, rfl⟩ | ⟨h1, _⟩⟩
        · have R := HP.out w2 (Hb1.out.trans (hb2.mono Hb1.out.size))
          clear HP Hb1 hb2
          go_wp2
          exact R
        · exact absurd hbad h1
      · go_wp2_with fail
        refine (snew J n h w1 hn hh hbad).mono ?_
        rintro _ w2 ⟨g, F2, rfl, hS2⟩
        have H2 : Hid (Sk J F2 w1 w2 g h.toNat (List.replicate n.toNat false)) := hS2
        have hge : 0 ≤ h ∧ h ≤ n ∧ n ≤ 300 := by unfold badNew at hbad; omega
        obtain ⟨hd, hhd⟩ : ∃ hd, hd = h.toNat := ⟨_, rfl⟩
        rw [← hhd] at H2
        have Hle : Hid (hd ≤ n.toNat) := by show _ ≤ _; omega
        clear hS2 hbad hhd
        go_wp2_with fail
        go_loopw [12] (fun v wr => ∃ (i : Nat) (F : Nat → Prop) (T : List Bool), i ≤ ln ∧ v = .int .i64 (i : Int) ∧ Hid (Sk J F w1 wr g hd T ∧ T.length = n.toNat)) (fun v _ => ln - (intOf v).toNat)
        case atStart => exact ⟨0, F2, _, Nat.zero_le _, rfl, H2.out, by rw [List.length_replicate]⟩
        case round =>
          clear H2
          obtain ⟨i, F, T, hi, rfl, H⟩ := hrel
          by_cases hlt : i < ln
          · have hlt' : (i : Int) < ln := by omega
            obtain ⟨b, off, x, rfl, hx, hc⟩ := HI.out i hlt
            have hx1 := hx.1
            have hx2 := hx.2
            have cw : wr.cell? ⟨b, off + i, none⟩ = some (.int .i64 x) := cell_on (Hb1.out.trans (H.out.1.below.mono Hb1.out.size)) hc
            have Hc : Hid (w.cell? ⟨b, off + i, none⟩ = some (.int .i64 x)) := hc
            clear HP hc hx
            go_wp2_with fail
            refine (stake H.out.1 x ⟨hx1, hx2⟩).mono ?_
            rintro _ w3 ⟨rfl, F3, hS3, _⟩
            have H3 : Hid (Sk J F3 w1 w3 g hd (tkS hd T x).2.2 ∧ (tkS hd T x).2.2.length = n.toNat) := ⟨hS3, by rw [tkS_len hd T x]; exact H.out.2⟩
            have cw3 : w3.cell? ⟨b, off + i, none⟩ = some (.int .i64 x) := cell_on (Hb1.out.trans (hS3.below.mono Hb1.out.size)) Hc.out
            clear hS3 H cw Hc
            go_wp2_with fail
            refine (sfree H3.out.1 x 1 ⟨hx1, hx2⟩ (i64s (by decide))).mono ?_
            rintro _ w4 ⟨rfl, F4, hS4, _⟩
            have H4 : Hid (Sk J F4 w1 w4 g hd (doS hd (tkS hd T x).2.2 x 1 true false) ∧ (doS hd (tkS hd T x).2.2 x 1 true false).length = n.toNat) := ⟨hS4, by rw [doS_len]; exact H3.out.2⟩
            clear hS4 H3 cw3
            go_wp2
            go_roundw
            case rel => exact ⟨i + 1, F4, _, by omega, by go_num, H4⟩
            case measure => simp [intOf]; omega
          · obtain rfl : i = ln := by omega
            have hge2 : ¬ (i : Int) < i := by omega
            go_wp2_with fail
            refine (sspans H.out.1).mono ?_
            rintro _ w3 ⟨F3, xa, xc, rfl, hS3, _, hO3, hgb3⟩
            have H3 : Hid (Sk J F3 w1 w3 g hd T ∧ T.length = n.toNat) := ⟨hS3, H.out.2⟩
            obtain ⟨lo, HX3⟩ : ∃ lo, Hid (OwnSp w3 lo xa xc (spansS hd T) ∧ ∀ gb, xa = some ⟨gb, 0, none⟩ → ¬ F3 gb) := ⟨_, hO3, hgb3⟩
            clear hS3 H hO3 hgb3 HI
            go_wp2_with fail
            refine (stake H3.out.1 k hk).mono ?_
            rintro _ w4 ⟨rfl, F4, hS4, hT4⟩
            rcases tk_err hd T k with h0 | ⟨h0, _⟩
            · obtain ⟨p, hk1, hp1, hp2, hp3, htk⟩ := tk_ok h0
              rw [htk] at hS4 ⊢
              have H4 : Hid (Sk J F4 w1 w4 g hd (setS T p k.toNat true)) := hS4
              have HX4 : Hid (OwnSp w4 lo xa xc (spansS hd T) ∧ ∀ gb, xa = some ⟨gb, 0, none⟩ → ¬ F4 gb) := HX3.out.1.stp hT4 HX3.out.2
              have hTl : T.length ≤ 300 := by have := H3.out.2; omega
              have hp4 : (p : Int) ≤ 300 := by omega
              have Hy := back_yes (h := hd) hk1 hp1 hp2 hp3
              have Hn := back_no (h := hd) (show 1 ≤ k.toNat by omega) hp2 hp3
              have HYN : Hid (erS hd (setS T p k.toNat true) (p : Int) k true = 0 ∧ doS hd (setS T p k.toNat true) (p : Int) k true false = T ∧ erS hd T (p : Int) 1 true = 1 ∧ doS hd T (p : Int) 1 true false = T) := ⟨by unfold erS; rw [Hy.1]; rfl, Hy.2, by unfold erS; rw [Hn]; rfl, by unfold doS; rw [Hn]; rfl⟩
              clear hS4 hT4 H3 HX3 Hy Hn h0 htk hp3
              go_wp2_with fail
              refine (sfree H4.out (p : Int) k ⟨by omega, by omega⟩ hk).mono ?_
              rw [HYN.out.1, HYN.out.2.1]
              rintro _ w5 ⟨rfl, F5, hS5, hT5⟩
              have H5 : Hid (Sk J F5 w1 w5 g hd T) := hS5
              have HX5 : Hid (OwnSp w5 lo xa xc (spansS hd T) ∧ ∀ gb, xa = some ⟨gb, 0, none⟩ → ¬ F5 gb) := HX4.out.1.stp hT5 HX4.out.2
              clear hS5 hT5 H4 HX4
              go_wp2_with fail
              refine (sfree H5.out (p : Int) 1 ⟨by omega, by omega⟩ (i64s (by decide))).mono ?_
              rw [HYN.out.2.2.1, HYN.out.2.2.2]
              rintro _ w6 ⟨rfl, F6, hS6, hT6⟩
              have H6 : Hid (Sk J F6 w1 w6 g hd T) := hS6
              have HX6 : Hid (OwnSp w6 lo xa xc (spansS hd T) ∧ ∀ gb, xa = some ⟨gb, 0, none⟩ → ¬ F6 gb) := HX5.out.1.stp hT6 HX5.out.2
              clear hS6 hT6 H5 HX5 HYN
              go_wp2_with fail
              refine (sspans H6.out).mono ?_
              rintro _ w7 ⟨F7, ya, yc, rfl, hS7, hT7, hO7, _⟩
              have HX7 : Hid (OwnSp w7 lo xa xc (spansS hd T)) := (HX6.out.1.stp hT7 HX6.out.2).1
              obtain ⟨lo2, HY7⟩ : ∃ lo2, Hid (OwnSp w7 lo2 ya yc (spansS hd T)) := ⟨_, hO7⟩
              have HPx : Hid (∀ wr, Below w7.heap.size w7 wr → Post (.returned (.bool true)) wr) := fun wr hb => by
                have h7 := Hb1.out.trans (hS7.below.mono Hb1.out.size)
                exact HP.out wr (h7.trans (hb.mono h7.size))
              have hsl : (spansS hd T).length ≤ 10000 := by have := spTo_len hd T (T.length - hd); unfold spansS; omega
              clear hS7 hT7 hO7 H6 HX6 HP
              generalize spansS hd T = L at *
              obtain ⟨q, hq⟩ : ∃ q, q = L.length := ⟨_, rfl⟩
              have Hq : Hid (L.length = q) := hq.symm
              rw [← hq] at hsl ⊢
              clear hq
              go_wp2_with fail
              go_loopw [19] (fun v wr => ∃ (j : Nat), j ≤ q ∧ v = .int .i64 (j : Int) ∧ Hid (Below w7.heap.size w7 wr)) (fun v _ => q - (intOf v).toNat)
              case atStart => exact ⟨0, Nat.zero_le _, rfl, Below.refl _ _⟩
              case round =>
                obtain ⟨j, hj, rfl, Hbj⟩ := hrel
                by_cases hjq : j < q
                · have hjq' : (j : Int) < q := by omega
                  have hjl : j < L.length := by rw [Hq.out]; exact hjq
                  obtain ⟨xb, rfl, _, _, x0, x1⟩ := HX7.out.at hjl
                  obtain ⟨yb, rfl, _, _, y0, y1⟩ := HY7.out.at hjl
                  have x0' := cell_on Hbj.out x0
                  have x1' := cell_on Hbj.out x1
                  have y0' := cell_on Hbj.out y0
                  have y1' := cell_on Hbj.out y1
                  have Hb2 : Hid (∀ m, Below w7.heap.size w7 (wr.drewN m)) := fun _ => ⟨Hbj.out.os, Hbj.out.tape, Hbj.out.output, Hbj.out.size, Hbj.out.block⟩
                  clear x0 x1 y0 y1 Hbj
                  generalize L[j].1 = f at *
                  generalize L[j].2 = m at *
                  go_wp2_with fail
                  go_big_quiet (fail)
                  go_wp2
                  go_roundw
                  case rel => exact ⟨j + 1, by omega, by go_num, Hb2.out _⟩
                  case measure => simp [intOf]; omega
                · obtain rfl : j = q := by omega
                  have hge3 : ¬ (j : Int) < j := by omega
                  have R2 : Post (.returned (.bool true)) wr := HPx.out wr Hbj.out
                  go_wp2
                  exact R2
            · have R := HP.out w4 (Hb1.out.trans (hS4.below.mono Hb1.out.size))
              have hne : ((tkS hd T k).2.1 == 0) = false := by rcases h0 with h | h <;> (rw [h.1]; rfl)
              generalize (tkS hd T k).1 = v1 at *
              generalize (tkS hd T k).2.1 = v2 at *
              clear HP hS4 hT4 H3 HX3
              go_wp2
              exact R
end Go.Proofs.Ytffhnecdmdmmkaa
