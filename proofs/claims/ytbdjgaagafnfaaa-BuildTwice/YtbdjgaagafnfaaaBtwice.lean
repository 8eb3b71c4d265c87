/-
  Walk of BuildTwice.
-/
import Derived.Test.YtbdjgaagafnfaaaBframe
set_option maxRecDepth 20000
namespace Go.Proofs.Ytbdjgaagafnfaaa
open C Go.RowKit

theorem diff_mem {xs ys : List Int} : ∀ {n : Nat} {d : Int}, d ∈ diffTo xs ys n → ∃ j : Nat, j < n ∧ d = (j : Int) ∧ xs.getD j 0 ≠ ys.getD j 0
  | 0, d, h => by cases h
  | n + 1, d, h => by
    unfold diffTo at h
    split at h
    · obtain ⟨j, h1, h2⟩ := diff_mem h
      exact ⟨j, by omega, h2⟩
    · rename_i hne
      rcases List.mem_append.1 h with h | h
      · obtain ⟨j, h1, h2⟩ := diff_mem h
        exact ⟨j, by omega, h2⟩
      · exact ⟨n, by omega, List.mem_singleton.1 h, hne⟩
theorem ints_slice {w : World} {b : Nat} {v : Value} {l : List Int} (h : Ints w b v l) : ∃ a c, v = .slice a l.length c ∧ ∀ i d, l[i]? = some d → ∃ g, a = some ⟨g, 0, none⟩ ∧ w.cell? ⟨g, i, none⟩ = some (.int .i64 d) := by
  unfold Ints at h
  rcases h.2 with ⟨rfl, h0⟩ | ⟨g, cap, cur, rfl, _⟩
  · refine ⟨none, 0, by rw [h0], fun i d hd => ?_⟩
    rw [List.getElem?_eq_none (by omega)] at hd
    cases hd
  · refine ⟨_, cap, rfl, fun i d hd => ⟨g, rfl, ?_⟩⟩
    have hi : i < l.length := (List.getElem?_eq_some_iff.1 hd).1
    rw [ownsRow_cell h i (by omega), List.getElem?_map, hd]
    rfl
theorem made_ne {v : Int} (h : Made v) : v = 0 ∨ v = 10 ∨ v = 11 ∨ v = 12 ∨ v = 13 ∨ v = 14 := h
set_option maxRecDepth 1000000 in
set_option maxHeartbeats 4000000 in
theorem buildTwice_walk (J : BSpec) (S : Nat) (cx cz : Int) (a : Option Addr) (n cap : Nat) (p : Option Addr) (ns cp : Nat) (l : List Spot) (w : World) (hS : S < 18446744073709551616) (hR : Runs w a n) (hP : SpotsAt w w.heap.size p ns l) (hns : ns ≤ 9223372036854775807) (hG : J.G w) :
    Calls Try.prog 6 #[.int .u64 S, .agg #[.int .i64 cx, .int .i64 cz], .slice a n cap, .slice p ns cp] w fun e w' => e = .returned (.bool true) ∧ Below w.heap.size w w' := by
  have HR : Hid (Runs w a n) := hR
  have HS : Hid (SpotsAt w w.heap.size p ns l) := hP
  clear hR hP
  have HG : Hid (J.G w) := hG
  clear hG
  obtain ⟨β, hβ⟩ := far_bool cx cz
  by_cases hf : Far 1073741824 cx ∧ Far 1073741824 cz
  case neg =>
    obtain rfl : β = true := by
      rcases β with _ | _
      · exact absurd (hβ.1 rfl) hf
      · rfl
    have Hfar : Hid (∀ w1, Calls Try.prog 10 #[.agg #[.int .i64 cx, .int .i64 cz]] w1 fun e w' => e = .returned (.bool true) ∧ Below w1.heap.size w1 w') := fun w1 => far_c cx cz _ w1 hβ
    clear hβ hf
    go_enter Try.func6, Try.ntmps6
    go_wp2_with fail
    refine (awake_c J _ (J.on HG.out (Bx.start w cx cz).bel)).mono ?_
    rintro _ w1 ⟨rfl, hw1⟩
    have HB1 : Hid (Bx w cx cz w1) := (Bx.start w cx cz).on hw1
    have k0 := HB1.out.k0
    have k1 := HB1.out.k1
    clear hw1
    have hfar := Hfar.out w1
    go_wp2_with fail
    refine hfar.mono ?_
    clear hfar k0 k1
    rintro _ w2 ⟨rfl, hb2⟩
    have HB2 : Hid (Bx w cx cz w2) := HB1.out.on hb2
    clear hb2 HB1
    go_wp2
    go_ret
    exact ⟨rfl, HB2.out.bel⟩
  obtain rfl : β = false := hβ.2 hf
  have Hfar : Hid (∀ w1, Calls Try.prog 10 #[.agg #[.int .i64 cx, .int .i64 cz]] w1 fun e w' => e = .returned (.bool false) ∧ Below w1.heap.size w1 w') := fun w1 => far_c cx cz _ w1 hβ
  clear hβ
  by_cases c4 : 1000 < n
  case pos =>
    have c4' : (1000 : Int) < (n : Int) := by omega
    go_enter Try.func6, Try.ntmps6
    go_wp2_with fail
    refine (awake_c J _ (J.on HG.out (Bx.start w cx cz).bel)).mono ?_
    rintro _ w1 ⟨rfl, hw1⟩
    have HB1 : Hid (Bx w cx cz w1) := (Bx.start w cx cz).on hw1
    have k0 := HB1.out.k0
    have k1 := HB1.out.k1
    clear hw1
    have hfar := Hfar.out w1
    go_wp2_with fail
    refine hfar.mono ?_
    clear hfar k0 k1
    rintro _ w2 ⟨rfl, hb2⟩
    have HB2 : Hid (Bx w cx cz w2) := HB1.out.on hb2
    clear hb2 HB1
    go_wp2
    go_ret
    exact ⟨rfl, HB2.out.bel⟩
  have hn1 : n ≤ 1000 := by omega
  have c4' : ¬ (1000 : Int) < (n : Int) := by omega
  go_enter Try.func6, Try.ntmps6
  go_wp2_with fail
  refine (awake_c J _ (J.on HG.out (Bx.start w cx cz).bel)).mono ?_
  rintro _ w1 ⟨rfl, hw1⟩
  have HB1 : Hid (Bx w cx cz w1) := (Bx.start w cx cz).on hw1
  have k0 := HB1.out.k0
  have k1 := HB1.out.k1
  clear hw1
  have hfar := Hfar.out w1
  go_wp2_with fail
  refine hfar.mono ?_
  clear hfar k0 k1
  rintro _ w2 ⟨rfl, hb2⟩
  have HB2 : Hid (Bx w cx cz w2) := HB1.out.on hb2
  clear hb2 HB1
  have k0 := HB2.out.k0
  have k1 := HB2.out.k1
  have hla := land_c S cx cz p ns cp l w2 hS hf.1 hf.2 ((HS.out.on HB2.out.bel).up HB2.out.bel.size) hns
  have HoH : Hid (okG 128 (chg 128 (·.h) (groundH S cx cz) l (min ns 3000)) ∧ okG 4 (chg 4 (·.b) (groundB S cx cz) l (min ns 3000))) := ⟨chg_ok (by omega) (groundH_ok _ _ _) _, chg_ok (by omega) (groundB_ok _ _ _) _⟩
  generalize chg 128 (·.h) (groundH S cx cz) l (min ns 3000) = hs at *
  generalize chg 4 (·.b) (groundB S cx cz) l (min ns 3000) = bs at *
  go_wp2_with fail
  refine hla.mono ?_
  clear hla k0 k1 c4 c4'
  rintro _ w3 ⟨hb3, b1, cp1, g1, c1, b2, cp2, g2, c2, rfl, hL1, hL2, _⟩
  have HB3 : Hid (Bx w cx cz w3) := HB2.out.on hb3
  have HL3 : Hid (L9 w3 b1 g1 c1 hs ∧ L9 w3 b2 g2 c2 bs) := ⟨hL1, hL2⟩
  clear hb3 hL1 hL2 HB2
  have hcl := cells_c a n cap none 0 0 w3 (HR.out.on HB3.out.bel) (fun k hk => by omega) hn1 (by omega)
  go_wp2_with fail
  refine hcl.mono ?_
  clear hcl
  rintro _ w4 ⟨rfl, cs, hC4, hl, hk, hb4⟩
  have HB4 : Hid (Bx w cx cz w4) := HB3.out.on hb4
  have HC : Hid (cs.length = 32768 ∧ Kinds cs) := ⟨hl, hk⟩
  have HL4 : Hid (L9 w4 b1 g1 c1 hs ∧ L9 w4 b2 g2 c2 bs) := ⟨HL3.out.1.on hb4, HL3.out.2.on hb4⟩
  have hfr := from_c (some ⟨w3.heap.size, 0, none⟩) 32768 32768 cs w4 (Blk.src2 hC4 hl hk) (by omega)
  have hmay := kinds_may hk hl
  clear hb4 hC4 hl hk HB3 HL3
  generalize w3.heap.size = bg at *
  go_wp2_with fail
  refine hfr.mono ?_
  clear hfr
  rintro _ w5 ⟨hb5, h5⟩
  rcases h5 with ⟨_, rfl, hX5⟩ | ⟨hno, _⟩
  case inr => exact absurd hmay hno
  have HB5 : Hid (Bx w cx cz w5) := HB4.out.on hb5
  have HC5 : Hid (L9 w5 b1 g1 c1 hs ∧ L9 w5 b2 g2 c2 bs ∧ Blk w5 w4.heap.size 74 cs) := ⟨HL4.out.1.on hb5, HL4.out.2.on hb5, hX5⟩
  clear hb5 HB4 HL4 hX5 hmay
  generalize w4.heap.size = xg at *
  have k0 := HB5.out.k0
  have k1 := HB5.out.k1
  have hap := J.apply_ S cx cz xg cs (some ⟨b1, 0, none⟩) (some ⟨b2, 0, none⟩) cp1 cp2 hs bs w5 hS (far_up hf.1) (far_up hf.2) HC5.out.2.2 HC.out.1 HC.out.2 HC5.out.1.rows HC5.out.2.1.rows HoH.out.1 HoH.out.2 (J.on HG.out HB5.out.bel)
  go_wp2_with fail
  refine hap.mono ?_
  clear hap k0 k1
  rintro _ w6 ⟨hb6, yg, rfl, hY6⟩
  have HB6 : Hid (Bx w cx cz w6) := HB5.out.on hb6
  have HC6 : Hid (L9 w6 b1 g1 c1 hs ∧ L9 w6 b2 g2 c2 bs ∧ Blk w6 xg 74 cs ∧ Blk w6 yg 74 (buildN S cx cz hs bs cs)) := ⟨HC5.out.1.on hb6, HC5.out.2.1.on hb6, HC5.out.2.2.below hb6 HC5.out.2.2.lt, hY6⟩
  clear hb6 hY6 HB5 HC5
  have HF : Hid ((buildN S cx cz hs bs cs).length = 32768 ∧ Kinds (buildN S cx cz hs bs cs) ∧ buildN S cx cz hs bs (buildN S cx cz hs bs cs) = buildN S cx cz hs bs cs ∧ ∀ j, j < 32768 → (buildN S cx cz hs bs cs).getD j 0 ≠ cs.getD j 0 → Made ((buildN S cx cz hs bs cs).getD j 0)) := ⟨buildN_len _ _ _ _ _ _, build_kinds HC.out.2, build_twice _ _ _ _ _ _, fun j hj h => build_made hj h⟩
  generalize buildN S cx cz hs bs cs = F at *
  have k0 := HB6.out.k0
  have k1 := HB6.out.k1
  have hap := J.apply_ S cx cz yg F (some ⟨b1, 0, none⟩) (some ⟨b2, 0, none⟩) cp1 cp2 hs bs w6 hS (far_up hf.1) (far_up hf.2) HC6.out.2.2.2 HF.out.1 HF.out.2.1 HC6.out.1.rows HC6.out.2.1.rows HoH.out.1 HoH.out.2 (J.on HG.out HB6.out.bel)
  rw [HF.out.2.2.1] at hap
  go_wp2_with fail
  refine hap.mono ?_
  clear hap k0 k1
  rintro _ w7 ⟨hb7, zg, rfl, hZ7⟩
  have HB7 : Hid (Below w.heap.size w w7) := (HB6.out.on hb7).bel
  have HC7 : Hid (Blk w7 xg 74 cs ∧ Blk w7 yg 74 F ∧ Blk w7 zg 74 F) := ⟨HC6.out.2.2.1.below hb7 HC6.out.2.2.1.lt, HC6.out.2.2.2.below hb7 HC6.out.2.2.2.lt, hZ7⟩
  clear hb7 hZ7 HB6 HC6 HoH
  have hdf := diff_c xg yg cs F w7 HC7.out.1 HC7.out.2.1 HC.out.1 HF.out.1
  have HD : Hid (∀ i d, (diffTo cs F 32768)[i]? = some d → ∃ j : Nat, j < 32768 ∧ d = (j : Int) ∧ Made (F.getD j 0)) := fun i d hd => by
    obtain ⟨j, h1, h2, h3⟩ := diff_mem (List.mem_of_getElem? hd)
    exact ⟨j, h1, h2, HF.out.2.2.2 j h1 (Ne.symm h3)⟩
  have hDl := diffTo_length cs F 32768
  generalize diffTo cs F 32768 = D at *
  go_wp2_with fail
  refine hdf.mono ?_
  clear hdf
  rintro _ w8 ⟨v8, rfl, hI8, hb8⟩
  obtain ⟨a8, c8, rfl, hcell⟩ := ints_slice hI8
  have Hcell : Hid (∀ i d, D[i]? = some d → ∃ g, a8 = some ⟨g, 0, none⟩ ∧ w8.cell? ⟨g, i, none⟩ = some (.int .i64 d)) := hcell
  have HB8 : Hid (Below w.heap.size w w8) := HB7.out.trans (hb8.mono HB7.out.size)
  have HC8 : Hid (Blk w8 yg 74 F ∧ Blk w8 zg 74 F) := ⟨HC7.out.2.1.below hb8 HC7.out.2.1.lt, HC7.out.2.2.below hb8 HC7.out.2.2.lt⟩
  obtain ⟨m, hm⟩ : ∃ m, m = D.length := ⟨_, rfl⟩
  have Hm : Hid (m = D.length) := hm
  rw [← hm] at hDl ⊢
  clear hm hb8 hI8 hcell HB7 HC7
  go_wp2
  go_loop [20] (fun v => ∃ I : Nat, v = .int .i64 (I : Int) ∧ I ≤ m) (fun v => m - (intOf v).toNat)
  case atStart => exact ⟨0, rfl, by omega⟩
  case round =>
    obtain ⟨I, rfl, hI⟩ := hrel
    by_cases hlt : I < m
    case neg =>
      have hge : ¬ (I : Int) < (m : Int) := by omega
      have hdf := diff_c yg zg F F w8 HC8.out.1 HC8.out.2 HF.out.1 HF.out.1
      rw [diffTo_self] at hdf
      go_wp2_with fail
      refine hdf.mono ?_
      clear hdf
      rintro _ w9 ⟨v9, rfl, hI9, hb9⟩
      obtain ⟨a9, c9, rfl, _⟩ := ints_slice hI9
      have R := HB8.out.trans (hb9.mono HB8.out.size)
      clear hI9 hb9
      go_wp2
      go_ret
      exact ⟨rfl, R⟩
    have hlt' : (I : Int) < (m : Int) := by omega
    obtain ⟨d, hd⟩ : ∃ d, D[I]? = some d := ⟨D[I]'(by have := Hm.out; omega), List.getElem?_eq_getElem (by have := Hm.out; omega)⟩
    obtain ⟨gd, rfl, hc⟩ := Hcell.out I d hd
    obtain ⟨j, hj, rfl, hmd⟩ := HD.out I d hd
    have hget := get_c yg F (j : Int) w8 HC8.out.1 HF.out.1 HF.out.2.1
    have e : getC F (j : Int) = F.getD j 0 := by unfold getC; rw [if_pos (by omega), Int.toNat_natCast]
    rw [e] at hget
    generalize F.getD j 0 = v at *
    clear e hd
    go_wp2_with fail
    refine hget.mono ?_
    clear hget
    rintro _ w9 ⟨rfl, hw⟩
    replace hw := hw.symm
    subst hw
    rcases made_ne hmd with rfl | rfl | rfl | rfl | rfl | rfl
    · go_wp2
      exact ⟨⟨I + 1, by simp, by omega⟩, by simp [intOf]; omega⟩
    · go_wp2
      exact ⟨⟨I + 1, by simp, by omega⟩, by simp [intOf]; omega⟩
    · go_wp2
      exact ⟨⟨I + 1, by simp, by omega⟩, by simp [intOf]; omega⟩
    · go_wp2
      exact ⟨⟨I + 1, by simp, by omega⟩, by simp [intOf]; omega⟩
    · go_wp2
      exact ⟨⟨I + 1, by simp, by omega⟩, by simp [intOf]; omega⟩
    · go_wp2
      exact ⟨⟨I + 1, by simp, by omega⟩, by simp [intOf]; omega⟩
end Go.Proofs.Ytbdjgaagafnfaaa