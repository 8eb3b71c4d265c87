/-
  The walk of CodecSpoils, over what the program's Decode says.
-/
import Derived.Test.YtdkihhjhjfkjjaaHyps
import Derived.Test.YtdkihhjhjfkjjaaRenc
import Derived.Test.YtdkihhjhjfkjjaaFits
import Derived.Test.YtdkihhjhjfkjjaaFrame
import Derived.Test.YtdkihhjhjfkjjaaZeros
import Derived.Deep.RegionWith
import Derived.BigQuiet
namespace Go.Proofs.Ytdkihhjhjfkjjaa
open Go.RowKit

theorem own_cut {w : World} {B g c : Nat} {ys : List Int} (h : Own w B (some ⟨g, 0, none⟩) c ys) (m : Nat) (hm : m ≤ ys.length) : Own w B (some ⟨g, 0, none⟩) c (ys.take m) := by
  have hl : (ys.take m).length = m := by rw [List.length_take]; omega
  unfold Own
  rw [hl]
  rcases h.2 with ⟨hv, _⟩ | ⟨g', cap, cur, hv, hbg, hg, hnc, hcm, hcs, htake⟩
  · cases hv
  · cases hv
    refine ⟨by rw [List.length_map, hl, Nat.mul_one], .inr ⟨g, c, cur, rfl, hbg, hg, by omega, hcm, hcs, ?_⟩⟩
    rw [Nat.mul_one] at htake ⊢
    rw [List.map_take, ← htake, List.take_take, Nat.min_eq_left hm]
theorem cut_to (b n c m : Nat) (h1 : 1 ≤ m) (h2 : m ≤ n) (h3 : n ≤ c) : ∀ w, (Instr.sliceAt 25 (.slice (some ⟨b, 0, none⟩) n c) none (some (.int .i64 (m : Int))) none).run Try.prog w = .ok (.slice (some ⟨b, 0, none⟩) m c) w := fun w => by
  rw [run_sliceAt_slice w 25 _ _ _ _ (by kernel_rfl), run_slice_h w 25 (some ⟨b, 0, none⟩) n c (by kernel_rfl) .i64 m (by omega) (by omega), show Try.prog.elem 25 = 5 by kernel_rfl, sizeOf5, Result.andThen_ok, Int.toNat_natCast]
  unfold sliced
  rw [if_neg (by omega), Nat.sub_zero, Nat.sub_zero]
  rfl
theorem wrap_no (k : Nat) (h : k ≤ 1000000) : IntKind.i64.wrap (k : Int) = (k : Int) ∧ wrap64 (k : Int) = (k : Int) := by
  refine ⟨by rw [IntKind.wrap_i64]; omega, by unfold wrap64; omega⟩
theorem enc_two (cs : List Int) : 2 ≤ (encL cs).length := by
  obtain ⟨f, rest, _, e⟩ := enc_head cs
  rw [e, List.length_append]
  unfold headL
  rw [List.length_cons, List.length_cons]
  omega

set_option maxRecDepth 100000 in
set_option maxHeartbeats 2000000 in
theorem codecSpoils_walk (hD : DecSays) (hA : AwakeSays) (a : Option Addr) (n cap : Nat) (s : Option Addr) (ns caps : Nat) (p x cut : Int) (w : World) (hR : Runs w a n) (hI : Nums w s ns) (hx : 0 ≤ x ∧ x ≤ 255) :
    Calls Try.prog 6 #[.slice a n cap, .slice s ns caps, .int .i64 p, .int .u8 x, .int .i64 cut] w fun e w' => e = .returned (.bool true) ∧ Below w.heap.size w w' := by
  have HD : Hid DecSays := hD
  have HR : Hid (Runs w a n) := hR
  have HI : Hid (Nums w s ns) := hI
  have Hx : Hid (0 ≤ x ∧ x ≤ 255) := hx
  have hAw := hA w
  clear hD hA hR hI
  go_enter Try.func6, Try.ntmps6
  go_wp2_with fail
  refine hAw.mono ?_
  clear hAw
  rintro _ w1 ⟨rfl, hb1⟩
  by_cases hn : 1000 < n
  · have hn' : (1000 : Int) < n := by omega
    clear HR HI HD
    go_wp2
    go_ret
    exact ⟨rfl, hb1⟩
  by_cases hs : 10000 < ns
  · have hn' : ¬ (1000 : Int) < n := by omega
    have hs' : (10000 : Int) < ns := by omega
    clear HR HI HD
    go_wp2
    go_ret
    exact ⟨rfl, hb1⟩
  have hn' : ¬ (1000 : Int) < n := by omega
  have hs' : ¬ (10000 : Int) < ns := by omega
  have hce := cells_c a n cap s ns caps w1 (HR.out.on hb1) (HI.out.on hb1) (by omega) (by omega)
  go_wp2_with fail
  refine hce.mono ?_
  clear hce hn hs hn' hs' HR HI
  rintro _ w2 ⟨rfl, cs, hB2, hlen, hkin, hb2⟩
  have R2 := hb1.trans (hb2.mono hb1.size)
  clear hb1 hb2
  generalize w1.heap.size = g at *
  have hrc := rencode_c g cs w2 hB2 hlen hkin
  have hfit : ∀ z ∈ encL cs, 0 ≤ z ∧ z ≤ 255 := enc_fit hkin hlen
  have h2 := enc_two cs
  have hmax := enc_len cs
  generalize encL cs = X at *
  clear hB2 hlen hkin
  go_wp2_with fail
  refine hrc.mono ?_
  clear hrc
  rintro _ w3 ⟨a3, c3, rfl, hO3, hb3⟩
  obtain ⟨g3, rfl, _⟩ := hO3.some (by omega)
  have R3 : Below w.heap.size w w3 := R2.trans (hb3.mono R2.size)
  have hB0 : w.heap.size ≤ w2.heap.size := R2.size
  obtain ⟨N, hN⟩ : ∃ N, N = X.length := ⟨_, rfl⟩
  rw [← hN] at h2 hmax ⊢
  have hNc : N ≤ c3 := by
    rcases hO3.parts with ⟨e, _, _⟩ | ⟨_, _, _, _, _, _, h⟩
    · cases e
    · rw [hN]; exact h
  have HO3 : Hid (Own w3 w.heap.size (some ⟨g3, 0, none⟩) c3 X) := hO3.base hB0
  have HN : Hid (X.length = N) := hN.symm
  have Hfit : Hid (∀ z ∈ X, 0 ≤ z ∧ z ≤ 255) := hfit
  have HR3 : Hid (Below w.heap.size w w3) := R3
  clear hN hfit hO3 hb3 R2 R3 hB0
  go_upto_region 5 with fail
  obtain ⟨T1, HT1⟩ : ∃ T1 : Bool, Hid (T1 = decide (0 ≤ p ∧ p < (N : Int))) := ⟨_, rfl⟩
  go_cut [38] (fun v wc => v = .bool T1 ∧ wc = w3)
  case first =>
    by_cases h0 : 0 ≤ p
    · by_cases h1 : p < (N : Int)
      · have HQ : Hid (T1 = true) := HT1.out.trans (decide_eq_true ⟨h0, h1⟩)
        clear HT1 HO3 HN Hfit HR3 HD Hx
        go_wp2
        go_meet
        case rel => exact ⟨congrArg Value.bool HQ.out.symm, rfl⟩
      · have HQ : Hid (T1 = false) := HT1.out.trans (decide_eq_false (fun h => h1 h.2))
        have HQ2 : Hid (decide (p < (N : Int)) = false) := decide_eq_false h1
        clear HT1 HO3 HN Hfit HR3 HD Hx
        go_wp2
        go_meet
        case rel => first | exact ⟨congrArg Value.bool HQ.out.symm, rfl⟩ | exact ⟨congrArg Value.bool (HQ2.out.trans HQ.out.symm), rfl⟩
    · have HQ : Hid (T1 = false) := HT1.out.trans (decide_eq_false (fun h => h0 h.1))
      clear HT1 HO3 HN Hfit HR3 HD Hx
      go_wp2
      go_meet
      case rel => exact ⟨congrArg Value.bool HQ.out.symm, rfl⟩
  case rest =>
  obtain ⟨rfl, hwc⟩ := hcut
  replace hwc := hwc.symm
  subst hwc
  go_upto_if 38 with fail
  go_cut [12] (fun v wc => v = .slice (some ⟨g3, 0, none⟩) N c3 ∧ ∃ Y : List Int, Hid (Own wc w.heap.size (some ⟨g3, 0, none⟩) c3 Y) ∧ Hid (Y.length = N) ∧ Hid (∀ z ∈ Y, 0 ≤ z ∧ z ≤ 255) ∧ Hid (Below w.heap.size w wc))
  case first =>
    rcases T1 with _ | _
    · clear Hx HD HT1
      go_wp2
      go_meet
      case rel => exact ⟨rfl, X, HO3, HN, Hfit, HR3⟩
    · have h := of_decide_eq_true HT1.out.symm
      obtain ⟨J, rfl⟩ := Int.eq_ofNat_of_zero_le h.1
      have hJ : J < X.length := by rw [HN.out]; omega
      have hJN : J < N := by omega
      obtain ⟨g4, e4, hg4, hcl, hfz⟩ := HO3.out.some (by omega)
      cases e4
      have hc := hcl J hJ
      have hf := hfz J
      have HO4 : Hid (Own (w3.setCell ⟨g3, J, none⟩ (.int .u8 x)) w.heap.size (some ⟨g3, 0, none⟩) c3 (X.set J x)) := HO3.out.set J x
      have HL4 : Hid ((X.set J x).length = N) := by show _ = _; rw [List.length_set, HN.out]
      have HF4 : Hid (∀ z ∈ X.set J x, 0 ≤ z ∧ z ≤ 255) := fit_set Hfit.out J x Hx.out
      have HR4 : Hid (Below w.heap.size w (w3.setCell ⟨g3, J, none⟩ (.int .u8 x))) := HR3.out.setCell (p := ⟨g3, J, none⟩) (by simp; omega) _
      generalize X[J] = old at hc
      have hJi : (J : Int) < (N : Int) := h.2
      clear HO3 HN Hfit HR3 hcl hfz hJ Hx h HD HT1
      go_wp2
      go_meet
      case rel => exact ⟨rfl, _, HO4, HL4, HF4, HR4⟩
  case rest =>
  obtain ⟨rfl, Y, HOY, HNY, HfY, HRY⟩ := hcut
  clear HO3 HN Hfit HR3 Hx HT1
  generalize wc = w4 at *
  go_upto_region 7 with fail
  obtain ⟨T2, HT2⟩ : ∃ T2 : Bool, Hid (T2 = decide (0 < cut ∧ cut < (N : Int))) := ⟨_, rfl⟩
  go_cut [50] (fun v wc => v = .bool T2 ∧ wc = w4)
  case first =>
    by_cases h0 : 0 < cut
    · by_cases h1 : cut < (N : Int)
      · have HQ : Hid (T2 = true) := HT2.out.trans (decide_eq_true ⟨h0, h1⟩)
        clear HT2 HOY HNY HfY HRY HD
        go_wp2
        go_meet
        case rel => exact ⟨congrArg Value.bool HQ.out.symm, rfl⟩
      · have HQ : Hid (T2 = false) := HT2.out.trans (decide_eq_false (fun h => h1 h.2))
        have HQ2 : Hid (decide (cut < (N : Int)) = false) := decide_eq_false h1
        clear HT2 HOY HNY HfY HRY HD
        go_wp2
        go_meet
        case rel => first | exact ⟨congrArg Value.bool HQ.out.symm, rfl⟩ | exact ⟨congrArg Value.bool (HQ2.out.trans HQ.out.symm), rfl⟩
    · have HQ : Hid (T2 = false) := HT2.out.trans (decide_eq_false (fun h => h0 h.1))
      clear HT2 HOY HNY HfY HRY HD
      go_wp2
      go_meet
      case rel => exact ⟨congrArg Value.bool HQ.out.symm, rfl⟩
  case rest =>
  obtain ⟨rfl, hwc⟩ := hcut
  replace hwc := hwc.symm
  subst hwc
  go_upto_if 50 with fail
  go_cut [12] (fun v wc => wc = w4 ∧ ∃ M : Nat, v = .slice (some ⟨g3, 0, none⟩) M c3 ∧ 1 ≤ M ∧ M ≤ N ∧ Hid (Own wc w.heap.size (some ⟨g3, 0, none⟩) c3 (Y.take M)))
  case first =>
    rcases T2 with _ | _
    · clear HD HT2
      go_wp2
      go_meet
      case rel => exact ⟨rfl, N, rfl, by omega, Nat.le_refl _, by show Own _ _ _ _ _; rw [List.take_of_length_le (Nat.le_of_eq HNY.out)]; exact HOY.out⟩
    · have h := of_decide_eq_true HT2.out.symm
      obtain ⟨M, hM⟩ : ∃ M : Nat, (N : Int) - cut = (M : Int) := ⟨((N : Int) - cut).toNat, by omega⟩
      have HM1 : Hid (1 ≤ M ∧ M ≤ N) := ⟨by omega, by omega⟩
      have hw64 : wrap64 (M : Int) = (M : Int) := (wrap_no M (Nat.le_trans HM1.out.2 (Nat.le_trans hmax (by decide)))).2
      have hsl := cut_to g3 N c3 M HM1.out.1 HM1.out.2 hNc
      have HOM : Hid (Own w4 w.heap.size (some ⟨g3, 0, none⟩) c3 (Y.take M)) := own_cut HOY.out M (by rw [HNY.out]; exact HM1.out.2)
      clear HOY HfY HRY HNY h HT2 HD
      go_wp2
      go_meet
      case rel => exact ⟨rfl, M, rfl, HM1.out.1, HM1.out.2, HOM⟩
  case rest =>
  obtain ⟨hwc, M, rfl, hM1, hMN, HOM⟩ := hcut
  replace hwc := hwc.symm
  subst hwc
  have HNM : Hid ((Y.take M).length = M) := by show _ = _; rw [List.length_take, HNY.out]; omega
  have HfM : Hid (∀ z ∈ Y.take M, 0 ≤ z ∧ z ≤ 255) := fun z hz => HfY.out z (List.mem_of_mem_take hz)
  generalize Y.take M = U at *
  have HM4 : Hid (M ≤ 40000) := Nat.le_trans hMN (Nat.le_trans hmax (by decide))
  clear HOY HfY HNY HT2
  go_upto_region 9 with fail
  obtain ⟨T3, HT3⟩ : ∃ T3 : Bool, Hid (T3 = decide (cut < 0 ∧ -1000 < cut)) := ⟨_, rfl⟩
  go_cut [62] (fun v wc => v = .bool T3 ∧ wc = w4)
  case first =>
    by_cases h0 : cut < 0
    · by_cases h1 : -1000 < cut
      · have HQ : Hid (T3 = true) := HT3.out.trans (decide_eq_true ⟨h0, h1⟩)
        clear HT3 HOM HNM HfM HRY HD
        go_wp2
        go_meet
        case rel => exact ⟨congrArg Value.bool HQ.out.symm, rfl⟩
      · have HQ : Hid (T3 = false) := HT3.out.trans (decide_eq_false (fun h => h1 h.2))
        have HQ2 : Hid (decide (-1000 < cut) = false) := decide_eq_false h1
        clear HT3 HOM HNM HfM HRY HD
        go_wp2
        go_meet
        case rel => first | exact ⟨congrArg Value.bool HQ.out.symm, rfl⟩ | exact ⟨congrArg Value.bool (HQ2.out.trans HQ.out.symm), rfl⟩
    · have HQ : Hid (T3 = false) := HT3.out.trans (decide_eq_false (fun h => h0 h.1))
      clear HT3 HOM HNM HfM HRY HD
      go_wp2
      go_meet
      case rel => exact ⟨congrArg Value.bool HQ.out.symm, rfl⟩
  case rest =>
  obtain ⟨rfl, hwc⟩ := hcut
  replace hwc := hwc.symm
  subst hwc
  go_upto_if 62 with fail
  go_cut [12] (fun v wc => ∃ (b5 : Option Addr) (L c5 : Nat) (Z : List Int), v = .slice b5 L c5 ∧ L ≤ 40000 ∧ Hid (Own wc w.heap.size b5 c5 Z) ∧ Hid (Z.length = L) ∧ Hid (∀ z ∈ Z, 0 ≤ z ∧ z ≤ 255) ∧ Hid (Below w.heap.size w wc))
  case first =>
    rcases T3 with _ | _
    · clear HD HT3
      go_wp2
      go_meet
      case rel => exact ⟨_, M, c3, U, rfl, HM4.out, HOM, HNM, HfM, HRY⟩
    · have h := of_decide_eq_true HT3.out.symm
      obtain ⟨k, hk⟩ : ∃ k : Nat, -cut = (k : Int) := ⟨(-cut).toNat, by omega⟩
      have Hk : Hid (0 < k ∧ k ≤ 1000) := ⟨by omega, by omega⟩
      have HMk : Hid (M + k ≤ 40000) := Nat.le_trans (Nat.add_le_add (Nat.le_trans hMN hmax) Hk.out.2) (by decide)
      have hw64 : wrap64 (k : Int) = (k : Int) := (wrap_no k (Nat.le_trans Hk.out.2 (by decide))).2
      have HMm : Hid (M ≤ 1000000) := Nat.le_trans HM4.out (by decide)
      have hwk : IntKind.i64.wrap (k : Int) = (k : Int) := (wrap_no k (Nat.le_trans Hk.out.2 (by decide))).1
      clear HD HT3 h
      go_wp2_with (at_builtin; refine wpList_append_zeros rfl (.tmp 63) (.tmp 65) rfl w.heap.size g3 M c3 U HNM.out rfl HOM.out k rfl Hk.out.1 Hk.out.2 HMm.out w HRY.out HRY.out.size ?_; intro a6 c6 w6 HO6 hb6 hs6)
      have HL6 : Hid ((U ++ List.replicate k 0).length = M + k) := by show _ = _; rw [List.length_append, List.length_replicate, HNM.out]
      have HF6 : Hid (∀ z ∈ U ++ List.replicate k (0 : Int), 0 ≤ z ∧ z ≤ 255) := fit_append HfM.out (fun z hz => by rw [List.eq_of_mem_replicate hz]; omega)
      have Hb6 : Hid (Below w.heap.size w w6) := hb6
      clear hb6
      go_meet
      case rel => exact ⟨a6, M + k, c6, _, rfl, HMk.out, HO6, HL6, HF6, Hb6⟩
  case rest =>
  obtain ⟨b5, L, c5, Z, rfl, hL, HOZ, HLZ, HfZ, HRZ⟩ := hcut
  clear HOM HNM HfM HRY HT3
  generalize wc = w5 at *
  have hB5 : Bytes w5 b5 L Z := HOZ.out.bytes HfZ.out L HLZ.out
  have hc5 : L ≤ c5 := by
    rcases HOZ.out.parts with ⟨_, _, e⟩ | ⟨_, _, _, _, _, _, h⟩
    · rw [← HLZ.out, e]; exact Nat.zero_le _
    · rw [← HLZ.out]; exact h
  have hLm : L ≤ 1000000 := Nat.le_trans hL (by decide)
  have hDec := HD.out b5 L c5 Z w5 hB5 hc5 hLm
  have HOK : Hid ((decL Z).1 = 0 → (decL Z).2.length = 32768 ∧ Kinds (decL Z).2) := fun h => dec_ok HfZ.out h
  have R5 := HRZ.out
  clear HOZ HfZ HLZ HRZ HD hNc hM1 hMN HM4 h2 hmax
  go_wp2_with fail
  refine hDec.mono ?_
  clear hDec
  rintro _ w6 ⟨hb6, hr6⟩
  have R6 := R5.trans (hb6.mono R5.size)
  have hRef := rdecode_c b5 L c5 Z w6 (hB5.later hb6) hc5 hLm
  clear hb6 R5 hB5 hc5 hLm hL
  generalize decL Z = D at hr6 hRef HOK
  obtain ⟨q, ds⟩ := D
  rcases hr6 with ⟨hq, g6, hg, rfl, hG6⟩ | ⟨hq, rfl⟩
  · obtain rfl : q = 0 := hq
    obtain ⟨hlen, hkin⟩ := HOK.out rfl
    clear HOK hg
    go_wp2_with fail
    refine hRef.mono ?_
    clear hRef
    rintro _ w7 ⟨hb7, ⟨_, a7, c7, rfl, hO7⟩ | ⟨h0, _⟩⟩
    · have R7 := R6.trans (hb7.mono R6.size)
      have hG7 := hG6.below hb7 hG6.lt
      have hD7 : Bytes w7 a7 32768 ds := hO7.bytes (fun z hz => by have := hkin z hz; omega) 32768 hlen
      clear hb7 R6 hG6 hO7
      have hD8 : Bytes w7.drew a7 32768 ds := hD7.later (Below.refl _ _).drew
      have v7 : (convert 25 9 (.slice a7 32768 c7)).run Try.prog w7.drew = .ok (.string (strOfNums ds)) w7.drew := conv_c hD8.src
      go_wp2_with fail
      go_region_with (go_at_call 14; refine (bytes_c g6 ds _ (by exact hG7) hlen).mono ?_; rintro e w8 ⟨rfl, hB8, hb8⟩; have v8 : (convert 25 9 (.slice (some ⟨w7.heap.size, 0, none⟩) 32768 32768)).run Try.prog w8 = .ok (.string (strOfNums ds)) w8 := hB8.conv hlen hkin; have v9 : (convert 25 9 (.slice a7 32768 c7)).run Try.prog w8 = .ok (.string (strOfNums ds)) w8 := conv_c (Bytes.later hD8 hb8).src; have R8 := R7.drew.trans (hb8.mono R7.size); clear hb8 hB8)
      all_goals (go_wp2; go_ret; exact ⟨rfl, R8⟩)
    · exact absurd rfl h0
  · have hq' : ¬ q = 0 := hq
    clear HOK
    go_wp2_with fail
    refine hRef.mono ?_
    clear hRef
    rintro _ w7 ⟨hb7, ⟨h0, _⟩ | ⟨_, rfl⟩⟩
    · exact absurd h0 hq
    have R7 := R6.trans (hb7.mono R6.size)
    clear hb7 R6
    have hqb : (q != 0) = true := by simp [hq']
    go_wp2_with fail
    go_big_quiet (fail)
    go_wp2
    go_ret
    exact ⟨rfl, ⟨R7.os, R7.tape, R7.output, R7.size, R7.block⟩⟩
end Go.Proofs.Ytdkihhjhjfkjjaa
