/-
  The walk of CodecAgain, over what the program's Encode and Decode say.
-/
import Derived.Test.YtdkihhjhjfkjjaaHyps
import Derived.Test.YtdkihhjhjfkjjaaFrame
import Derived.Test.YtdkihhjhjfkjjaaFits
import Derived.Deep.RegionWith
namespace Go.Proofs.Ytdkihhjhjfkjjaa
open Go.RowKit

set_option maxRecDepth 100000 in
set_option maxHeartbeats 4000000 in
theorem codecAgain_walk (hE : EncSays) (hD : DecSays) (hA : AwakeSays) (a : Option Addr) (n cap : Nat) (bs : List Int) (many t : Int) (w : World) (hS : Bytes w a n bs) (hnil : a = none → cap = 0) (ht : 0 ≤ t ∧ t ≤ 255) :
    Calls Try.prog 8 #[.slice a n cap, .int .i64 many, .int .u8 t] w fun e w' => e = .returned (.bool true) ∧ Below w.heap.size w w' := by
  have HE : Hid EncSays := hE
  have HD : Hid DecSays := hD
  have HS : Hid (Bytes w a n bs) := hS
  have Hnil : Hid (a = none → cap = 0) := hnil
  have Ht : Hid (0 ≤ t ∧ t ≤ 255) := ht
  have hAw := hA w
  clear hE hD hA hS hnil ht
  go_enter Try.func8, Try.ntmps8
  go_wp2_with fail
  refine hAw.mono ?_
  clear hAw
  rintro _ w1 ⟨rfl, hb1⟩
  by_cases h0 : many < 0
  · go_wp2
    go_ret
    exact ⟨rfl, hb1⟩
  by_cases h1 : 40000 < many
  · go_wp2
    go_ret
    exact ⟨rfl, hb1⟩
  by_cases h2 : 40000 < n
  · have h2' : (40000 : Int) < n := by omega
    go_wp2
    go_ret
    exact ⟨rfl, hb1⟩
  have h2' : ¬ (40000 : Int) < n := by omega
  obtain ⟨M, rfl⟩ := Int.eq_ofNat_of_zero_le (Int.not_lt.1 h0)
  have hM : M ≤ 40000 := by omega
  have HS1 : Hid (Bytes w1 a n bs) := HS.out.later hb1
  clear HS
  have hn40 : n + M ≤ 80000 := by omega
  go_wp2_with (at_builtin; refine wpList_append_bytes rfl (.const (.slice none 0 0)) (.tmp 27) rfl w1.heap.size none 0 0 [] rfl rfl (Own.nil _ _) a n cap bs rfl HS1.out Hnil.out (by omega) w1 (Below.refl _ _) (Nat.le_refl _) ?_; intro a2 c2 w2 HO2 hb2 hs2)
  have HO2' : Hid (Own w2 w1.heap.size a2 c2 (bs ++ List.replicate 0 t)) := by show Own _ _ _ _ _; simpa using HO2.out
  have Hfit : Hid (∀ z ∈ bs, 0 ≤ z ∧ z ≤ 255) := HS1.out.fit
  have Hbl : Hid (bs.length = n) := HS1.out.n
  clear HO2 HS1 Hnil
  go_loopw [8, 9] (fun v i wr => ∃ (I : Nat) (a3 : Option Addr) (c3 : Nat), I ≤ M ∧ i = .int .i64 (I : Int) ∧ v = .slice a3 (n + I) c3 ∧ Hid (Own wr w1.heap.size a3 c3 (bs ++ List.replicate I t)) ∧ Below w1.heap.size w1 wr ∧ w1.heap.size ≤ wr.heap.size) (fun _ i _ => M - (intOf i).toNat)
  case atStart => exact ⟨0, a2, c2, Nat.zero_le _, rfl, rfl, HO2', hb2, hs2⟩
  case round =>
    obtain ⟨I, a3, c3, hI, rfl, rfl, HO3, hb3, hs3⟩ := hrel
    clear HO2' hb2 hs2
    have HL3 : Hid ((bs ++ List.replicate I t).length = n + I) := by show _ = _; rw [List.length_append, Hbl.out, List.length_replicate]
    by_cases hlt : I < M
    · have hlt' : (I : Int) < (M : Int) := by omega
      have HO4 : Hid (Own (wr.alloc (.cells #[.int .u8 t] 5)) w1.heap.size a3 c3 (bs ++ List.replicate I t)) := HO3.out.later ((Below.refl _ _).alloc (Nat.le_refl _) _)
      have HB4 : Hid _ := oneByte wr t Ht.out
      have HA4 : Hid _ := belowAlloc hb3 hs3 (.cells #[.int .u8 t] 5)
      have HAN : Hid (n + I + 1 ≤ 140737488355328) := by show _ ≤ _; omega
      clear HO3 hb3 hs3
      go_wp2_with (at_builtin; refine wpList_append_bytes rfl (.tmp 34) (.tmp 36) rfl w1.heap.size a3 (n + I) c3 (bs ++ List.replicate I t) HL3.out rfl HO4.out _ 1 1 [t] rfl HB4.out (fun h => by cases h) HAN.out w1 HA4.out.1 HA4.out.2 ?_; intro a5 c5 w5 HO5 hb5 hs5)
      have HO6 : Hid (Own w5 w1.heap.size a5 c5 (bs ++ List.replicate (I + 1) t)) := by
        show Own _ _ _ _ _
        rw [List.replicate_succ', ← List.append_assoc]
        exact HO5.out
      clear HO5
      go_roundw
      case rel => exact ⟨I + 1, a5, c5, by omega, by go_num, by first | rfl | simp [Nat.add_assoc], HO6, hb5, hs5⟩
      case measure => simp [intOf]; omega
    · obtain rfl : I = M := by omega
      have hlt' : ¬ (I : Int) < (I : Int) := by omega
      have hfitB : ∀ z ∈ bs ++ List.replicate I t, 0 ≤ z ∧ z ≤ 255 := fit_append Hfit.out (fun z hz => by rw [List.eq_of_mem_replicate hz]; exact Ht.out)
      have hB3 : Bytes wr a3 (n + I) (bs ++ List.replicate I t) := HO3.out.bytes hfitB (n + I) HL3.out
      have hc3 : n + I ≤ c3 := by
        rcases HO3.out.parts with ⟨_, _, e⟩ | ⟨_, _, _, _, _, _, h⟩
        · rw [← HL3.out, e]; exact Nat.zero_le _
        · rw [← HL3.out]; exact h
      have R3 : Below w.heap.size w wr := hb1.trans (hb3.mono hb1.size)
      have hok : (decL (bs ++ List.replicate I t)).1 = 0 → (decL (bs ++ List.replicate I t)).2.length = 32768 ∧ Kinds (decL (bs ++ List.replicate I t)).2 := fun h => dec_ok hfitB h
      have hDec := HD.out a3 (n + I) c3 _ wr hB3 hc3 (by omega)
      generalize decL (bs ++ List.replicate I t) = D at hDec hok
      obtain ⟨q, cs⟩ := D
      have HOK : Hid (q = 0 → cs.length = 32768 ∧ Kinds cs) := hok
      clear HO3 HL3 hfitB hB3 hc3 hb3 hs3 hok Hfit Hbl
      go_wp2_with fail
      refine hDec.mono ?_
      clear hDec
      rintro _ w4 ⟨hb4, ⟨hq, g, hg, rfl, hB4⟩ | ⟨hq, rfl⟩⟩
      · obtain ⟨hlen, hkin⟩ := HOK.out hq
        have R4 := R3.trans (hb4.mono R3.size)
        have hEnc := HE.out g cs w4 hB4 hlen hkin
        have HDE : Hid (decL (encL cs) = (0, cs)) := dec_enc hkin hlen
        have HEL : Hid ((encL cs).length ≤ 32788) := enc_len cs
        obtain ⟨X, hX⟩ : ∃ X, X = encL cs := ⟨_, rfl⟩
        rw [← hX] at hEnc HDE HEL
        obtain ⟨m, hm⟩ : ∃ m, m = X.length := ⟨_, rfl⟩
        rw [← hm] at hEnc HEL
        clear hX hm HE HOK R3 hb4 hq hg
        go_wp2_with fail
        refine hEnc.mono ?_
        clear hEnc
        rintro _ w5 ⟨x5, c5, rfl, hX5, hc5, hb5⟩
        have R5 := R4.trans (hb5.mono R4.size)
        have hB5 := hB4.below hb5 hB4.lt
        have hm1 := HEL.out
        have hDec := HD.out x5 m c5 X w5 hX5 hc5 (by omega)
        rw [HDE.out] at hDec
        clear hB4 hb5 R4 hX5 HD HDE HEL hc5
        go_wp2_with fail
        refine hDec.mono ?_
        clear hDec
        rintro _ w6 ⟨hb6, ⟨_, d, hd, rfl, hD6⟩ | ⟨h0, _⟩⟩
        · have R6 := R5.trans (hb6.mono R5.size)
          have hB6 := hB5.below hb6 hB5.lt
          clear hB5 hb6 R5
          go_wp2_with fail
          refine (diff_like g d cs _ hB6 hD6 hlen).mono ?_
          rintro _ w7 ⟨rfl, _, hb7⟩
          have R7 := R6.trans (hb7.mono R6.size)
          clear hb7 R6 hB6 hD6
          go_wp2
          go_ret
          exact ⟨rfl, R7⟩
        · exact absurd rfl h0
      · have R4 := R3.trans (hb4.mono R3.size)
        have hq' : ¬ q = 0 := hq
        clear HOK HE HD R3 hb4
        go_wp2
        go_ret
        exact ⟨rfl, R4⟩
end Go.Proofs.Ytdkihhjhjfkjjaa
