/-
  The walk of CodecDecodes, over what the program's Encode and Decode say.
-/
import Derived.Test.YtdkihhjhjfkjjaaBack
import Derived.Test.YtdkihhjhjfkjjaaFrame
import Derived.Test.YtdkihhjhjfkjjaaFits
import Derived.Deep.RegionWith
namespace Go.Proofs.Ytdkihhjhjfkjjaa
open Go.RowKit

set_option maxRecDepth 100000 in
set_option maxHeartbeats 4000000 in
theorem codecDecodes_walk (hD : DecSays) (hA : AwakeSays) (a : Option Addr) (n cap : Nat) (bs : List Int) (many t : Int) (w : World) (hS : Bytes w a n bs) (hnil : a = none → cap = 0) (ht : 0 ≤ t ∧ t ≤ 255) :
    Calls Try.prog 5 #[.slice a n cap, .int .i64 many, .int .u8 t] w fun e w' => e = .returned (.bool true) ∧ Below w.heap.size w w' := by
  have HD : Hid DecSays := hD
  have HS : Hid (Bytes w a n bs) := hS
  have Hnil : Hid (a = none → cap = 0) := hnil
  have Ht : Hid (0 ≤ t ∧ t ≤ 255) := ht
  have hAw := hA w
  clear hD hA hS hnil ht
  go_enter Try.func5, Try.ntmps5
  go_wp2_with fail
  refine hAw.mono ?_
  clear hAw
  rintro _ w1 ⟨rfl, hb1⟩
  by_cases h0 : many < 0
  · go_wp2
    go_ret
    exact ⟨rfl, hb1⟩
  by_cases h1 : 40000 < many
  · go_wp2
    go_ret
    exact ⟨rfl, hb1⟩
  by_cases h2 : 40000 < n
  · have h2' : (40000 : Int) < n := by omega
    go_wp2
    go_ret
    exact ⟨rfl, hb1⟩
  have h2' : ¬ (40000 : Int) < n := by omega
  obtain ⟨M, rfl⟩ := Int.eq_ofNat_of_zero_le (Int.not_lt.1 h0)
  have hM : M ≤ 40000 := by omega
  have HS1 : Hid (Bytes w1 a n bs) := HS.out.later hb1
  clear HS
  have hn40 : n + M ≤ 80000 := by omega
  go_wp2_with (at_builtin; refine wpList_append_bytes rfl (.const (.slice none 0 0)) (.tmp 28) rfl w1.heap.size none 0 0 [] rfl rfl (Own.nil _ _) a n cap bs rfl HS1.out Hnil.out (by omega) w1 (Below.refl _ _) (Nat.le_refl _) ?_; intro a2 c2 w2 HO2 hb2 hs2)
  have HO2' : Hid (Own w2 w1.heap.size a2 c2 (bs ++ List.replicate 0 t)) := by show Own _ _ _ _ _; simpa using HO2.out
  have Hfit : Hid (∀ z ∈ bs, 0 ≤ z ∧ z ≤ 255) := HS1.out.fit
  have Hbl : Hid (bs.length = n) := HS1.out.n
  clear HO2 HS1 Hnil
  go_loopw [8, 9] (fun v i wr => ∃ (I : Nat) (a3 : Option Addr) (c3 : Nat), I ≤ M ∧ i = .int .i64 (I : Int) ∧ v = .slice a3 (n + I) c3 ∧ Hid (Own wr w1.heap.size a3 c3 (bs ++ List.replicate I t)) ∧ Below w1.heap.size w1 wr ∧ w1.heap.size ≤ wr.heap.size) (fun _ i _ => M - (intOf i).toNat)
  case atStart => exact ⟨0, a2, c2, Nat.zero_le _, rfl, rfl, HO2', hb2, hs2⟩
  case round =>
    obtain ⟨I, a3, c3, hI, rfl, rfl, HO3, hb3, hs3⟩ := hrel
    clear HO2' hb2 hs2
    have HL3 : Hid ((bs ++ List.replicate I t).length = n + I) := by show _ = _; rw [List.length_append, Hbl.out, List.length_replicate]
    by_cases hlt : I < M
    · have hlt' : (I : Int) < (M : Int) := by omega
      have HO4 : Hid (Own (wr.alloc (.cells #[.int .u8 t] 5)) w1.heap.size a3 c3 (bs ++ List.replicate I t)) := HO3.out.later ((Below.refl _ _).alloc (Nat.le_refl _) _)
      have HB4 : Hid _ := oneByte wr t Ht.out
      have HA4 : Hid _ := belowAlloc hb3 hs3 (.cells #[.int .u8 t] 5)
      have HAN : Hid (n + I + 1 ≤ 140737488355328) := by show _ ≤ _; omega
      clear HO3 hb3 hs3
      go_wp2_with (at_builtin; refine wpList_append_bytes rfl (.tmp 35) (.tmp 37) rfl w1.heap.size a3 (n + I) c3 (bs ++ List.replicate I t) HL3.out rfl HO4.out _ 1 1 [t] rfl HB4.out (fun h => by cases h) HAN.out w1 HA4.out.1 HA4.out.2 ?_; intro a5 c5 w5 HO5 hb5 hs5)
      have HO6 : Hid (Own w5 w1.heap.size a5 c5 (bs ++ List.replicate (I + 1) t)) := by
        show Own _ _ _ _ _
        rw [List.replicate_succ', ← List.append_assoc]
        exact HO5.out
      clear HO5
      go_roundw
      case rel => exact ⟨I + 1, a5, c5, by omega, by go_num, by first | rfl | simp [Nat.add_assoc], HO6, hb5, hs5⟩
      case measure => simp [intOf]; omega
    · obtain rfl : I = M := by omega
      have hlt' : ¬ (I : Int) < (I : Int) := by omega
      have hfitB : ∀ z ∈ bs ++ List.replicate I t, 0 ≤ z ∧ z ≤ 255 := fit_append Hfit.out (fun z hz => by rw [List.eq_of_mem_replicate hz]; exact Ht.out)
      have hB3 : Bytes wr a3 (n + I) (bs ++ List.replicate I t) := HO3.out.bytes hfitB (n + I) HL3.out
      have hc3 : n + I ≤ c3 := by
        rcases HO3.out.parts with ⟨_, _, e⟩ | ⟨_, _, _, _, _, _, h⟩
        · rw [← HL3.out, e]; exact Nat.zero_le _
        · rw [← HL3.out]; exact h
      have R3 : Below w.heap.size w wr := hb1.trans (hb3.mono hb1.size)
      have hXl := HL3.out
      generalize hXe : bs ++ List.replicate I t = X at *
      obtain ⟨L, hL⟩ : ∃ L, L = n + I := ⟨_, rfl⟩
      have hL80 : L ≤ 80000 := by omega
      rw [← hL] at hB3 hc3 hXl ⊢
      have hok : (decL X).1 = 0 → (decL X).2.length = 32768 ∧ Kinds (decL X).2 := fun h => dec_ok hfitB h
      have hDec := HD.out a3 L c3 _ wr hB3 hc3 (by omega)
      have v3 : (convert 25 9 (.slice a3 L c3)).run Try.prog wr = .ok (.string (strOfNums X)) wr := conv_c hB3.src
      have HB3 : Hid (Bytes wr a3 L X) := hB3
      have HXf : Hid (∀ z ∈ X, 0 ≤ z ∧ z ≤ 255) := hfitB
      have HXl : Hid (X.length = L) := hXl
      have HOK : Hid ((decL X).1 = 0 → (decL X).2.length = 32768 ∧ Kinds (decL X).2) := hok
      clear HO3 HL3 hfitB hB3 hc3 hb3 hs3 hok Hfit Hbl hXe hL hXl HD hb1 Ht
      go_wp2_with fail
      refine hDec.mono ?_
      clear hDec v3
      rintro _ w4 ⟨hb4, hr4⟩
      obtain ⟨k5, w5, hconv, hB5, hk5, hb5⟩ := back_bytes w4 X HXf.out L HXl.out
      have R4 := R3.trans (hb4.mono R3.size)
      have R5 := R4.trans (hb5.mono R4.size)
      have HB5 : Hid (Bytes w5 a3 L X) := (HB3.out.later hb4).later hb5
      have hRef := rdecode_c _ L k5 X w5 hB5 hk5 (by omega)
      have hBlk : ∀ g cs, Blk w4 g 61 cs → Blk w5 g 61 cs := fun g cs h => h.below hb5 h.lt
      have HBlk : Hid (∀ g cs, Blk w4 g 61 cs → Blk w5 g 61 cs) := hBlk
      clear hb4 hb5 R3 R4 HB3 hB5 hk5 hBlk HXf HXl
      generalize decL X = D at hr4 hRef HOK
      obtain ⟨q, cs⟩ := D
      rcases hr4 with ⟨hq, g, hg, rfl, hB4⟩ | ⟨hq, rfl⟩
      · obtain rfl : q = 0 := hq
        obtain ⟨hlen, hkin⟩ := HOK.out rfl
        have hG5 := HBlk.out g cs hB4
        clear HOK HBlk hB4 hg
        go_wp2_with fail
        refine hRef.mono ?_
        clear hRef hconv
        rintro _ w6 ⟨hb6, ⟨_, a6, c6, rfl, hO6⟩ | ⟨h0, _⟩⟩
        · have R6 := R5.trans (hb6.mono R5.size)
          have hG6 := hG5.below hb6 hG5.lt
          have hX6 := HB5.out.later hb6
          have hD6 : Bytes w6 a6 32768 cs := hO6.bytes (fun z hz => by have := hkin z hz; omega) 32768 hlen
          have v6 : (convert 25 9 (.slice a3 L c3)).run Try.prog w6 = .ok (.string (strOfNums X)) w6 := conv_c hX6.src
          clear hb6 R5 hG5 hO6 HB5 hX6
          have hD7 : Bytes w6.drew a6 32768 cs := hD6.later (Below.refl _ _).drew
          have v7 : (convert 25 9 (.slice a6 32768 c6)).run Try.prog w6.drew = .ok (.string (strOfNums cs)) w6.drew := conv_c hD7.src
          go_wp2_with fail
          go_region_with (go_at_call 14; refine (bytes_c g cs _ (by exact hG6) hlen).mono ?_; rintro e w8 ⟨rfl, hB8, hb8⟩; have v8 : (convert 25 9 (.slice (some ⟨w6.heap.size, 0, none⟩) 32768 32768)).run Try.prog w8 = .ok (.string (strOfNums cs)) w8 := hB8.conv hlen hkin; have v9 : (convert 25 9 (.slice a6 32768 c6)).run Try.prog w8 = .ok (.string (strOfNums cs)) w8 := conv_c (Bytes.later hD7 hb8).src; have R8 := R6.drew.trans (hb8.mono R6.size); clear hb8 hB8)
          all_goals (go_wp2; go_ret; exact ⟨rfl, R8⟩)
        · exact absurd rfl h0
      · have hq' : ¬ q = 0 := hq
        clear HOK HBlk
        go_wp2_with fail
        refine hRef.mono ?_
        clear hRef hconv
        rintro _ w6 ⟨hb6, ⟨h0, _⟩ | ⟨_, rfl⟩⟩
        · exact absurd h0 hq
        have R6 := R5.trans (hb6.mono R5.size)
        have hX6 := HB5.out.later hb6
        have v6 : (convert 25 9 (.slice a3 L c3)).run Try.prog w6 = .ok (.string (strOfNums X)) w6 := conv_c hX6.src
        clear hb6 R5 HB5 hX6
        have hqb : (q != 0) = true := by simp [hq']
        go_wp2_with fail
        go_big_quiet (fail)
        go_wp2
        go_ret
        exact ⟨rfl, ⟨R6.os, R6.tape, R6.output, R6.size, R6.block⟩⟩
end Go.Proofs.Ytdkihhjhjfkjjaa
