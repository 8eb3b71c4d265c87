/-
  The walk of CodecEncodes, over what the program's Encode and Decode say.
-/
import Derived.Test.YtdkihhjhjfkjjaaHyps
import Derived.Test.YtdkihhjhjfkjjaaRenc
import Derived.Test.YtdkihhjhjfkjjaaFits
import Derived.Test.YtdkihhjhjfkjjaaFrame
import Derived.Deep.RegionWith
namespace Go.Proofs.Ytdkihhjhjfkjjaa
open Go.RowKit

set_option maxRecDepth 100000 in
set_option maxHeartbeats 4000000 in
theorem codecEncodes_walk (hE : EncSays) (hA : AwakeSays) (a : Option Addr) (n cap : Nat) (s : Option Addr) (ns caps : Nat) (w : World) (hR : Runs w a n) (hI : Nums w s ns) :
    Calls Try.prog 3 #[.slice a n cap, .slice s ns caps] w fun e w' => e = .returned (.bool true) ∧ Below w.heap.size w w' := by
  have HE : Hid EncSays := hE
  have HR : Hid (Runs w a n) := hR
  have HI : Hid (Nums w s ns) := hI
  have hAw := hA w
  clear hE hA hR hI
  go_enter Try.func3, Try.ntmps3
  go_wp2_with fail
  refine hAw.mono ?_
  clear hAw
  rintro _ w1 ⟨rfl, hb1⟩
  by_cases hn : 1000 < n
  · have hn' : (1000 : Int) < n := by omega
    clear HR HI HE
    go_wp2
    go_ret
    exact ⟨rfl, hb1⟩
  by_cases hs : 10000 < ns
  · have hn' : ¬ (1000 : Int) < n := by omega
    have hs' : (10000 : Int) < ns := by omega
    clear HR HI HE
    go_wp2
    go_ret
    exact ⟨rfl, hb1⟩
  have hn' : ¬ (1000 : Int) < n := by omega
  have hs' : ¬ (10000 : Int) < ns := by omega
  have hce := cells_c a n cap s ns caps w1 (HR.out.on hb1) (HI.out.on hb1) (by omega) (by omega)
  go_wp2_with fail
  refine hce.mono ?_
  clear hce hn hs hn' hs' HR HI
  rintro _ w2 ⟨rfl, cs, hB2, hlen, hkin, hb2⟩
  have R2 := hb1.trans (hb2.mono hb1.size)
  have hg2 : w1.heap.size < w2.heap.size := hB2.lt
  have hS := hB2.src hkin
  rw [hlen] at hS
  clear hb1 hb2
  generalize w1.heap.size = g at *
  go_wp2_with fail
  refine (made_c _ 32768 32768 cs _ hS (by omega) (hkin.may hlen)).mono ?_
  rintro _ w3 ⟨rfl, hC3, hb3⟩
  have R3 := R2.trans (hb3.mono R2.size)
  have hB3 := hB2.below hb3 hg2
  have hc3 : w2.heap.size < w3.heap.size := hC3.lt
  clear hS hB2 hb3 R2
  generalize w2.heap.size = c at *
  obtain ⟨X, hX⟩ : ∃ X, X = encL cs := ⟨_, rfl⟩
  obtain ⟨m, hm⟩ : ∃ m, m = X.length := ⟨_, rfl⟩
  have HXf : Hid (∀ w a c, Own w w3.heap.size a c X → Bytes w a m X → True) := fun _ _ _ _ _ => trivial
  clear HXf
  have HC : Hid (∀ w, Blk w c 61 cs → Calls Try.prog 12 #[.pointer (some ⟨c, 0, none⟩)] w fun e w' => ∃ a k, e = .returned (.slice a m k) ∧ Bytes w' a m X ∧ m ≤ k ∧ Below w.heap.size w w') := fun w hw => by
    have h := HE.out c cs w hw hlen hkin
    rw [← hX, ← hm] at h
    exact h
  have Hfit : Hid (∀ z ∈ X, 0 ≤ z ∧ z ≤ 255) := by rw [hX]; exact enc_fit hkin hlen
  have HRf : Hid (∀ w, Blk w g 5 cs → Calls Try.prog 13 #[.slice (some ⟨g, 0, none⟩) 32768 32768] w fun e w' => ∃ a k, e = .returned (.slice a m k) ∧ Bytes w' a m X ∧ Below w.heap.size w w') := fun w hw => by
    refine (rencode_c g cs w hw hlen hkin).mono ?_
    rintro _ w' ⟨a, k, rfl, hO, hb⟩
    rw [← hX] at hO
    exact ⟨a, k, by rw [← hX, ← hm], hO.bytes Hfit.out m hm.symm, hb⟩
  clear HE hX hm Hfit
  go_wp2_with fail
  go_region_with (first
    | (go_at_call 12; refine (HC.out _ (by exact hC3)).mono ?_; rintro e w4 ⟨x4, k4, rfl, hX4, _, hb4⟩; have R4 := R3.drew.trans (hb4.mono R3.size); have hB4 : Blk w4 g 5 cs := Blk.below (by exact hB3) hb4 (by exact hB3.lt); have hC4 : Blk w4 c 61 cs := Blk.below (by exact hC3) hb4 (by exact hc3); have v4 : (convert 25 9 (.slice x4 m k4)).run Try.prog w4 = .ok (.string (strOfNums X)) w4 := conv_c hX4.src; clear hb4)
    | (go_at_call 13; refine (HRf.out _ (by exact hB4)).mono ?_; rintro e w5 ⟨x5, k5, rfl, hX5, hb5⟩; have R5 := R4.trans (hb5.mono R4.size); have hB5 : Blk w5 g 5 cs := Blk.below (by exact hB4) hb5 (by exact hB4.lt); have hC5 : Blk w5 c 61 cs := Blk.below (by exact hC4) hb5 (by exact hC4.lt); have hX45 : Bytes w5 x4 m X := Bytes.later (by exact hX4) hb5; have v5 : (convert 25 9 (.slice x4 m k4)).run Try.prog w5 = .ok (.string (strOfNums X)) w5 := conv_c hX45.src; have v55 : (convert 25 9 (.slice x5 m k5)).run Try.prog w5 = .ok (.string (strOfNums X)) w5 := conv_c hX5.src; have vb5 : (convert 25 9 (.slice (some ⟨g, 0, none⟩) 32768 32768)).run Try.prog w5 = .ok (.string (strOfNums cs)) w5 := Blk.conv hB5 hlen hkin; clear hb5)
    | (go_at_call 14; refine (bytes_c c cs _ (by exact hC5) hlen).mono ?_; rintro e w6 ⟨rfl, hB6, hb6⟩; have v6 : (convert 25 9 (.slice (some ⟨w5.heap.size, 0, none⟩) 32768 32768)).run Try.prog w6 = .ok (.string (strOfNums cs)) w6 := hB6.conv hlen hkin; have v7 : (convert 25 9 (.slice (some ⟨g, 0, none⟩) 32768 32768)).run Try.prog w6 = .ok (.string (strOfNums cs)) w6 := Blk.conv (Blk.below (by exact hB5) hb6 (by exact hB5.lt)) hlen hkin; have R6 := R5.trans (hb6.mono R5.size); have v8 : (convert 25 9 (.slice x4 m k4)).run Try.prog w6 = .ok (.string (strOfNums X)) w6 := conv_c (Bytes.later (by exact hX45) hb6).src; have v9 : (convert 25 9 (.slice x5 m k5)).run Try.prog w6 = .ok (.string (strOfNums X)) w6 := conv_c (Bytes.later (by exact hX5) hb6).src; clear hb6 hB6))
  all_goals (go_wp2; go_ret; exact ⟨rfl, R6⟩)
end Go.Proofs.Ytdkihhjhjfkjjaa
