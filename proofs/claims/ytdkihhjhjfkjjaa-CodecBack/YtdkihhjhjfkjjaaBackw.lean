/-
  The walk of CodecBack, over what the program's Encode and Decode say.
-/
import Derived.Test.YtdkihhjhjfkjjaaHyps
import Derived.Test.YtdkihhjhjfkjjaaFrame
import Derived.Deep.RegionWith
namespace Go.Proofs.Ytdkihhjhjfkjjaa
open Go.RowKit

set_option maxRecDepth 100000 in
set_option maxHeartbeats 4000000 in
theorem codecBack_walk (hE : EncSays) (hD : DecSays) (hA : AwakeSays) (a : Option Addr) (n cap : Nat) (s : Option Addr) (ns caps : Nat) (w : World) (hR : Runs w a n) (hI : Nums w s ns) :
    Calls Try.prog 4 #[.slice a n cap, .slice s ns caps] w fun e w' => e = .returned (.bool true) ∧ Below w.heap.size w w' := by
  have HE : Hid EncSays := hE
  have HD : Hid DecSays := hD
  have HR : Hid (Runs w a n) := hR
  have HI : Hid (Nums w s ns) := hI
  have hAw := hA w
  clear hE hD hA hR hI
  go_enter Try.func4, Try.ntmps4
  go_wp2_with fail
  refine hAw.mono ?_
  clear hAw
  rintro _ w1 ⟨rfl, hb1⟩
  by_cases hn : 1000 < n
  · have hn' : (1000 : Int) < n := by omega
    clear HR HI HE HD
    go_wp2
    go_ret
    exact ⟨rfl, hb1⟩
  by_cases hs : 10000 < ns
  · have hn' : ¬ (1000 : Int) < n := by omega
    have hs' : (10000 : Int) < ns := by omega
    clear HR HI HE HD
    go_wp2
    go_ret
    exact ⟨rfl, hb1⟩
  have hn' : ¬ (1000 : Int) < n := by omega
  have hs' : ¬ (10000 : Int) < ns := by omega
  have hce := cells_c a n cap s ns caps w1 (HR.out.on hb1) (HI.out.on hb1) (by omega) (by omega)
  go_wp2_with fail
  refine hce.mono ?_
  clear hce hn hs hn' hs' HR HI
  rintro _ w2 ⟨rfl, cs, hB2, hlen, hkin, hb2⟩
  have R2 := hb1.trans (hb2.mono hb1.size)
  have hg2 : w1.heap.size < w2.heap.size := hB2.lt
  have hS := hB2.src hkin
  rw [hlen] at hS
  clear hb1 hb2
  generalize w1.heap.size = g at *
  go_wp2_with fail
  refine (made_c _ 32768 32768 cs _ hS (by omega) (hkin.may hlen)).mono ?_
  rintro _ w3 ⟨rfl, hC3, hb3⟩
  have R3 := R2.trans (hb3.mono R2.size)
  have hB3 := hB2.below hb3 hg2
  have hc3 : w2.heap.size < w3.heap.size := hC3.lt
  clear hS hB2 hb3 R2
  generalize w2.heap.size = c at *
  have hEnc := HE.out c cs w3 hC3 hlen hkin
  have HDE : Hid (decL (encL cs) = (0, cs)) := dec_enc hkin hlen
  have HEL : Hid ((encL cs).length ≤ 32788) := enc_len cs
  obtain ⟨X, hX⟩ : ∃ X, X = encL cs := ⟨_, rfl⟩
  rw [← hX] at hEnc HDE HEL
  obtain ⟨m, hm⟩ : ∃ m, m = X.length := ⟨_, rfl⟩
  rw [← hm] at hEnc HEL
  clear hX hm HE
  go_wp2_with fail
  refine hEnc.mono ?_
  clear hEnc
  rintro _ w4 ⟨x4, c4, rfl, hX4, hc4, hb4⟩
  have R4 := R3.trans (hb4.mono R3.size)
  have hB4 := hB3.below hb4 (by omega)
  have hm1 := HEL.out
  have hDec := HD.out x4 m c4 X w4 hX4 hc4 (by omega)
  rw [HDE.out] at hDec
  clear hB3 hC3 hb4 R3 hX4 HD HDE HEL hc4
  go_wp2_with fail
  refine hDec.mono ?_
  clear hDec
  rintro _ w5 ⟨hb5, ⟨_, d, hd, rfl, hD5⟩ | ⟨h0, _⟩⟩
  · have R5 := R4.trans (hb5.mono R4.size)
    have hB5 := hB4.below hb5 hB4.lt
    have hm2 : (m : Int) ≤ 32788 := by omega
    clear hB4 hb5 R4
    go_wp2_with fail
    have v5 : (convert 25 9 (.slice (some ⟨g, 0, none⟩) 32768 32768)).run Try.prog w5.drew = .ok (.string (strOfNums cs)) w5.drew := Blk.conv (by exact hB5) hlen hkin
    go_region_with (go_at_call 14; refine (bytes_c d cs _ (by exact hD5) hlen).mono ?_; rintro e w6 ⟨rfl, hB6, hb6⟩; have v6 : (convert 25 9 (.slice (some ⟨w5.heap.size, 0, none⟩) 32768 32768)).run Try.prog w6 = .ok (.string (strOfNums cs)) w6 := hB6.conv hlen hkin; have v7 : (convert 25 9 (.slice (some ⟨g, 0, none⟩) 32768 32768)).run Try.prog w6 = .ok (.string (strOfNums cs)) w6 := Blk.conv (Blk.below (by exact hB5) hb6 (by exact hB5.lt)) hlen hkin; have R6 := R5.drew.trans (hb6.mono R5.size); clear hb6 hB6)
    all_goals (go_wp2; go_ret; exact ⟨rfl, R6⟩)
  · exact absurd rfl h0
end Go.Proofs.Ytdkihhjhjfkjjaa
