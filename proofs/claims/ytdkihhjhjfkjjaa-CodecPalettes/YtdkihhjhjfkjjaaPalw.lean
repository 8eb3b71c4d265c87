/-
  The walk of CodecPalettes, over what the program's Encode says.
-/
import Derived.Test.YtdkihhjhjfkjjaaHyps
import Derived.Test.YtdkihhjhjfkjjaaFrame
import Derived.Test.YtdkihhjhjfkjjaaPals
namespace Go.Proofs.Ytdkihhjhjfkjjaa
open Go.RowKit

set_option maxRecDepth 100000 in
set_option maxHeartbeats 4000000 in
theorem codecPalettes_walk (hE : EncSays) (hA : AwakeSays) (a : Option Addr) (n cap : Nat) (s : Option Addr) (ns caps : Nat) (w : World) (hR : Runs w a n) (hI : Nums w s ns) :
    Calls Try.prog 7 #[.slice a n cap, .slice s ns caps] w fun e w' => e = .returned (.bool true) ∧ Below w.heap.size w w' := by
  have HE : Hid EncSays := hE
  have HR : Hid (Runs w a n) := hR
  have HI : Hid (Nums w s ns) := hI
  have hAw := hA w
  clear hE hA hR hI
  go_enter Try.func7, Try.ntmps7
  go_wp2_with fail
  refine hAw.mono ?_
  clear hAw
  rintro _ w1 ⟨rfl, hb1⟩
  by_cases hn : 1000 < n
  · have hn' : (1000 : Int) < n := by omega
    clear HR HI HE
    go_wp2
    go_ret
    exact ⟨rfl, hb1⟩
  by_cases hs : 10000 < ns
  · have hn' : ¬ (1000 : Int) < n := by omega
    have hs' : (10000 : Int) < ns := by omega
    clear HR HI HE
    go_wp2
    go_ret
    exact ⟨rfl, hb1⟩
  have hn' : ¬ (1000 : Int) < n := by omega
  have hs' : ¬ (10000 : Int) < ns := by omega
  have hce := cells_c a n cap s ns caps w1 (HR.out.on hb1) (HI.out.on hb1) (by omega) (by omega)
  go_wp2_with fail
  refine hce.mono ?_
  clear hce hn hs hn' hs' HR HI
  rintro _ w2 ⟨rfl, cs, hB2, hlen, hkin, hb2⟩
  have R2 := hb1.trans (hb2.mono hb1.size)
  have hS := hB2.src hkin
  rw [hlen] at hS
  clear hb1 hb2 hB2
  generalize w1.heap.size = g at *
  go_wp2_with fail
  refine (made_c _ 32768 32768 cs _ hS (by omega) (hkin.may hlen)).mono ?_
  rintro _ w3 ⟨rfl, hC3, hb3⟩
  have R3 := R2.trans (hb3.mono R2.size)
  clear hS hb3 R2
  generalize w2.heap.size = c at *
  have hEnc := HE.out c cs w3 hC3 hlen hkin
  obtain ⟨f, rest, hf, he⟩ := enc_head cs
  have Hat : Hid (∀ k : Nat, k < 17 → (k : Int) ∈ cs → 2 + (palTo cs k).length < (encL cs).length ∧ (encL cs).getD (2 + (palTo cs k).length) 0 = k) := fun k hk hm => enc_at he k hk hm
  have H0 : Hid ((encL cs).getD 0 0 = f) := by show _ = _; rw [he]; rfl
  have H1 : Hid ((encL cs).getD 1 0 = ((palTo cs 17).length : Int)) := by show _ = _; rw [he]; rfl
  have H2 : Hid (2 ≤ (encL cs).length) := by show _ ≤ _; rw [he]; unfold headL; simp
  have HEL : Hid ((encL cs).length ≤ 32788) := enc_len cs
  obtain ⟨X, hX⟩ : ∃ X, X = encL cs := ⟨_, rfl⟩
  rw [← hX] at hEnc Hat H0 H1 H2 HEL
  obtain ⟨m, hm⟩ : ∃ m, m = X.length := ⟨_, rfl⟩
  rw [← hm] at hEnc Hat H2 HEL
  have HCn : Hid (∀ j : Nat, j < 17 → ((cntTo cs 32768).getD j 0 = 0 ↔ ¬ (j : Int) ∈ cs)) := fun j hj => cnt_mem hlen hkin j hj
  clear hX hm HE he
  go_wp2_with fail
  refine hEnc.mono ?_
  clear hEnc
  rintro _ w4 ⟨x4, c4, rfl, hX4, hc4, hb4⟩
  have R4 := R3.trans (hb4.mono R3.size)
  have hC4 := hC3.below hb4 hC3.lt
  have HX4 : Hid (Bytes w4 x4 m X) := hX4
  clear hC3 hb4 R3 hX4 hc4
  go_wp2_with fail
  refine (counts_c c cs _ hC4 hlen hkin).mono ?_
  rintro _ w5 ⟨rfl, hN5, hb5⟩
  have R5 := R4.trans (hb5.mono R4.size)
  have HX5 : Hid (Bytes w5 x4 m X) := HX4.out.later hb5
  have HN5 : Hid (B64k w5 w4.heap.size 3 (cntTo cs 32768)) := hN5
  have HCl : Hid ((cntTo cs 32768).length = 17) := cntTo_length cs 32768
  clear hC4 hb5 R4 HX4 hN5
  generalize w4.heap.size = k4 at *
  generalize cntTo cs 32768 = N at *
  obtain ⟨b, o, z0, rfl, hcell0, _, _, hI0, hz0⟩ := HX5.out.get 0 (by have := H2.out; omega)
  have e0 : z0 = f := by rw [hz0, ← H0.out, List.getD_eq_getElem?_getD, List.getElem?_eq_getElem hI0]; rfl
  have hf0 : z0 = 1 ∨ z0 = 2 := by rw [e0]; exact hf
  have hm2 : ¬ (m : Int) < 2 := by have := H2.out; omega
  have hm0 : (0 : Int) < m := by have := H2.out; omega
  have hm1 : (1 : Int) < m := by have := H2.out; omega
  clear hz0 hI0 e0 hf H0 hlen hkin
  have HAll : Hid (∀ k, (palTo cs k).length ≤ k) := palTo_len cs
  rw [Nat.add_zero] at hcell0
  rcases hf0 with rfl | rfl
  all_goals
    go_wp2
    clear hcell0
    go_loopw [9, 10] (fun t i wr => ∃ K A : Nat, K ≤ 17 ∧ A ≤ K ∧ i = .int .i64 (K : Int) ∧ t = .int .i64 ((2 + A : Nat) : Int) ∧ Hid (A = (palTo cs K).length) ∧ Below w5.heap.size w5 wr) (fun _ i _ => 17 - (intOf i).toNat)
    case atStart => exact ⟨0, 0, by omega, by omega, rfl, rfl, (show _ = _ by simp [palTo]), Below.refl _ _⟩
    case round =>
      obtain ⟨K, A, hK, hAK, rfl, rfl, HAe, hb⟩ := hrel
      have hN : B64k wr k4 3 N := HN5.out.below hb HN5.out.lt
      have hX := HX5.out.later hb
      have Rr := R5.trans (hb.mono R5.size)
      by_cases hlt : K < 17
      · have hlt' : (K : Int) < 17 := by omega
        have hcn := hN.cell (k := K) (by rw [HCl.out]; exact hlt)
        have hcm := HCn.out K hlt
        generalize N.getD K 0 = v at hcn hcm
        by_cases hv : v = 0
        · subst hv
          have hnot : ¬ (K : Int) ∈ cs := hcm.1 rfl
          have HA2 : Hid (A = (palTo cs (K + 1)).length) := by show _ = _; rw [palTo, if_neg hnot]; exact HAe.out
          clear hcm hnot HAe hN hX
          go_wp2
          go_roundw
          case rel => exact ⟨K + 1, A, by omega, by omega, by go_num, rfl, HA2, ⟨hb.os, hb.tape, hb.output, hb.size, hb.block⟩⟩
          case measure => simp [intOf]; omega
        · have hin : (K : Int) ∈ cs := by
            by_cases h : (K : Int) ∈ cs
            · exact h
            · exact absurd (hcm.2 h) hv
          have hat := Hat.out K hlt hin
          rw [← HAe.out] at hat
          have HA2 : Hid (A + 1 = (palTo cs (K + 1)).length) := by show _ = _; rw [palTo, if_pos hin, List.length_append, ← HAe.out]; rfl
          obtain ⟨b', o', z, e, hcz, z0, z1, hIz, hz⟩ := hX.get (2 + A) hat.1
          cases e
          have ez : z = (K : Int) := by rw [hz, ← hat.2, List.getD_eq_getElem?_getD, List.getElem?_eq_getElem hIz]; rfl
          subst ez
          have hge : ¬ (m : Int) ≤ ((2 + A : Nat) : Int) := by omega
          have hge2 : ((2 + A : Nat) : Int) < (m : Int) := by omega
          obtain ⟨T, hT⟩ : ∃ T, T = 2 + A := ⟨_, rfl⟩
          rw [← hT] at hcz hge hge2 ⊢
          have HT : Hid (T = 2 + A) := hT
          have hTb : T ≤ 19 := by omega
          clear hcm hin HAe hN hX hat hz hIz hT
          go_wp2
          go_roundw
          case rel => exact ⟨K + 1, A + 1, by omega, by omega, by go_num, by have e : T = 2 + A := HT.out; subst e; first | rfl | (simp; omega) | go_num, HA2, ⟨hb.os, hb.tape, hb.output, hb.size, hb.block⟩⟩
          case measure => simp [intOf]; omega
      · obtain rfl : K = 17 := by omega
        obtain ⟨b', o', z, e, hcz, z0, z1, hIz, hz⟩ := hX.get 1 (by omega)
        cases e
        have ez : z = (A : Int) := by rw [hz, HAe.out, ← H1.out, List.getD_eq_getElem?_getD, List.getElem?_eq_getElem hIz]; rfl
        subst ez
        have hsub : ((2 + A : Nat) : Int) - 2 = (A : Int) := by omega
        obtain ⟨T, hT⟩ : ∃ T, T = 2 + A := ⟨_, rfl⟩
        rw [← hT] at hsub ⊢
        clear hT HAe hN hX hz hIz
        go_wp2
        go_ret
        exact ⟨rfl, Rr⟩
end Go.Proofs.Ytdkihhjhjfkjjaa
