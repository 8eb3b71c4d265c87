/-
  The chapter's examples, over what the program's Encode and Decode say.
-/
import Derived.Test.YtdkihhjhjfkjjaaExs
import Derived.Test.YtdkihhjhjfkjjaaHyps
namespace Go.Proofs.Ytdkihhjhjfkjjaa
open Go.RowKit

theorem bytes_new (w : World) (zs : List Int) (h : ∀ z ∈ zs, 0 ≤ z ∧ z ≤ 255) (n : Nat) (hn : zs.length = n) : Bytes (w.alloc (.cells (vals zs) 5)) (some ⟨w.heap.size, 0, none⟩) n zs :=
  Src.bytes ⟨hn, fun k hk => ⟨w.heap.size, 0, rfl, by rw [World.size_alloc]; omega, by rw [Nat.zero_add]; exact (Blk.new w 5 zs).cell (by omega)⟩, fun k => by
    by_cases hk : k < zs.length
    · rw [List.getD_eq_getElem?_getD, List.getElem?_eq_getElem hk]
      exact h _ (List.getElem_mem hk)
    · rw [List.getD_eq_getElem?_getD, List.getElem?_eq_none (by omega)]
      simp⟩

set_option maxRecDepth 100000 in
set_option maxHeartbeats 4000000 in
theorem awake_of (hE : EncSays) (hN : EncNil) (hD : DecSays) : AwakeSays := by
  intro w
  have HE : Hid EncSays := hE
  have HD : Hid DecSays := hD
  have HNl : Hid EncNil := hN
  clear hE hD hN
  go_enter Try.func9, Try.ntmps9
  go_wp2_with fail
  refine (new_c w).mono ?_
  rintro _ w1 ⟨rfl, e1⟩
  have hZ : (List.replicate 32768 (0 : Int)).length = 32768 := List.length_replicate
  have hK : Kinds (List.replicate 32768 (0 : Int)) := fun x hx => by rw [List.eq_of_mem_replicate hx]; omega
  have hez := enc_zero
  generalize List.replicate 32768 (0 : Int) = Z at *
  have hB1 : Blk w1 w.heap.size 61 Z := by rw [e1]; exact Blk.new w 61 _
  have R1 : Below w.heap.size w w1 := by rw [e1]; exact (Below.refl _ _).alloc (Nat.le_refl _) _
  clear e1
  have hEnc := HE.out _ Z w1 hB1 hZ hK
  rw [hez] at hEnc
  clear hez hZ hK hB1 HE
  go_wp2_with fail
  refine hEnc.mono ?_
  clear hEnc
  rintro _ w2 ⟨x2, c2, rfl, hX2, hc2, hb2⟩
  have R2 := R1.trans (hb2.mono R1.size)
  have HX2 : Hid (Bytes w2 x2 7 [1, 1, 0, 128, 128, 2, 0]) := hX2
  have hnil : x2 = none → c2 = 0 := fun e => by
    rcases hX2.cells with h | ⟨b, o, h, _⟩
    · cases h
    · rw [e] at h; cases h
  have Hnil : Hid (x2 = none → c2 = 0) := hnil
  clear R1 hb2 hX2 hc2 hnil
  rw [show ([1, 1, 0, 128, 128, 2, 0] : List Int).length = 7 from rfl]
  go_wp2_with (first
    | (at_builtin; have HO4 : Hid _ := HO3.out.later ((Below.refl _ _).alloc (Nat.le_refl _) (.cells #[.int .u8 0] 5)); have HA4 : Hid _ := belowAlloc hb3 hs3 (.cells #[.int .u8 0] 5); have HB4 : Hid _ := oneByte w3 0 (by omega); refine wpList_append_bytes rfl (.tmp 18) (.tmp 19) rfl w2.heap.size a3 7 c3 [1, 1, 0, 128, 128, 2, 0] rfl rfl HO4.out _ 1 1 [0] rfl HB4.out (fun h => by cases h) (by omega) w2 HA4.out.1 HA4.out.2 ?_; clear HO3 HO4 HA4 HB4 hb3 hs3; intro a5 c5 w5 HO5 hb5 hs5)
    | (at_builtin; refine wpList_append_bytes rfl (.const (.slice none 0 0)) (.tmp 17) rfl w2.heap.size none 0 0 [] rfl rfl (Own.nil _ _) x2 7 c2 [1, 1, 0, 128, 128, 2, 0] rfl HX2.out Hnil.out (by omega) w2 (Below.refl _ _) (Nat.le_refl _) ?_; intro a3 c3 w3 HO3 hb3 hs3))
  have hX5 : Bytes w5 a5 8 ([1, 1, 0, 128, 128, 2, 0] ++ [0]) := HO5.out.bytes (by decide) 8 rfl
  have hc5 : 8 ≤ c5 := by
    rcases HO5.out.parts with ⟨_, _, e⟩ | ⟨_, _, _, _, _, _, h⟩
    · cases e
    · exact h
  have hDec := HD.out a5 8 c5 _ w5 hX5 hc5 (by omega)
  rw [dec_ex1] at hDec
  have R5 := R2.trans (hb5.mono R2.size)
  have HX5 : Hid (Bytes w5 x2 7 [1, 1, 0, 128, 128, 2, 0]) := HX2.out.later hb5
  clear HX2 Hnil R2 HO5 hb5 hs5 hX5 hc5
  refine hDec.mono ?_
  clear hDec
  rintro _ w6 ⟨hb6, ⟨h0, _⟩ | ⟨_, rfl⟩⟩
  · cases h0
  have R6 := R5.trans (hb6.mono R5.size)
  have HX6 : Hid (Bytes w6 x2 7 [1, 1, 0, 128, 128, 2, 0]) := HX5.out.later hb6
  clear HX5 R5 hb6
  have hDec := HD.out (some ⟨w6.heap.size, 0, none⟩) 3 3 [2, 1, 3] (w6.alloc (.cells #[.int .u8 2, .int .u8 1, .int .u8 3] 5)) (bytes_new w6 [2, 1, 3] (by decide) 3 rfl) (by omega) (by omega)
  rw [dec_ex2] at hDec
  go_wp2_with fail
  refine hDec.mono ?_
  clear hDec
  rintro _ w7 ⟨hb7, ⟨h0, _⟩ | ⟨_, rfl⟩⟩
  · cases h0
  have hq6 : Below w6.heap.size w6 (w6.alloc (.cells #[.int .u8 2, .int .u8 1, .int .u8 3] 5)) := (Below.refl _ _).alloc (Nat.le_refl _) _
  have hp6 : Below w6.heap.size w6 w7 := hq6.trans (hb7.mono hq6.size)
  have R7 := R6.trans (hp6.mono R6.size)
  have HX7 : Hid (Bytes w7 x2 7 [1, 1, 0, 128, 128, 2, 0]) := HX6.out.later hp6
  clear HX6 R6 hb7 hp6 hq6
  have hDec := HD.out (some ⟨w7.heap.size, 0, none⟩) 4 4 [3, 1, 0, 0] (w7.alloc (.cells #[.int .u8 3, .int .u8 1, .int .u8 0, .int .u8 0] 5)) (bytes_new w7 [3, 1, 0, 0] (by decide) 4 rfl) (by omega) (by omega)
  rw [dec_ex3] at hDec
  go_wp2_with fail
  refine hDec.mono ?_
  clear hDec
  rintro _ w8 ⟨hb8, ⟨h0, _⟩ | ⟨_, rfl⟩⟩
  · cases h0
  have hq7 : Below w7.heap.size w7 (w7.alloc (.cells #[.int .u8 3, .int .u8 1, .int .u8 0, .int .u8 0] 5)) := (Below.refl _ _).alloc (Nat.le_refl _) _
  have hp7 : Below w7.heap.size w7 w8 := hq7.trans (hb8.mono hq7.size)
  have R8 := R7.trans (hp7.mono R7.size)
  have HX8 : Hid (Bytes w8 x2 7 [1, 1, 0, 128, 128, 2, 0]) := HX7.out.later hp7
  clear HX7 R7 hb8 hp7 hq7
  have hDec := HD.out (some ⟨w8.heap.size, 0, none⟩) 5 5 [1, 2, 5, 5, 0] (w8.alloc (.cells #[.int .u8 1, .int .u8 2, .int .u8 5, .int .u8 5, .int .u8 0] 5)) (bytes_new w8 [1, 2, 5, 5, 0] (by decide) 5 rfl) (by omega) (by omega)
  rw [dec_ex4] at hDec
  go_wp2_with fail
  refine hDec.mono ?_
  clear hDec
  rintro _ w9 ⟨hb9, ⟨h0, _⟩ | ⟨_, rfl⟩⟩
  · cases h0
  have hq8 : Below w8.heap.size w8 (w8.alloc (.cells #[.int .u8 1, .int .u8 2, .int .u8 5, .int .u8 5, .int .u8 0] 5)) := (Below.refl _ _).alloc (Nat.le_refl _) _
  have hp8 : Below w8.heap.size w8 w9 := hq8.trans (hb9.mono hq8.size)
  have R9 := R8.trans (hp8.mono R8.size)
  have HX9 : Hid (Bytes w9 x2 7 [1, 1, 0, 128, 128, 2, 0]) := HX8.out.later hp8
  clear HX8 R8 hb9 hp8 hq8
  have hNil := HNl.out w9
  have v9 : (convert 25 9 (.slice x2 7 c2)).run Try.prog w9 = .ok (.string (strOfNums [1, 1, 0, 128, 128, 2, 0])) w9 := conv_c HX9.out.src
  have hst : (strOfNums [1, 1, 0, 128, 128, 2, 0]).toList = [1, 1, 0, 128, 128, 2, 0] := by kernel_rfl
  go_wp2_with fail
  refine hNil.mono ?_
  clear hNil
  rintro _ w10 ⟨⟨x10, c10, rfl⟩, hb10⟩
  have R10 := R9.trans (hb10.mono R9.size)
  clear hb10 R9
  go_wp2
  go_ret
  exact ⟨rfl, R10⟩
end Go.Proofs.Ytdkihhjhjfkjjaa
