/-
  The document's Decode.
-/
import Derived.Test.YtdkihhjhjfkjjaaRpack
import Derived.BigQuiet
namespace Go.Proofs.Ytdkihhjhjfkjjaa
open Go.RowKit

/-- Bytes from 2 on, n of them. -/
theorem slice_two (b off n c k : Nat) (h1 : 2 + k ≤ n) (h2 : n ≤ c) (hk : 1 ≤ k) : ∀ w, (Instr.sliceAt 25 (.slice (some ⟨b, off, none⟩) n c) (some (.int .i64 2)) (some (.int .i64 (2 + (k : Int)))) none).run Try.prog w = .ok (.slice (some ⟨b, off + 2, none⟩) k (c - 2)) w := fun w => by
  rw [run_sliceAt_slice w 25 _ _ _ _ (by kernel_rfl), run_slice_lh w 25 (some ⟨b, off, none⟩) n c (by kernel_rfl) .i64 .i64 2 (2 + k) (by omega) (by omega) (by omega), show Try.prog.elem 25 = 5 by kernel_rfl, sizeOf5, Result.andThen_ok]
  unfold sliced
  rw [if_neg (by omega), show ((2 : Int) + (k : Int)).toNat - (2 : Int).toNat = k by omega]
  show Result.ok (Value.slice (some ((⟨b, off, none⟩ : Addr).add 2)) k (c - 2)) w = _
  rw [Addr.add_mid]
theorem Bytes.part {w : World} {b off n : Nat} {xs : List Int} (h : Bytes w (some ⟨b, off, none⟩) n xs) (k : Nat) (hk : 2 + k ≤ n) : Bytes w (some ⟨b, off + 2, none⟩) k ((xs.drop 2).take k) := by
  have hd := h.drop 2 (by omega)
  have hn := hd.n
  refine ⟨by rw [List.length_take, hn]; omega, ?_, fun z hz => hd.fit z (List.mem_of_mem_take hz)⟩
  rcases hd.cells with e | ⟨b', o', e, hc⟩
  · left; rw [e, List.take_nil]
  · cases e
    refine Or.inr ⟨_, _, rfl, fun j hj => ?_⟩
    rw [List.length_take] at hj
    rw [hc j (by omega), List.getElem_take]
/-- Is the palette right up to j? -/
def okTo (l : List Int) (j : Nat) : Prop := ∀ i, i < j → l.getD i 0 ≤ 16 ∧ (0 < i → l.getD (i - 1) 0 < l.getD i 0)
theorem okTo_all {l : List Int} (h : okTo l l.length) : okPal l = true := by
  unfold okPal
  rw [List.all_eq_true]
  intro i hi
  obtain ⟨h1, h2⟩ := h i (List.mem_range.1 hi)
  rw [decide_eq_true h1, Bool.true_and]
  rcases i with _ | i
  · rfl
  · rw [decide_eq_true (h2 (by omega)), Bool.or_true]
theorem okTo_not {l : List Int} {i : Nat} (hi : i < l.length) (h : ¬ (l.getD i 0 ≤ 16 ∧ (0 < i → l.getD (i - 1) 0 < l.getD i 0))) : okPal l = false := by
  unfold okPal
  rw [List.all_eq_false]
  refine ⟨i, List.mem_range.2 hi, ?_⟩
  intro h2
  rw [Bool.and_eq_true, decide_eq_true_eq, Bool.or_eq_true] at h2
  refine h ⟨h2.1, fun h0 => ?_⟩
  rcases h2.2 with h3 | h3
  · have : i = 0 := by simpa using h3
    omega
  · exact of_decide_eq_true h3

set_option maxRecDepth 1000000 in
set_option maxHeartbeats 4000000 in
theorem rdecode_c (a : Option Addr) (nb cb : Nat) (bs : List Int) (w : World) (hB : Bytes w a nb bs) (hcb : nb ≤ cb) (hnb : nb ≤ 1000000) :
    Calls Try.prog 16 #[.slice a nb cb] w fun e w' => Below w.heap.size w w' ∧ (((decL bs).1 = 0 ∧ ∃ a c, e = .returned (.tuple #[.slice a 32768 c, .int .i64 0]) ∧ Own w' w.heap.size a c (decL bs).2) ∨
      ((decL bs).1 ≠ 0 ∧ e = .returned (.tuple #[.slice none 0 0, .int .i64 (decL bs).1]))) := by
  obtain ⟨D, hD⟩ : ∃ D, D = decL bs := ⟨_, rfl⟩
  rw [← hD]
  have hlen := hB.n
  have HNB : Hid (nb ≤ 1000000) := hnb
  clear hnb
  by_cases h2 : nb < 2
  · have h2' : (nb : Int) < 2 := by omega
    have e : D = (3, []) := by rw [hD]; unfold decL; rw [if_pos (by omega)]
    subst e
    clear hD hB hlen
    go_enter Try.func16, Try.ntmps16
    go_wp2
    go_ret2
    first | exact ⟨Below.refl _ _, rfl⟩ | exact ⟨Below.refl _ _, Or.inr ⟨by decide, rfl⟩⟩
  · have h2' : ¬ (nb : Int) < 2 := by omega
    obtain ⟨ab, ob, f, rfl, hc0, f0, f1, hl0, hf⟩ := hB.get 0 (by omega)
    obtain ⟨b', o', kz, e', hc1, k0, k1, hl1, hkz⟩ := hB.get 1 (by omega)
    cases e'
    obtain ⟨K, rfl⟩ := Int.eq_ofNat_of_zero_le k0
    rw [Nat.add_zero] at hc0
    have HD : Hid (D = if (f ≠ 1 ∧ f ≠ 2) ∨ (K : Int) < 1 ∨ 17 < (K : Int) then (4, []) else if (nb : Int) < 2 + K then (3, []) else if okPal ((bs.drop 2).take K) = false then (4, [])
        else if f = 1 then runsD ((bs.drop 2).take K) 32768 (bs.drop (2 + K)) else packD ((bs.drop 2).take K) (wid K) (bs.drop (2 + K))) := by
      have e0 : bs.getD 0 0 = f := by rw [List.getD_eq_getElem?_getD, List.getElem?_eq_getElem hl0, hf]; rfl
      have e1 : bs.getD 1 0 = (K : Int) := by rw [List.getD_eq_getElem?_getD, List.getElem?_eq_getElem hl1, hkz]; rfl
      show _ = _
      rw [hD]
      unfold decL
      rw [if_neg (by omega), e0, e1, hlen, Int.toNat_natCast]
    have HB : Hid (Bytes w (some ⟨ab, ob, none⟩) nb bs) := hB
    clear hD hB hf hkz hl0 hl1 hlen
    by_cases hff : f = 1 ∨ f = 2
    · by_cases hk1 : K < 1
      · have hk1' : (K : Int) < 1 := by omega
        have e : D = (4, []) := by rw [HD.out, if_pos (Or.inr (Or.inl hk1'))]
        subst e
        obtain rfl : K = 0 := by omega
        clear HD HB
        rcases hff with rfl | rfl
        · go_enter Try.func16, Try.ntmps16
          go_wp2
          go_ret2
          first | exact ⟨Below.refl _ _, rfl⟩ | exact ⟨Below.refl _ _, Or.inr ⟨by decide, rfl⟩⟩
        · go_enter Try.func16, Try.ntmps16
          go_wp2
          go_ret2
          first | exact ⟨Below.refl _ _, rfl⟩ | exact ⟨Below.refl _ _, Or.inr ⟨by decide, rfl⟩⟩
      · by_cases hk17 : 17 < K
        · have hk17' : (17 : Int) < K := by omega
          have hk1' : ¬ (K : Int) < 1 := by omega
          have e : D = (4, []) := by rw [HD.out, if_pos (Or.inr (Or.inr hk17'))]
          subst e
          clear HD HB
          rcases hff with rfl | rfl
          · go_enter Try.func16, Try.ntmps16
            go_wp2
            go_ret2
            first | exact ⟨Below.refl _ _, rfl⟩ | exact ⟨Below.refl _ _, Or.inr ⟨by decide, rfl⟩⟩
          · go_enter Try.func16, Try.ntmps16
            go_wp2
            go_ret2
            first | exact ⟨Below.refl _ _, rfl⟩ | exact ⟨Below.refl _ _, Or.inr ⟨by decide, rfl⟩⟩
        · have hk17' : ¬ (17 : Int) < K := by omega
          have hk1' : ¬ (K : Int) < 1 := by omega
          have HD2 : Hid (D = if (nb : Int) < 2 + K then (3, []) else if okPal ((bs.drop 2).take K) = false then (4, []) else if f = 1 then runsD ((bs.drop 2).take K) 32768 (bs.drop (2 + K)) else packD ((bs.drop 2).take K) (wid K) (bs.drop (2 + K))) := by
            show _ = _
            rw [HD.out, if_neg (by omega)]
          clear HD
          by_cases hsh : nb < 2 + K
          · have hsh' : (nb : Int) < 2 + K := by omega
            have e : D = (3, []) := by rw [HD2.out, if_pos hsh']
            subst e
            clear HD2 HB
            rcases hff with rfl | rfl
            · go_enter Try.func16, Try.ntmps16
              go_wp2
              go_ret2
              first | exact ⟨Below.refl _ _, rfl⟩ | exact ⟨Below.refl _ _, Or.inr ⟨by decide, rfl⟩⟩
            · go_enter Try.func16, Try.ntmps16
              go_wp2
              go_ret2
              first | exact ⟨Below.refl _ _, rfl⟩ | exact ⟨Below.refl _ _, Or.inr ⟨by decide, rfl⟩⟩
          · have hsh' : ¬ (nb : Int) < 2 + K := by omega
            have hsl := slice_two ab ob nb cb K (by omega) hcb (by omega)
            have HP : Hid (Bytes w (some ⟨ab, ob + 2, none⟩) K ((bs.drop 2).take K)) := HB.out.part K (by omega)
            have HD3 : Hid (D = if okPal ((bs.drop 2).take K) = false then (4, []) else if f = 1 then runsD ((bs.drop 2).take K) 32768 (bs.drop (2 + K)) else packD ((bs.drop 2).take K) (wid K) (bs.drop (2 + K))) := by
              show _ = _
              rw [HD2.out, if_neg hsh']
            clear HD2
            generalize (bs.drop 2).take K = l at *
            rcases hff with rfl | rfl
            · go_enter Try.func16, Try.ntmps16
              go_wp2
              go_loopw [6] (fun i wr => ∃ (J : Nat), J ≤ K ∧ i = .int .i64 (J : Int) ∧ Below w.heap.size w wr ∧ Hid (wr.heap.size = w.heap.size) ∧ Hid (okTo l J)) (fun i _ => K - (intOf i).toNat)
              case atStart => exact ⟨0, Nat.zero_le _, rfl, Below.refl _ _, rfl, fun i hi => absurd hi (Nat.not_lt_zero _)⟩
              case round =>
                obtain ⟨J, hJ, rfl, hb, HW, HO⟩ := hrel
                by_cases hlt : J < K
                · have hlt' : (J : Int) < K := by omega
                  obtain ⟨bb, oo, x, e1, cx, x0, x1, hJl, hx⟩ := (HP.out.later hb).get J hlt
                  cases e1
                  have Hx : Hid (l.getD J 0 = x) := by show _ = _; rw [List.getD_eq_getElem?_getD, List.getElem?_eq_getElem hJl, hx]; rfl
                  have Hnot : Hid (¬ (l.getD J 0 ≤ 16 ∧ (0 < J → l.getD (J - 1) 0 < l.getD J 0)) → D = (4, [])) := fun h => by rw [HD3.out, if_pos (okTo_not hJl h)]
                  clear hx hJl
                  by_cases hg : 16 < x
                  · have e : D = (4, []) := Hnot.out (by rw [Hx.out]; omega)
                    subst e
                    clear HD3 Hnot HO HP HB
                    go_wp2_with fail
                    go_big_quiet (fail)
                    go_wp2
                    go_ret2
                    first | exact ⟨⟨hb.os, hb.tape, hb.output, hb.size, hb.block⟩, rfl⟩ | exact ⟨⟨hb.os, hb.tape, hb.output, hb.size, hb.block⟩, Or.inr ⟨by decide, rfl⟩⟩
                  · have hg' : ¬ (16 : Int) < x := hg
                    rcases J with _ | J
                    · have HO' : Hid (okTo l 1) := fun i hi => by
                        obtain rfl : i = 0 := by omega
                        exact ⟨by rw [Hx.out]; omega, fun h => absurd h (by omega)⟩
                      clear Hnot HO
                      go_wp2_with fail
                      have q1 : ¬ (16 : Int) < x := by omega
                      have q2 : decide ((16 : Int) < x) = false := decide_eq_false q1
                      go_big_quiet (fail)
                      go_wp2
                      go_roundw
                      case rel => exact ⟨1, by omega, rfl, ⟨hb.os, hb.tape, hb.output, hb.size, hb.block⟩, HW, HO'⟩
                      case measure => simp [intOf]; omega
                    · obtain ⟨b3, o3, y, e3, cy, y0, y1, hyl, hy⟩ := (HP.out.later hb).get J (by omega)
                      cases e3
                      have Hy : Hid (l.getD J 0 = y) := by show _ = _; rw [List.getD_eq_getElem?_getD, List.getElem?_eq_getElem hyl, hy]; rfl
                      clear hy hyl
                      have hJ0 : (0 : Int) < ((J + 1 : Nat) : Int) := by omega
                      have hJm : ((J + 1 : Nat) : Int) - 1 = (J : Int) := by omega
                      by_cases hle : x ≤ y
                      · have e : D = (4, []) := Hnot.out (by rw [Nat.add_sub_cancel, Hx.out, Hy.out]; omega)
                        subst e
                        clear HD3 Hnot HO HP HB
                        go_wp2_with fail
                        have q1 : ¬ (16 : Int) < x := by omega
                        have q2 : decide ((16 : Int) < x) = false := decide_eq_false q1
                        have q3 : decide (x ≤ y) = true := decide_eq_true hle
                        go_big_quiet (fail)
                        go_wp2
                        go_ret2
                        first | exact ⟨⟨hb.os, hb.tape, hb.output, hb.size, hb.block⟩, rfl⟩ | exact ⟨⟨hb.os, hb.tape, hb.output, hb.size, hb.block⟩, Or.inr ⟨by decide, rfl⟩⟩
                      · have HO' : Hid (okTo l (J + 1 + 1)) := fun i hi => by
                          by_cases e : i = J + 1
                          · subst e
                            exact ⟨by rw [Hx.out]; omega, fun _ => by rw [Nat.add_sub_cancel, Hx.out, Hy.out]; omega⟩
                          · exact HO.out i (by omega)
                        clear Hnot HO
                        go_wp2_with fail
                        have q1 : ¬ (16 : Int) < x := by omega
                        have q2 : decide ((16 : Int) < x) = false := decide_eq_false q1
                        have q3 : ¬ x ≤ y := by omega
                        have q4 : decide (x ≤ y) = false := decide_eq_false q3
                        go_big_quiet (fail)
                        go_wp2
                        go_roundw
                        case rel => exact ⟨J + 2, by omega, by go_num, ⟨hb.os, hb.tape, hb.output, hb.size, hb.block⟩, HW, HO'⟩
                        case measure => simp [intOf]; omega
                · obtain rfl : J = K := by omega
                  have eD : D = runsD l 32768 (bs.drop (2 + J)) := by
                    rw [HD3.out, if_neg (by rw [okTo_all (by rw [HP.out.n]; exact HO.out)]; simp), if_pos (by trivial)]
                  obtain ⟨o2, hsl2, ho2⟩ := slice_from ab ob nb cb (2 + J) (by omega)
                  have HB2 : Hid (Bytes wr (some ⟨ab, o2, none⟩) (nb - (2 + J)) (bs.drop (2 + J))) := (HB.out.later hb).from (by omega) hcb ho2
                  have HP2 : Hid (Bytes wr (some ⟨ab, ob + 2, none⟩) J l) := HP.out.later hb
                  simp only [show ((2 + J : Nat) : Int) = 2 + (J : Int) by omega] at hsl2
                  have h3 : nb - (2 + J) ≤ cb - (2 + J) := by omega
                  have h3' : nb - (2 + J) ≤ nb := by omega
                  obtain ⟨b9, o9, f9, e9, hc9, _, _, hl9, hf9⟩ := (HB.out.later hb).get 0 (by omega)
                  cases e9
                  obtain ⟨b8, o8, f8, e8, hc8, _, _, hl8, hf8⟩ := HB.out.get 0 (by omega)
                  cases e8
                  have hcf : wr.cell? ⟨ab, ob, none⟩ = some (.int .u8 1) := by
                    have h1 := hc8
                    rw [Nat.add_zero, hc0] at h1
                    have h2 : (1 : Int) = f8 := by simpa using h1
                    rw [Nat.add_zero] at hc9
                    rw [hc9, hf9, ← hf8, ← h2]
                  generalize nb - (2 + J) = n3 at *
                  generalize cb - (2 + J) = c3 at *
                  generalize cb - 2 = cq at *
                  have hcall := rruns_c ab o2 n3 c3 (bs.drop (2 + J)) (some ⟨ab, ob + 2, none⟩) J cq l wr HB2.out h3 (by have := HNB.out; omega) HP2.out
                  rw [← eD] at hcall
                  clear HD3 HO HP HB2 HP2 ho2 hc9 hl9 hf9 hc8 hl8 hf8 hc0 hc1 hsl eD
                  go_wp2_with fail
                  refine hcall.mono ?_
                  clear hcall
                  rintro _ w5 ⟨hb5, ⟨hd0, a5, c5, rfl, hO5⟩ | ⟨hd1, rfl⟩⟩
                  · rw [HW.out] at hO5 hb5
                    go_wp2
                    go_ret2
                    exact ⟨hb.trans hb5, Or.inl ⟨hd0, a5, c5, rfl, hO5⟩⟩
                  · rw [HW.out] at hb5
                    go_wp2
                    go_ret2
                    exact ⟨hb.trans hb5, Or.inr ⟨hd1, rfl⟩⟩
            · go_enter Try.func16, Try.ntmps16
              go_wp2
              go_loopw [6] (fun i wr => ∃ (J : Nat), J ≤ K ∧ i = .int .i64 (J : Int) ∧ Below w.heap.size w wr ∧ Hid (wr.heap.size = w.heap.size) ∧ Hid (okTo l J)) (fun i _ => K - (intOf i).toNat)
              case atStart => exact ⟨0, Nat.zero_le _, rfl, Below.refl _ _, rfl, fun i hi => absurd hi (Nat.not_lt_zero _)⟩
              case round =>
                obtain ⟨J, hJ, rfl, hb, HW, HO⟩ := hrel
                by_cases hlt : J < K
                · have hlt' : (J : Int) < K := by omega
                  obtain ⟨bb, oo, x, e1, cx, x0, x1, hJl, hx⟩ := (HP.out.later hb).get J hlt
                  cases e1
                  have Hx : Hid (l.getD J 0 = x) := by show _ = _; rw [List.getD_eq_getElem?_getD, List.getElem?_eq_getElem hJl, hx]; rfl
                  have Hnot : Hid (¬ (l.getD J 0 ≤ 16 ∧ (0 < J → l.getD (J - 1) 0 < l.getD J 0)) → D = (4, [])) := fun h => by rw [HD3.out, if_pos (okTo_not hJl h)]
                  clear hx hJl
                  by_cases hg : 16 < x
                  · have e : D = (4, []) := Hnot.out (by rw [Hx.out]; omega)
                    subst e
                    clear HD3 Hnot HO HP HB
                    go_wp2_with fail
                    go_big_quiet (fail)
                    go_wp2
                    go_ret2
                    first | exact ⟨⟨hb.os, hb.tape, hb.output, hb.size, hb.block⟩, rfl⟩ | exact ⟨⟨hb.os, hb.tape, hb.output, hb.size, hb.block⟩, Or.inr ⟨by decide, rfl⟩⟩
                  · have hg' : ¬ (16 : Int) < x := hg
                    rcases J with _ | J
                    · have HO' : Hid (okTo l 1) := fun i hi => by
                        obtain rfl : i = 0 := by omega
                        exact ⟨by rw [Hx.out]; omega, fun h => absurd h (by omega)⟩
                      clear Hnot HO
                      go_wp2_with fail
                      have q1 : ¬ (16 : Int) < x := by omega
                      have q2 : decide ((16 : Int) < x) = false := decide_eq_false q1
                      go_big_quiet (fail)
                      go_wp2
                      go_roundw
                      case rel => exact ⟨1, by omega, rfl, ⟨hb.os, hb.tape, hb.output, hb.size, hb.block⟩, HW, HO'⟩
                      case measure => simp [intOf]; omega
                    · obtain ⟨b3, o3, y, e3, cy, y0, y1, hyl, hy⟩ := (HP.out.later hb).get J (by omega)
                      cases e3
                      have Hy : Hid (l.getD J 0 = y) := by show _ = _; rw [List.getD_eq_getElem?_getD, List.getElem?_eq_getElem hyl, hy]; rfl
                      clear hy hyl
                      have hJ0 : (0 : Int) < ((J + 1 : Nat) : Int) := by omega
                      have hJm : ((J + 1 : Nat) : Int) - 1 = (J : Int) := by omega
                      by_cases hle : x ≤ y
                      · have e : D = (4, []) := Hnot.out (by rw [Nat.add_sub_cancel, Hx.out, Hy.out]; omega)
                        subst e
                        clear HD3 Hnot HO HP HB
                        go_wp2_with fail
                        have q1 : ¬ (16 : Int) < x := by omega
                        have q2 : decide ((16 : Int) < x) = false := decide_eq_false q1
                        have q3 : decide (x ≤ y) = true := decide_eq_true hle
                        go_big_quiet (fail)
                        go_wp2
                        go_ret2
                        first | exact ⟨⟨hb.os, hb.tape, hb.output, hb.size, hb.block⟩, rfl⟩ | exact ⟨⟨hb.os, hb.tape, hb.output, hb.size, hb.block⟩, Or.inr ⟨by decide, rfl⟩⟩
                      · have HO' : Hid (okTo l (J + 1 + 1)) := fun i hi => by
                          by_cases e : i = J + 1
                          · subst e
                            exact ⟨by rw [Hx.out]; omega, fun _ => by rw [Nat.add_sub_cancel, Hx.out, Hy.out]; omega⟩
                          · exact HO.out i (by omega)
                        clear Hnot HO
                        go_wp2_with fail
                        have q1 : ¬ (16 : Int) < x := by omega
                        have q2 : decide ((16 : Int) < x) = false := decide_eq_false q1
                        have q3 : ¬ x ≤ y := by omega
                        have q4 : decide (x ≤ y) = false := decide_eq_false q3
                        go_big_quiet (fail)
                        go_wp2
                        go_roundw
                        case rel => exact ⟨J + 2, by omega, by go_num, ⟨hb.os, hb.tape, hb.output, hb.size, hb.block⟩, HW, HO'⟩
                        case measure => simp [intOf]; omega
                · obtain rfl : J = K := by omega
                  have eD : D = packD l (wid J) (bs.drop (2 + J)) := by
                    rw [HD3.out, if_neg (by rw [okTo_all (by rw [HP.out.n]; exact HO.out)]; simp), if_neg (by first | omega | decide | simp)]
                  obtain ⟨o2, hsl2, ho2⟩ := slice_from ab ob nb cb (2 + J) (by omega)
                  have HB2 : Hid (Bytes wr (some ⟨ab, o2, none⟩) (nb - (2 + J)) (bs.drop (2 + J))) := (HB.out.later hb).from (by omega) hcb ho2
                  have HP2 : Hid (Bytes wr (some ⟨ab, ob + 2, none⟩) J l) := HP.out.later hb
                  simp only [show ((2 + J : Nat) : Int) = 2 + (J : Int) by omega] at hsl2
                  have h3 : nb - (2 + J) ≤ cb - (2 + J) := by omega
                  have h3' : nb - (2 + J) ≤ nb := by omega
                  obtain ⟨b9, o9, f9, e9, hc9, _, _, hl9, hf9⟩ := (HB.out.later hb).get 0 (by omega)
                  cases e9
                  obtain ⟨b8, o8, f8, e8, hc8, _, _, hl8, hf8⟩ := HB.out.get 0 (by omega)
                  cases e8
                  have hcf : wr.cell? ⟨ab, ob, none⟩ = some (.int .u8 2) := by
                    have h1 := hc8
                    rw [Nat.add_zero, hc0] at h1
                    have h2 : (2 : Int) = f8 := by simpa using h1
                    rw [Nat.add_zero] at hc9
                    rw [hc9, hf9, ← hf8, ← h2]
                  generalize nb - (2 + J) = n3 at *
                  generalize cb - (2 + J) = c3 at *
                  generalize cb - 2 = cq at *
                  have hcall := rpacked_c (some ⟨ab, o2, none⟩) n3 c3 (bs.drop (2 + J)) (some ⟨ab, ob + 2, none⟩) J cq l wr HB2.out (by have := HNB.out; omega) HP2.out (by omega)
                  rw [← eD] at hcall
                  clear HD3 HO HP HB2 HP2 ho2 hc9 hl9 hf9 hc8 hl8 hf8 hc0 hc1 hsl eD
                  go_wp2_with fail
                  refine hcall.mono ?_
                  clear hcall
                  rintro _ w5 ⟨hb5, ⟨hd0, a5, c5, rfl, hO5⟩ | ⟨hd1, rfl⟩⟩
                  · rw [HW.out] at hO5 hb5
                    go_wp2
                    go_ret2
                    exact ⟨hb.trans hb5, Or.inl ⟨hd0, a5, c5, rfl, hO5⟩⟩
                  · rw [HW.out] at hb5
                    go_wp2
                    go_ret2
                    exact ⟨hb.trans hb5, Or.inr ⟨hd1, rfl⟩⟩
    · have e : D = (4, []) := by rw [HD.out, if_pos (Or.inl (by omega))]
      subst e
      have h1 : (f != 1) = true := by simp; omega
      have h2 : (f != 2) = true := by simp; omega
      clear HD HB hff
      go_enter Try.func16, Try.ntmps16
      go_wp2
      go_ret2
      first | exact ⟨Below.refl _ _, rfl⟩ | exact ⟨Below.refl _ _, Or.inr ⟨by decide, rfl⟩⟩
end Go.Proofs.Ytdkihhjhjfkjjaa
