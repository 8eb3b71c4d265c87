/-
  The document's place, width and palette.
-/
import Derived.Test.YtdkihhjhjfkjjaaAll
import Derived.Test.YtdkihhjhjfkjjaaOwns
import Derived.Test.YtdkihhjhjfkjjaaMores
import Derived.Deep.DeepCutAuto
namespace Go.Proofs.Ytdkihhjhjfkjjaa
open Go.RowKit

theorem plc_first {l : List Int} {k : Int} {i : Nat} (hi : i < l.length) (h : l[i] = k) (hn : ∀ j (hj : j < l.length), j < i → l[j] ≠ k) : plc l k = i := by
  have hm : k ∈ l := h ▸ List.getElem_mem hi
  have h1 := plc_lt hm
  have h2 := plc_at hm
  rw [List.getD_eq_getElem?_getD, List.getElem?_eq_getElem h1, Option.getD_some] at h2
  rcases Nat.lt_trichotomy (plc l k) i with h3 | h3 | h3
  · exact absurd h2 (hn _ h1 h3)
  · exact h3
  · exfalso
    unfold plc at h3
    rw [if_pos hm] at h3
    have h4 := List.not_of_lt_findIdx (xs := l) (p := (· == k)) (show i < l.findIdx (· == k) from h3)
    simp [h] at h4
theorem plc_none {l : List Int} {k : Int} (hn : ∀ j (hj : j < l.length), l[j] ≠ k) : plc l k = 0 := by
  unfold plc
  rw [if_neg]
  intro hm
  obtain ⟨j, hj, e⟩ := List.getElem_of_mem hm
  exact hn j hj e
theorem rplace_c (a : Option Addr) (n cap : Nat) (l : List Int) (k : Int) (w : World) (hB : Bytes w a n l) (hn : n ≤ 140737488355328) :
    Calls Try.prog 30 #[.slice a n cap, .int .u8 k] w fun e w' => e = .returned (.int .i64 (plc l k : Int)) ∧ w' = w := by
  have H : Hid (Bytes w a n l) := hB
  clear hB
  obtain ⟨R, hR⟩ : ∃ R, R = plc l k := ⟨_, rfl⟩
  rw [← hR]
  have HR : Hid (R = plc l k) := hR
  clear hR
  go_enter Try.func30, Try.ntmps30
  go_wp2
  go_loop [5] (fun i => ∃ j : Nat, j ≤ n ∧ i = .int .i64 j ∧ Hid (∀ m (hm : m < l.length), m < j → l[m] ≠ k)) (fun i => n - (intOf i).toNat)
  case atStart => exact ⟨0, Nat.zero_le _, rfl, fun m _ h => absurd h (Nat.not_lt_zero _)⟩
  case round =>
    obtain ⟨j, hj, rfl, HN⟩ := hrel
    by_cases hlt : j < n
    · obtain ⟨b, off, z, rfl, hcell, z0, z1, hj', hz⟩ := H.out.get j hlt
      have hlt' : (j : Int) < n := by omega
      by_cases e : z = k
      · have eR : R = j := by rw [HR.out]; exact plc_first hj' (hz ▸ e) HN.out
        subst eR
        subst e
        clear hz HR HN H
        go_wp2
        go_ret
        exact ⟨rfl, rfl⟩
      · have HN' : Hid (∀ m (hm : m < l.length), m < j + 1 → l[m] ≠ k) := fun m hm h => by
          by_cases e2 : m = j
          · subst e2; rw [← hz]; exact e
          · exact HN.out m hm (by omega)
        have e' : (z == k) = false := by simp [e]
        clear hz HN e
        go_wp2
        go_round
        case rel => exact ⟨j + 1, by omega, by go_num, HN'⟩
        case measure => simp [intOf]; omega
    · have eR : R = 0 := by rw [HR.out]; exact plc_none (fun m hm => HN.out m hm (by have := H.out.n; omega))
      subst eR
      have hlt' : ¬ (j : Int) < n := by omega
      clear HR HN H
      go_wp2
      go_ret
      exact ⟨rfl, rfl⟩

theorem rwidth_c (n : Nat) (hn : n ≤ 17) (w : World) : Calls Try.prog 31 #[.int .i64 (n : Int)] w fun e w' => e = .returned (.int .i64 (wid n : Int)) ∧ w' = w := by
  obtain ⟨R, hR⟩ : ∃ R, R = wid n := ⟨_, rfl⟩
  rw [← hR]
  have HR : Hid (R = wid n) := hR
  clear hR
  go_enter Try.func31, Try.ntmps31
  go_wp2
  go_loop [3] (fun v => (v = .int .i64 1 ∨ (v = .int .i64 2 ∧ 2 < n) ∨ (v = .int .i64 4 ∧ 4 < n) ∨ (v = .int .i64 8 ∧ 16 < n))) (fun v => 8 - (intOf v).toNat)
  case atStart => exact Or.inl rfl
  case round =>
    rcases hrel with rfl | ⟨rfl, h⟩ | ⟨rfl, h⟩ | ⟨rfl, h⟩
    · by_cases h2 : 2 < n
      · have h2' : (2 : Int) < n := by omega
        clear HR
        go_wp2
        go_round
        case rel => exact Or.inr (Or.inl ⟨rfl, h2⟩)
        case measure => simp [intOf]
      · have h2' : ¬ (2 : Int) < n := by omega
        have e : R = 1 := by rw [HR.out]; unfold wid; rw [if_pos (by omega)]
        subst e
        clear HR
        go_wp2
        go_ret
        exact ⟨rfl, rfl⟩
    · by_cases h2 : 4 < n
      · have h2' : (4 : Int) < n := by omega
        clear HR
        go_wp2
        go_round
        case rel => exact Or.inr (Or.inr (Or.inl ⟨rfl, h2⟩))
        case measure => simp [intOf]
      · have h2' : ¬ (4 : Int) < n := by omega
        have e : R = 2 := by rw [HR.out]; unfold wid; rw [if_neg (by omega), if_pos (by omega)]
        subst e
        clear HR
        go_wp2
        go_ret
        exact ⟨rfl, rfl⟩
    · by_cases h2 : 16 < n
      · have h2' : (16 : Int) < n := by omega
        clear HR
        go_wp2
        go_round
        case rel => exact Or.inr (Or.inr (Or.inr ⟨rfl, h2⟩))
        case measure => simp [intOf]
      · have h2' : ¬ (16 : Int) < n := by omega
        have e : R = 4 := by rw [HR.out]; unfold wid; rw [if_neg (by omega), if_neg (by omega), if_pos (by omega)]
        subst e
        clear HR
        go_wp2
        go_ret
        exact ⟨rfl, rfl⟩
    · have e : R = 8 := by rw [HR.out]; unfold wid; rw [if_neg (by omega), if_neg (by omega), if_neg (by omega)]
      subst e
      clear HR
      go_wp2
      go_ret
      exact ⟨rfl, rfl⟩

theorem cnt_pos (cs : List Int) (j : Int) : ∀ n, n ≤ cs.length → (0 < cnt cs j n ↔ j ∈ cs.take n)
  | 0, _ => by simp [cnt]
  | n + 1, h => by
    have ih := cnt_pos cs j n (by omega)
    have h0 : 0 ≤ cnt cs j n := by
      clear ih
      induction n with
      | zero => simp [cnt]
      | succ n ih' => have := ih' (by omega); unfold cnt; split <;> omega
    unfold cnt
    rw [List.take_succ_eq_append_getElem (by omega), List.mem_append, ← ih, List.mem_singleton, List.getD_eq_getElem?_getD, List.getElem?_eq_getElem (by omega), Option.getD_some]
    split
    · rename_i e
      constructor
      · intro _; exact Or.inr e.symm
      · intro _; omega
    · rename_i e
      rw [Int.add_zero]
      constructor
      · intro h1; exact Or.inl h1
      · rintro (h1 | h1)
        · exact h1
        · exact absurd h1.symm e
theorem cntTo_pos {cs : List Int} (hk : Kinds cs) (hl : cs.length = 32768) (j : Nat) (hj : j < 17) : 0 < (cntTo cs 32768).getD j 0 ↔ (j : Int) ∈ cs := by
  rw [cntTo_cnt cs hk j hj, cnt_pos cs j 32768 (by omega), List.take_of_length_le (by omega)]
theorem palTo_fit (cs : List Int) (n : Nat) (h : n ≤ 17) : ∀ z ∈ palTo cs n, 0 ≤ z ∧ z ≤ 255 := fun z hz => by
  obtain ⟨_, k, hk, rfl⟩ := (mem_palTo cs z n).1 hz
  omega

set_option maxRecDepth 100000 in
set_option maxHeartbeats 1000000 in
theorem rpalette_c (g : Nat) (cs : List Int) (w : World) (hB : Blk w g 5 cs) (hl : cs.length = 32768) (hk : Kinds cs) :
    Calls Try.prog 28 #[.slice (some ⟨g, 0, none⟩) 32768 32768] w fun e w' => ∃ a c, e = .returned (.slice a (pal cs).length c) ∧ Own w' w.heap.size a c (pal cs) ∧ Below w.heap.size w w' := by
  go_enter Try.func28, Try.ntmps28
  go_wp2_with fail
  refine (rcounts_c g cs w hB hl hk).mono ?_
  rintro _ w1 ⟨rfl, hN1, hb1⟩
  have hs1 := hb1.size
  have hn1 := hN1.lt
  have hlc := cntTo_length cs 32768
  have HP : Hid (∀ j : Nat, j < 17 → (0 < (cntTo cs 32768).getD j 0 ↔ (j : Int) ∈ cs)) := fun j hj => cntTo_pos hk hl j hj
  generalize cntTo cs 32768 = N at *
  go_wp2
  go_loopw [4, 5] (fun v i wr => ∃ (j : Nat) (a2 : Option Addr) (c2 : Nat), j ≤ 17 ∧ i = .int .i64 j ∧ v = .slice a2 (palTo cs j).length c2 ∧ Hid (Own wr w1.heap.size a2 c2 (palTo cs j)) ∧ Below w1.heap.size w1 wr ∧ w1.heap.size ≤ wr.heap.size) (fun _ i _ => 17 - (intOf i).toNat)
  case atStart => exact ⟨0, none, 0, by omega, rfl, rfl, Own.nil _ _, Below.refl _ _, Nat.le_refl _⟩
  case round =>
    obtain ⟨j, a2, c2, hj, rfl, rfl, HO, hb2, hB2⟩ := hrel
    by_cases hlt : j < 17
    · have hc := (hN1.below hb2 hn1).cell (k := j) (by omega)
      have hlt' : (j : Int) < 17 := by omega
      have hin := HP.out j hlt
      have hlen := palTo_len cs j
      generalize N.getD j 0 = x at *
      by_cases hm : (j : Int) ∈ cs
      · have hx : 0 < x := hin.2 hm
        have HS : Hid (palTo cs (j + 1) = palTo cs j ++ [(j : Int)]) := by show _ = _; rw [palTo, if_pos hm]
        have HO3 : Hid (Own (wr.alloc (.cells #[.int .u8 (j : Int)] 5)) w1.heap.size a2 c2 (palTo cs j)) := HO.out.later ((Below.refl _ _).alloc (Nat.le_refl _) _)
        have HB3 : Hid _ := oneByte wr (j : Int) (by omega)
        have HA3 : Hid _ := belowAlloc hb2 hB2 (.cells #[.int .u8 (j : Int)] 5)
        clear hin hm
        generalize palTo cs j = L at *
        obtain ⟨P, hP⟩ : ∃ P, P = L.length := ⟨_, rfl⟩
        rw [← hP] at hlen ⊢
        have HL : Hid (L.length = P) := hP.symm
        clear hP
        go_upto_region 7 with fail
        go_wp2_with (at_builtin; refine wpList_append_bytes rfl (.tmp 19) (.tmp 22) rfl w1.heap.size a2 P c2 L HL.out rfl HO3.out _ 1 1 [(j : Int)] rfl HB3.out (fun h => by cases h) (by omega) w1 HA3.out.1 HA3.out.2 ?_; intro a4 c4 w4 HO4 hb4 hB4)
        go_roundw
        case rel =>
          refine ⟨j + 1, a4, c4, by omega, by go_num, ?_, ?_, hb4, hB4⟩
          · rw [HS.out, List.length_append, HL.out]; rfl
          · show Own _ _ _ _ _
            rw [HS.out]; exact HO4.out
        case measure => simp [intOf]; omega
      · have hx : ¬ 0 < x := fun h => hm (hin.1 h)
        have HS : Hid (palTo cs (j + 1) = palTo cs j) := by show _ = _; rw [palTo, if_neg hm]
        clear hin hm
        go_wp2
        go_roundw
        case rel =>
          refine ⟨j + 1, a2, c2, by omega, by go_num, ?_, ?_, hb2, hB2⟩
          · rw [HS.out]
          · show Own _ _ _ _ _
            rw [HS.out]; exact HO.out
        case measure => simp [intOf]; omega
    · obtain rfl : j = 17 := by omega
      go_wp2
      go_ret
      exact ⟨a2, c2, rfl, HO.out.base hs1, hb1.trans (hb2.mono hs1)⟩
end Go.Proofs.Ytdkihhjhjfkjjaa
