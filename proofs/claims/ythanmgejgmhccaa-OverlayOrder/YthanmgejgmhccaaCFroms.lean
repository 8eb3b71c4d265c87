/-
  From of the program, and what the statements make of it.
-/
import Derived.Test.YthanmgejgmhccaaCMades
namespace Go.Proofs.Ythanmgejgmhccaa.C
open Go.RowKit

/-- Bytes in a slice, wherever it lies. -/
structure Src (w : World) (a : Option Addr) (n : Nat) (bs : List Int) : Prop where
  len : bs.length = n
  cells : ∀ k, k < n → ∃ b o, a = some ⟨b, o, none⟩ ∧ b < w.heap.size ∧ w.cell? ⟨b, o + k, none⟩ = some (.int .u8 (bs.getD k 0))
  byte : ∀ k, 0 ≤ bs.getD k 0 ∧ bs.getD k 0 ≤ 255
theorem Src.on {w w' : World} {a : Option Addr} {n B : Nat} {bs : List Int} (h : Src w a n bs) (hb : Below B w w') (hB : w.heap.size ≤ B) : Src w' a n bs :=
  ⟨h.len, fun k hk => by
    obtain ⟨b, o, e, hlt, hc⟩ := h.cells k hk
    exact ⟨b, o, e, Nat.lt_of_lt_of_le hlt hb.size, (hb.cell (p := ⟨b, o + k, none⟩) (Nat.lt_of_lt_of_le hlt hB)).trans hc⟩, h.byte⟩
theorem Kinds.bytes {cs : List Int} (h : Kinds cs) (k : Nat) : 0 ≤ cs.getD k 0 ∧ cs.getD k 0 ≤ 255 := by
  have := h.at k
  omega
theorem Blk.src {w : World} {g : Nat} {t : TypeId} {cs : List Int} (h : Blk w g t cs) (hk : Kinds cs) : Src w (some ⟨g, 0, none⟩) cs.length cs :=
  ⟨rfl, fun k hk' => ⟨g, 0, rfl, h.lt, by rw [Nat.zero_add]; exact h.cell hk'⟩, hk.bytes⟩
theorem copy_src {w : World} {h b o cap : Nat} {t' : TypeId} {bs zs : List Int} (hS : ∀ k, k < 32768 → w.cell? ⟨b, o + k, none⟩ = some (.int .u8 (bs.getD k 0))) (hD : Blk w h t' zs) (lc : bs.length = 32768) (lz : zs.length = 32768) :
    (Builtin.copy_ #[32, 32] 3 #[.slice (some ⟨h, 0, none⟩) 32768 32768, .slice (some ⟨b, o, none⟩) 32768 cap]).run Try.prog w = .ok (.int .i64 32768) (w.setRow h (vals bs)) := by
  have := run_copy_row (P := Try.prog) w 32 32 3 5 h 0 32768 32768 ⟨b, o, none⟩ 32768 cap (vals zs) t' (bs.map (Value.int .u8)) Try.underlying32 size5 hD (by rw [List.length_map, lc]; rfl)
    (fun j v hv => by
      have hj : j < 32768 := by rw [← lc]; simpa using (List.getElem?_eq_some_iff.1 hv).1
      rw [Addr.add_mid, hS j hj]
      rw [← hv, List.getElem?_map, List.getElem?_eq_getElem (by omega), List.getD_eq_getElem?_getD, List.getElem?_eq_getElem (by omega)]
      rfl) (by rw [List.length_map, vals_size]; omega) (by intro v hv; obtain ⟨x, _, rfl⟩ := List.mem_map.1 hv; rfl)
  rw [this, List.length_map, lc]
  have e : ((vals zs).toList.take 0 ++ bs.map (Value.int .u8) ++ (vals zs).toList.drop (0 + 32768)).toArray = vals bs := by
    rw [List.drop_eq_nil_of_le (by rw [Array.length_toList, vals_size]; omega), List.take_zero, List.nil_append, List.append_nil]
    rfl
  rw [e]
  rfl

set_option maxRecDepth 100000 in
set_option maxHeartbeats 800000 in
theorem from_c (a : Option Addr) (n cap : Nat) (bs : List Int) (w : World) (hS : Src w a n bs) (hn : n ≤ 140737488355328) :
    Calls Try.prog 32 #[.slice a n cap] w fun e w' => Below w.heap.size w w' ∧ ((mayC bs = 0 ∧ e = .returned (.tuple #[.pointer (some ⟨w.heap.size, 0, none⟩), .int .i64 0]) ∧ Blk w' w.heap.size 67 bs) ∨ (mayC bs ≠ 0 ∧ e = .returned (.tuple #[.pointer none, .int .i64 (mayC bs)]))) := by
  obtain ⟨M, hM⟩ : ∃ M, M = mayC bs := ⟨_, rfl⟩
  rw [← hM]
  unfold mayC at hM
  have hl := hS.len
  rw [hl] at hM
  by_cases h1 : n < 32768
  · rw [if_pos h1] at hM
    subst hM
    have h1' : (n : Int) < 32768 := by omega
    go_enter Try.func32, Try.ntmps32
    go_wp2
    go_ret2
    exact ⟨Below.refl _ _, Or.inr ⟨by decide, rfl⟩⟩
  · rw [if_neg h1] at hM
    by_cases h2 : 32768 < n
    · rw [if_pos h2] at hM
      subst hM
      have h1' : ¬ (n : Int) < 32768 := by omega
      have h2' : (32768 : Int) < n := by omega
      go_enter Try.func32, Try.ntmps32
      go_wp2
      go_ret2
      first | exact ⟨Below.refl _ _, Or.inr ⟨by decide, rfl⟩⟩ | exact ⟨Below.refl _ _, rfl⟩
    · obtain rfl : n = 32768 := by omega
      rw [if_neg h2] at hM
      clear h1 h2 hn
      have HR : Hid (M = if badTo bs 32768 = true then 10 else 0) := hM
      clear hM
      obtain ⟨Z, hZe⟩ : ∃ Z, Z = List.replicate 32768 (0 : Int) := ⟨_, rfl⟩
      have hZ : Z.length = 32768 := by rw [hZe, List.length_replicate]
      have hnew := new_c w
      rw [← hZe] at hnew
      clear hZe
      have Hnew : Hid (Calls Try.prog 24 #[] w fun e w' => e = .returned (.pointer (some ⟨w.heap.size, 0, none⟩)) ∧ w' = w.alloc (.cells (vals Z) 67)) := hnew
      clear hnew
      have hc := hS.cells
      have hu := hS.byte
      go_enter Try.func32, Try.ntmps32
      go_wp2
      go_loop [15] (fun i => ∃ k : Nat, k ≤ 32768 ∧ i = .int .i64 k ∧ Hid (badTo bs k = false)) (fun i => 32768 - (intOf i).toNat)
      case atStart => exact ⟨0, Nat.zero_le _, rfl, rfl⟩
      case round =>
        obtain ⟨k, hk, rfl, HB⟩ := hrel
        by_cases hlt : k < 32768
        · obtain ⟨b, o, rfl, _, hcell⟩ := hc k hlt
          obtain ⟨u0, u1⟩ := hu k
          have hlt' : (k : Int) < 32768 := by omega
          have HS : Hid (badTo bs (k + 1) = decide (16 < bs.getD k 0)) := by show (badTo bs k || _) = _; rw [HB.out]; rfl
          have HX : Hid (16 < bs.getD k 0 → badTo bs 32768 = true) := fun hx => badTo_mono bs (n := k + 1) (by omega) (by rw [HS.out]; exact decide_eq_true hx)
          generalize bs.getD k 0 = v at *
          have hq := isKind_c v w
          by_cases hv : 16 < v
          · have e : M = 10 := by rw [HR.out, if_pos (HX.out hv)]
            subst e
            rw [decide_eq_false (by omega)] at hq
            clear HR HX HS HB hc hu Hnew
            go_wp2_with fail
            refine hq.mono ?_
            clear hq
            rintro _ w1 ⟨rfl, hw⟩
            rw [hw]
            clear hw w1
            go_wp2
            go_ret2
            exact ⟨Below.refl _ _, Or.inr ⟨by decide, rfl⟩⟩
          · have H1 : Hid (badTo bs (k + 1) = false) := by show _ = _; rw [HS.out]; exact decide_eq_false hv
            rw [decide_eq_true (by omega)] at hq
            clear HX HS HB hc hu
            go_wp2_with fail
            refine hq.mono ?_
            clear hq
            rintro _ w1 ⟨rfl, hw⟩
            rw [hw]
            clear hw w1
            go_wp2
            go_round
            case rel => exact ⟨k + 1, by omega, by go_num, H1⟩
            case measure => simp [intOf]; omega
        · obtain rfl : k = 32768 := by omega
          have e : M = 0 := by rw [HR.out, HB.out]; rfl
          subst e
          obtain ⟨b, o, rfl, hbw, _⟩ := hc 0 (by omega)
          have hS' : ∀ k, k < 32768 → (w.alloc (.cells (vals Z) 67)).cell? ⟨b, o + k, none⟩ = some (.int .u8 (bs.getD k 0)) := fun k hk => by
            obtain ⟨b', o', e', _, hcell⟩ := hc k hk
            cases e'
            exact (((Below.refl w.heap.size w).alloc (Nat.le_refl _) _).cell (p := ⟨b, o + k, none⟩) hbw).trans hcell
          have hD := Blk.new w 67 Z
          have hcp := copy_src (cap := cap) hS' hD hl hZ
          have R1 : Blk ((w.alloc (.cells (vals Z) 67)).setRow w.heap.size (vals bs)) w.heap.size 67 bs := hD.copied
          have R2 : Below w.heap.size w ((w.alloc (.cells (vals Z) 67)).setRow w.heap.size (vals bs)) := ((Below.refl _ w).alloc (Nat.le_refl _) _).trans ((setRow_only _ _ _).below (Nat.le_refl _))
          clear HR HB hc hu hS' hD
          go_wp2_with fail
          have hnew := Hnew.out
          refine hnew.mono ?_
          clear Hnew hnew
          rintro _ _ ⟨rfl, rfl⟩
          go_wp2
          go_ret2
          exact ⟨R2, rfl, R1⟩
end Go.Proofs.Ythanmgejgmhccaa.C