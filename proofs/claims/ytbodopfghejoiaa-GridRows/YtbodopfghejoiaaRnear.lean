/-
  The document's Near: the chunks about a chunk, as a new slice; whatever lay is as it lay.
-/
import Derived.Test.YtbodopfghejoiaaNear
namespace Go.Proofs.Ytbodopfghejoiaa
open Go.RowKit Go.Shelf

attribute [local go_sem] Oper.semAt_some

theorem below_append {W w3 : World} {b e size k : Nat} {v : Value} {xs : List Value} {tmp : Obj} (hrow : W.ownsRow b e size v k xs) (hb : b ≤ W.heap.size) (hg : (W.alloc tmp).grownBy w3 v.ownBlock) : Below b W w3 := by
  refine ((Below.refl b W).alloc hb tmp).grown hg (by simp; omega) fun j ej => ?_
  rcases hrow.2 with ⟨rfl, _⟩ | ⟨g, cap, cur, rfl, hbg, _⟩
  · simp [Value.ownBlock] at ej
  · obtain rfl : g = j := by simpa [Value.ownBlock] using ej
    exact hbg

set_option maxHeartbeats 400000 in
theorem rnear_none (cx cz r : Int) (h : r < 0 ∨ 8 < r) (w : World) : Calls Try.prog 25 #[.agg #[.int .i64 cx, .int .i64 cz], .int .i64 r] w fun e w' => e = .returned (.slice none 0 0) ∧ Below w.heap.size w w' := by
  have HB : Hid (Below w.heap.size w (w.alloc (.cells #[.int .i64 cx, .int .i64 cz] 27))) := (Below.refl _ _).alloc (Nat.le_refl _) _
  by_cases c0 : 0 ≤ r
  case neg =>
    go_enter Try.func25, Try.ntmps25
    go_wp2
    go_ret
    exact ⟨rfl, HB.out⟩
  have c1 : 8 < r := by omega
  go_enter Try.func25, Try.ntmps25
  go_wp2
  go_ret
  exact ⟨rfl, HB.out⟩

theorem near_at (r : Int) (S M I : Nat) (hI : I < S) (hM : M < S) : cellAt (-r) 0 (-r) S S (M * S + I) = ⟨-r + I, 0, -r + M⟩ := by
  have := cellAt_of (-r) 0 (-r) S S I M 0 hI hM
  simpa using this
theorem nearL_eq (r : Int) (h0 : 0 ≤ r) (h8 : r ≤ 8) : nearL r = upto (-r) 0 (-r) (2 * r + 1).toNat (2 * r + 1).toNat ((2 * r + 1).toNat * (2 * r + 1).toNat) := by
  have e : sideN (-r) r = (((2 * r + 1).toNat : Nat) : Int) := by unfold sideN; rw [if_pos (by omega)]; omega
  unfold nearL boxL
  rw [show boxN (-r) 0 (-r) r 0 r = nearN r from rfl, (near_count r h0 h8).2.1, e, Int.toNat_natCast]

set_option maxRecDepth 100000 in
set_option maxHeartbeats 2000000 in
theorem rnear_c (cx cz r : Int) (h0 : 0 ≤ r) (h8 : r ≤ 8) (w : World) : Calls Try.prog 25 #[.agg #[.int .i64 cx, .int .i64 cz], .int .i64 r] w fun e w' =>
    ∃ v, e = .returned v ∧ w'.ownsRow w.heap.size 27 2 v (nearN r) (flatN cx cz (nearL r)) ∧ Below w.heap.size w w' := by
  obtain ⟨i0, hi, hz0, hz1, hz2⟩ := info_parts info27
  have HN : Hid (nearN r = (2 * r + 1).toNat * (2 * r + 1).toNat) := (near_count r h0 h8).2.1
  have HL : Hid (nearL r = upto (-r) 0 (-r) (2 * r + 1).toNat (2 * r + 1).toNat ((2 * r + 1).toNat * (2 * r + 1).toNat)) := nearL_eq r h0 h8
  generalize hS0 : (2 * r + 1).toNat = S at HN HL
  have hS : (S : Int) = 2 * r + 1 := by omega
  have hS17 : S ≤ 17 := by omega
  clear hS0
  have hX0 := heap_alloc_new w (.cells #[.int .i64 cx, .int .i64 cz] 27)
  refine (callsIn_wide (n := 6)).1 ?_
  refine callsIn_of_wp Try.func25 rfl trivial ?_ rfl
  simp only [Try.ntmps25, List.size_toArray, List.length_cons, List.length_nil, Nat.reduceAdd, Nat.reduceSub, Array.replicate_succ, Array.replicate_zero, List.push_toArray, List.append_toArray, List.nil_append, List.cons_append]
  gi_wp2
  gi_loopw [5, 6] (fun v z wr => ∃ M : Nat, z = .int .i64 (-r + M) ∧ M ≤ S ∧ wr.ownsRow (w.heap.size + 1) 27 2 v (M * S) (flatN cx cz (upto (-r) 0 (-r) S S (M * S))) ∧ Below (w.heap.size + 1) (w.alloc (.cells #[.int .i64 cx, .int .i64 cz] 27)) wr) (fun _ z _ => (r + 1 - intOf z).toNat)
  case atStart => exact ⟨0, by simp, by omega, by rw [Nat.zero_mul, upto_zero]; exact World.ownsRow_nil _ _ _ _, Below.refl _ _⟩
  case round =>
    obtain ⟨M, rfl, hM, hrow, hB⟩ := hrel
    by_cases hm : M = S
    · have hm' : ¬ -r + (M : Int) ≤ r := by omega
      gi_wp2
      go_ret
      refine ⟨_, rfl, ?_, (((Below.refl _ w).alloc (Nat.le_refl _) _).trans (hB.mono (by omega)))⟩
      rw [HN.out, HL.out]
      rw [hm] at hrow
      exact ownsRow_base hrow (by omega)
    · have hm' : -r + (M : Int) ≤ r := by omega
      have hm3 : M < S := by omega
      gi_wp2
      gi_loopw [5, 7] (fun v x wr => ∃ I : Nat, x = .int .i64 (-r + I) ∧ I ≤ S ∧ wr.ownsRow (w.heap.size + 1) 27 2 v (M * S + I) (flatN cx cz (upto (-r) 0 (-r) S S (M * S + I))) ∧ Below (w.heap.size + 1) (w.alloc (.cells #[.int .i64 cx, .int .i64 cz] 27)) wr) (fun _ x _ => (r + 1 - intOf x).toNat)
      case atStart => exact ⟨0, by simp, by omega, by simpa using hrow, hB⟩
      case round =>
        obtain ⟨I, rfl, hI, hrow2, hB2⟩ := hrel
        by_cases hi4 : I = S
        · have hi' : ¬ -r + (I : Int) ≤ r := by omega
          gi_wp2
          refine ⟨⟨M + 1, by simp; omega, by omega, ?_, hB2⟩, by simp [intOf]; omega⟩
          rw [hi4] at hrow2
          rwa [show (M + 1) * S = M * S + S by rw [Nat.add_mul]; omega]
        · have hi' : -r + (I : Int) ≤ r := by omega
          have hi3 : I < S := by omega
          have hsz : w.heap.size + 1 ≤ wr.heap.size := by have := hB2.size; simp at this; omega
          have hX := (hB2.block w.heap.size (by omega)).trans hX0
          have y0 : wr.cell? ⟨w.heap.size, 0, none⟩ = some (.int .i64 cx) := (cell_of_row wr _ 0 _ 27 (0, 0) hX).trans rfl
          have y1 : wr.cell? ⟨w.heap.size, 1, none⟩ = some (.int .i64 cz) := (cell_of_row wr _ 1 _ 27 (0, 0) hX).trans rfl
          have hlt : M * S + I < 289 := by
            have : M * S ≤ 16 * 17 := Nat.mul_le_mul (by omega) (by omega)
            omega
          gi_wp2_with (gi_at_builtin; refine wpListIn_append_own _ rfl _ _ 42 rfl (w.heap.size + 1) 27 i0 (.agg #[.int .i64 0, .int .i64 0]) 2 16 Try.underlying42 hi hz0 hz1 hz2 rfl (by decide) _ _ _ rfl (hrow2.alloc _) ⟨wr.heap.size, 0, none⟩ 1 1 [.int .i64 (wrap64 (cx + (-r + I))), .int .i64 (wrap64 (cz + (-r + M)))] rfl rfl (cell_two_new _ _ _ _) (by simp [Value.oneCell']) (by simp [maxLen]; omega) (by omega) (by simp; omega) ?_; intro v' w3 hown' hgrow _)
          refine ⟨⟨I + 1, by simp; omega, by omega, ?_, hB2.trans (below_append hrow2 hsz hgrow)⟩, by simp [intOf]; omega⟩
          rw [← Nat.add_assoc, upto_succ, flatN_snoc, near_at r S M I hi3 hm3]
          exact hown'
end Go.Proofs.Ytbodopfghejoiaa
