/-
  What between and around answer: what lies between two ends, and the heights of the four corners; both make new blocks and turn nothing that was there.
-/
import Derived.Test.YtbbhnhmheakapaaNLat
import Derived.Deep.QuietTactic
import Derived.BigQuiet
import Derived.LoopN
import Derived.Deep.DeepCutAuto
import Derived.Deep.RegionWith
namespace Go.Proofs.Ytbbhnhmheakapaa.N
open Go.RowKit

theorem drewN_heap (w : World) (n : Nat) : (w.drewN n).heap = w.heap ∧ (w.drewN n).os = w.os ∧ (w.drewN n).tape = w.tape ∧ (w.drewN n).output = w.output := by
  induction n generalizing w with
  | zero => exact ⟨rfl, rfl, rfl, rfl⟩
  | succ n ih => exact ih w.drew
theorem below_drewN {B : Nat} {w w' : World} (h : Below B w w') (n : Nat) : Below B w (w'.drewN n) := by
  obtain ⟨e, o, t, u⟩ := drewN_heap w' n
  exact ⟨by rw [o]; exact h.os, by rw [t]; exact h.tape, by rw [u]; exact h.output, by rw [e]; exact h.size, fun k hk => by rw [e]; exact h.block k hk⟩

theorem i64_id {n : Int} (h0 : -9223372036854775808 ≤ n) (h1 : n ≤ 9223372036854775807) : IntKind.i64.wrap n = n := by rw [IntKind.wrap_i64]; omega
theorem side_bd {a b t : Int} (ha : 0 ≤ a ∧ a ≤ 65535) (hb : 0 ≤ b ∧ b ≤ 65535) (ht : 0 ≤ t ∧ t ≤ 65536) : -4294967296 ≤ (b - a) * t ∧ (b - a) * t ≤ 4294967296 := by
  have p : (b - a) * t ≤ 65536 * t := Int.mul_le_mul_of_nonneg_right (by omega) ht.1
  have q : -65536 * t ≤ (b - a) * t := Int.mul_le_mul_of_nonneg_right (by omega) ht.1
  omega
set_option maxHeartbeats 400000 in
theorem between_any (a b t : Int) (w : World) (ha : 0 ≤ a ∧ a ≤ 65535) (hb : 0 ≤ b ∧ b ≤ 65535) (ht : 0 ≤ t ∧ t ≤ 65536) :
    Calls Try.prog 24 #[.agg #[.int .i64 a, .int .i64 b], .int .i64 t] w fun e w' => e = .returned (.int .i64 (btw a b t)) ∧ Below w.heap.size w w' := by
  have hw : Hid (Below w.heap.size w (w.alloc (.cells #[.int .i64 a, .int .i64 b] 41))) := (Below.refl _ _).alloc (Nat.le_refl _) _
  have c0 : (w.alloc (.cells #[.int .i64 a, .int .i64 b] 41)).cell? ⟨w.heap.size, 0, none⟩ = some (.int .i64 a) := by rw [cell_of_row _ _ _ _ _ _ (heap_alloc_new w _)]; rfl
  have c1 : (w.alloc (.cells #[.int .i64 a, .int .i64 b] 41)).cell? ⟨w.heap.size, 1, none⟩ = some (.int .i64 b) := by rw [cell_of_row _ _ _ _ _ _ (heap_alloc_new w _)]; rfl
  have HS : Hid _ := side_bd ha hb ht
  have hd : IntKind.i64.wrap (IntKind.i64.wrap (b - a) * t) = (b - a) * t := by
    have := HS.out
    rw [i64_id (n := b - a) (by omega) (by omega), i64_id (by omega) (by omega)]
  have HB : Hid (IntKind.i64.wrap (a + (b - a) * t / 65536) = btw a b t) := by
    show _ = _
    have h0 := btw_low ht.1 ht.2 ha.1 hb.1
    have h1 := btw_high ht.1 ht.2 ha.2 hb.2
    unfold btw at *
    exact i64_id (by omega) (by omega)
  go_enter Try.func24, Try.ntmps24
  go_wp2_with fail
  generalize (w.alloc (.cells #[.int .i64 a, .int .i64 b] 41)) = W at *
  go_quiet (first | (go_at_call 31; refine Calls.quiet_of_same (div_hi _ 65536 _ (by omega) (by omega) (by have := HS.out; omega) (by have := HS.out; omega))))
  go_wp2
  go_ret
  exact ⟨ret_int HB.out, below_drewN hw.out _⟩
/-- Block B is an array of two sides with these ends. -/
def Four (w : World) (B : Nat) (p q r s : Int) : Prop := w.heap[B]? = some (.cells #[.int .i64 p, .int .i64 q, .int .i64 r, .int .i64 s] 42 (0, 0))
theorem Four.c0 {w : World} {B : Nat} {p q r s : Int} (h : Four w B p q r s) : w.cell? ⟨B, 0, none⟩ = some (.int .i64 p) := by rw [cell_of_row w B 0 _ 42 (0, 0) h]; rfl
theorem Four.c1 {w : World} {B : Nat} {p q r s : Int} (h : Four w B p q r s) : w.cell? ⟨B, 1, none⟩ = some (.int .i64 q) := by rw [cell_of_row w B 1 _ 42 (0, 0) h]; rfl
theorem Four.c2 {w : World} {B : Nat} {p q r s : Int} (h : Four w B p q r s) : w.cell? ⟨B, 2, none⟩ = some (.int .i64 r) := by rw [cell_of_row w B 2 _ 42 (0, 0) h]; rfl
theorem Four.c3 {w : World} {B : Nat} {p q r s : Int} (h : Four w B p q r s) : w.cell? ⟨B, 3, none⟩ = some (.int .i64 s) := by rw [cell_of_row w B 3 _ 42 (0, 0) h]; rfl
theorem Four.free {w : World} {B : Nat} {p q r s : Int} (h : Four w B p q r s) (k : Nat) : w.frozen? ⟨B, k, none⟩ = false := frozen_of_row w B k _ 42 h
/-- What around has made: its own two blocks, the second with these four numbers. -/
structure Gr (w wr : World) (p q r s : Int) : Prop where
  res : Four wr w.heap.size 0 0 0 0
  own : Four wr (w.heap.size + 1) p q r s
  bel : Below w.heap.size w wr
theorem Four.lt {w : World} {B : Nat} {p q r s : Int} (h : Four w B p q r s) : B < w.heap.size := (Array.getElem?_eq_some_iff.1 h).1
theorem Four.of_block {w w' : World} {B : Nat} {p q r s : Int} (h : Four w B p q r s) (e : w'.heap[B]? = w.heap[B]?) : Four w' B p q r s := by
  unfold Four; rw [e]; exact h
theorem Gr.start (w : World) : Gr w ((w.alloc (.cells #[.int .i64 0, .int .i64 0, .int .i64 0, .int .i64 0] 42)).alloc (.cells #[.int .i64 0, .int .i64 0, .int .i64 0, .int .i64 0] 42)) 0 0 0 0 := by
  have b1 : Below w.heap.size w (w.alloc (.cells #[.int .i64 0, .int .i64 0, .int .i64 0, .int .i64 0] 42)) := (Below.refl _ _).alloc (Nat.le_refl _) _
  have e1 : (w.alloc (.cells #[.int .i64 0, .int .i64 0, .int .i64 0, .int .i64 0] 42)).heap.size = w.heap.size + 1 := by simp
  have h1 : Four (w.alloc (.cells #[.int .i64 0, .int .i64 0, .int .i64 0, .int .i64 0] 42)) w.heap.size 0 0 0 0 := heap_alloc_new w _
  have h2 := heap_alloc_new (w.alloc (.cells #[.int .i64 0, .int .i64 0, .int .i64 0, .int .i64 0] 42)) (.cells #[.int .i64 0, .int .i64 0, .int .i64 0, .int .i64 0] 42)
  generalize (w.alloc (.cells #[.int .i64 0, .int .i64 0, .int .i64 0, .int .i64 0] 42)) = W at *
  rw [e1] at h2
  refine ⟨h1.of_block ?_, h2, b1.alloc b1.size _⟩
  exact ((Below.refl W.heap.size W).alloc (Nat.le_refl _) _).block _ h1.lt
theorem Four.put {w : World} {B : Nat} {p q r s p' q' r' s' : Int} (h : Four w B p q r s) (k : Nat) (v : Int)
    (e : (#[.int .i64 p, .int .i64 q, .int .i64 r, .int .i64 s] : Array Value).setIfInBounds k (.int .i64 v) = #[.int .i64 p', .int .i64 q', .int .i64 r', .int .i64 s']) :
    Four (w.setCell ⟨B, k, none⟩ (.int .i64 v)) B p' q' r' s' := by
  unfold Four
  rw [heap_setCell_same w _ k _ 42 _ h]
  rw [← e]
theorem Gr.put {w wr : World} {p q r s p' q' r' s' : Int} (g : Gr w wr p q r s) (k : Nat) (v : Int)
    (e : (#[.int .i64 p, .int .i64 q, .int .i64 r, .int .i64 s] : Array Value).setIfInBounds k (.int .i64 v) = #[.int .i64 p', .int .i64 q', .int .i64 r', .int .i64 s']) :
    Gr w (wr.setCell ⟨w.heap.size + 1, k, none⟩ (.int .i64 v)) p' q' r' s' :=
  ⟨g.res.of_block (Below.heap_setCell wr ⟨w.heap.size + 1, k, none⟩ _ _ (by simp)), g.own.put k v e, g.bel.setCell (p := ⟨w.heap.size + 1, k, none⟩) (Nat.le_succ _) _⟩
/-- The world in which the result is taken over. -/
def fin (wr : World) (n : Nat) (p q r s : Int) : World :=
  (((wr.setCell ⟨n, 0, none⟩ (.int .i64 p)).setCell ⟨n, 1, none⟩ (.int .i64 q)).setCell ⟨n, 2, none⟩ (.int .i64 r)).setCell ⟨n, 3, none⟩ (.int .i64 s)
theorem Gr.done {w wr : World} {p q r s : Int} (g : Gr w wr p q r s) : Four (fin wr w.heap.size p q r s) w.heap.size p q r s ∧ Below w.heap.size w (fin wr w.heap.size p q r s) :=
  ⟨(((g.res.put 0 p rfl).put 1 q rfl).put 2 r rfl).put 3 s rfl, (((g.bel.setCell (p := ⟨w.heap.size, 0, none⟩) (Nat.le_refl _) _).setCell (p := ⟨w.heap.size, 1, none⟩) (Nat.le_refl _) _).setCell (p := ⟨w.heap.size, 2, none⟩) (Nat.le_refl _) _).setCell (p := ⟨w.heap.size, 3, none⟩) (Nat.le_refl _) _⟩
theorem Gr.drew {w wr : World} {p q r s : Int} (g : Gr w wr p q r s) : Gr w wr.drew p q r s := ⟨g.res, g.own, below_drewN g.bel 1⟩
set_option maxHeartbeats 1000000 in
theorem around_any (S : Nat) (stage x z : Int) (w : World) (hS : S < 18446744073709551616) (hx : -9223372036854775808 ≤ x ∧ x ≤ 9223372036854775807) (hz : -9223372036854775808 ≤ z ∧ z ≤ 9223372036854775807) :
    Calls Try.prog 23 #[.int .u64 S, .int .i64 stage, .int .i64 x, .int .i64 z] w fun e w' => e = .returned (.agg #[.int .i64 (latN S stage x z), .int .i64 (latN S stage (wrap64 (x + 1)) z), .int .i64 (latN S stage x (wrap64 (z + 1))), .int .i64 (latN S stage (wrap64 (x + 1)) (wrap64 (z + 1)))]) ∧ Below w.heap.size w w' := by
  have HG : Hid _ := Gr.start w
  go_enter Try.func23, Try.ntmps23
  go_wp2_with fail
  generalize ((w.alloc (.cells #[.int .i64 0, .int .i64 0, .int .i64 0, .int .i64 0] 42)).alloc (.cells #[.int .i64 0, .int .i64 0, .int .i64 0, .int .i64 0] 42)) = W0 at *
  refine wp_loop_rounds 3 ?_
  rw [rounds_succ]
  go_wp2_with fail
  refine wp_loop_rounds 3 ?_
  rw [rounds_succ]
  have c0 := HG.out.own.c0
  have f0 := HG.out.own.free 0
  go_upto_region 8 with fail
  go_region_with (go_at_call 34; go_must (refine (lattice_any S stage _ _ _ hS).mono ?_); rintro e w' ⟨rfl, hw⟩; subst w')
  go_wp2_with fail
  clear c0 f0
  replace HG : Hid (Gr w ((W0.setCell ⟨w.heap.size + 1, 0, none⟩ (.int .i64 (latN S stage x z))).drew) (latN S stage x z) 0 0 0) := (HG.out.put 0 (latN S stage x z) rfl).drew
  generalize ((W0.setCell ⟨w.heap.size + 1, 0, none⟩ (.int .i64 (latN S stage x z))).drew) = W1 at *
  clear W0
  rw [rounds_succ]
  have c1 := HG.out.own.c1
  have f1 := HG.out.own.free 1
  go_upto_region 8 with fail
  go_region_with (go_at_call 34; go_must (refine (lattice_any S stage _ _ _ hS).mono ?_); rintro e w' ⟨rfl, hw⟩; subst w')
  go_wp2_with fail
  clear c1 f1
  replace HG : Hid (Gr w ((W1.setCell ⟨w.heap.size + 1, 1, none⟩ (.int .i64 (latN S stage (wrap64 (x + 1)) z))).drew) (latN S stage x z) (latN S stage (wrap64 (x + 1)) z) 0 0) := (HG.out.put 1 (latN S stage (wrap64 (x + 1)) z) rfl).drew
  generalize ((W1.setCell ⟨w.heap.size + 1, 1, none⟩ (.int .i64 (latN S stage (wrap64 (x + 1)) z))).drew) = W2 at *
  clear W1
  rw [rounds_succ]
  go_wp2_with fail
  rw [rounds_succ]
  go_wp2_with fail
  refine wp_loop_rounds 3 ?_
  rw [rounds_succ]
  have c2 := HG.out.own.c2
  have f2 := HG.out.own.free 2
  go_upto_region 8 with fail
  go_region_with (go_at_call 34; go_must (refine (lattice_any S stage _ _ _ hS).mono ?_); rintro e w' ⟨rfl, hw⟩; subst w')
  go_wp2_with fail
  clear c2 f2
  replace HG : Hid (Gr w ((W2.setCell ⟨w.heap.size + 1, 2, none⟩ (.int .i64 (latN S stage x (wrap64 (z + 1))))).drew) (latN S stage x z) (latN S stage (wrap64 (x + 1)) z) (latN S stage x (wrap64 (z + 1))) 0) := (HG.out.put 2 (latN S stage x (wrap64 (z + 1))) rfl).drew
  generalize ((W2.setCell ⟨w.heap.size + 1, 2, none⟩ (.int .i64 (latN S stage x (wrap64 (z + 1))))).drew) = W3 at *
  clear W2
  rw [rounds_succ]
  have c3 := HG.out.own.c3
  have f3 := HG.out.own.free 3
  go_upto_region 8 with fail
  go_region_with (go_at_call 34; go_must (refine (lattice_any S stage _ _ _ hS).mono ?_); rintro e w' ⟨rfl, hw⟩; subst w')
  go_wp2_with fail
  clear c3 f3
  replace HG : Hid (Gr w ((W3.setCell ⟨w.heap.size + 1, 3, none⟩ (.int .i64 (latN S stage (wrap64 (x + 1)) (wrap64 (z + 1))))).drew) (latN S stage x z) (latN S stage (wrap64 (x + 1)) z) (latN S stage x (wrap64 (z + 1))) (latN S stage (wrap64 (x + 1)) (wrap64 (z + 1)))) := (HG.out.put 3 (latN S stage (wrap64 (x + 1)) (wrap64 (z + 1))) rfl).drew
  generalize ((W3.setCell ⟨w.heap.size + 1, 3, none⟩ (.int .i64 (latN S stage (wrap64 (x + 1)) (wrap64 (z + 1))))).drew) = W4 at *
  clear W3
  rw [rounds_succ]
  go_wp2_with fail
  rw [rounds_succ]
  have c0 := HG.out.own.c0
  have d0 := HG.out.res.c0
  have f0 := HG.out.res.free 0
  have c1 := HG.out.own.c1
  have d1 := HG.out.res.c1
  have f1 := HG.out.res.free 1
  have c2 := HG.out.own.c2
  have d2 := HG.out.res.c2
  have f2 := HG.out.res.free 2
  have c3 := HG.out.own.c3
  have d3 := HG.out.res.c3
  have f3 := HG.out.res.free 3
  go_wp2_with fail
  clear c0 c1 c2 c3 d0 d1 d2 d3 f0 f1 f2 f3
  exact bodyPost_ret (results_cell_row rfl _ _ w.heap.size 42 _ (0, 0) _ rfl HG.out.done.1 Try.underlying42 rfl (by kernel_rfl)) rfl ⟨rfl, HG.out.done.2⟩
end Go.Proofs.Ytbbhnhmheakapaa.N
