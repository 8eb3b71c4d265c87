/-
  What streams answer: New makes one new block, Next turns just the count in it.
-/
import Derived.Test.YtcefiejbfnakeabHash
import Derived.Deep.QuietTactic
import Derived.BigQuiet
namespace Go.Proofs.Ytcefiejbfnakeab
open Go.RowKit

/-- Block g is a stream with that key and that count. -/
def Strm (T : Nat) (w : World) (g key count : Nat) : Prop := w.heap[g]? = some (.cells #[.int .u64 key, .int .u64 count] T (0, 0))
theorem Strm.key {T : Nat} {w : World} {g key count : Nat} (h : Strm T w g key count) : w.cell? ⟨g, 0, none⟩ = some (.int .u64 key) := by
  rw [cell_of_row w g 0 _ T (0, 0) h]; rfl
theorem Strm.count {T : Nat} {w : World} {g key count : Nat} (h : Strm T w g key count) : w.cell? ⟨g, 1, none⟩ = some (.int .u64 count) := by
  rw [cell_of_row w g 1 _ T (0, 0) h]; rfl
theorem Strm.free {T : Nat} {w : World} {g key count : Nat} (h : Strm T w g key count) (k : Nat) : w.frozen? ⟨g, k, none⟩ = false := frozen_of_row w g k _ T h

theorem Strm.lt {T : Nat} {w : World} {g key count : Nat} (h : Strm T w g key count) : g < w.heap.size := (Array.getElem?_eq_some_iff.1 h).1
theorem Strm.set {T : Nat} {w : World} {g key count : Nat} (h : Strm T w g key count) (c : Nat) : Strm T (w.setCell ⟨g, 1, none⟩ (.int .u64 (c : Int))) g key c := by
  unfold Strm
  rw [heap_setCell_same w g 1 _ T _ h]
  rfl
theorem Strm.of_block {T : Nat} {w w' : World} {g key count : Nat} (h : Strm T w g key count) (e : w'.heap[g]? = w.heap[g]?) : Strm T w' g key count := by
  unfold Strm; rw [e]; exact h
/-- Just block g is another one. -/
structure Only (g : Nat) (w w' : World) : Prop where
  os : w'.os = w.os
  tape : w'.tape = w.tape
  output : w'.output = w.output
  size : w'.heap.size = w.heap.size
  block : ∀ k, k ≠ g → w'.heap[k]? = w.heap[k]?
theorem Only.below {g B : Nat} {w w' : World} (h : Only g w w') (hB : B ≤ g) : Below B w w' :=
  ⟨h.os, h.tape, h.output, Nat.le_of_eq h.size.symm, fun k hk => h.block k (by omega)⟩
theorem drewN_heap (w : World) (n : Nat) : (w.drewN n).heap = w.heap ∧ (w.drewN n).os = w.os ∧ (w.drewN n).tape = w.tape ∧ (w.drewN n).output = w.output := by
  induction n generalizing w with
  | zero => exact ⟨rfl, rfl, rfl, rfl⟩
  | succ n ih => exact ih w.drew
theorem only_set (w : World) (g : Nat) (v : Value) (n : Nat) : Only g w ((w.setCell ⟨g, 1, none⟩ v).drewN n) := by
  obtain ⟨h, o, t, u⟩ := drewN_heap (w.setCell ⟨g, 1, none⟩ v) n
  refine ⟨by rw [o]; rfl, by rw [t]; rfl, by rw [u]; rfl, by rw [h]; simp [World.setCell], fun k hk => ?_⟩
  rw [h]
  exact Below.heap_setCell w ⟨g, 1, none⟩ v k hk
theorem Strm.next {T : Nat} {w : World} {g key count : Nat} (h : Strm T w g key count) (c n : Nat) : Strm T ((w.setCell ⟨g, 1, none⟩ (.int .u64 (c : Int))).drewN n) g key c :=
  (h.set c).of_block (by rw [(drewN_heap _ n).1])

set_option maxHeartbeats 400000 in
theorem new_any (S : Nat) (a b c d : Int) (w : World) (hS : S < 18446744073709551616) :
    Calls Try.prog 7 #[.int .u64 S, .int .i64 a, .int .i64 b, .int .i64 c, .int .i64 d] w fun e w' => e = .returned (.pointer (some ⟨w.heap.size, 0, none⟩)) ∧ Strm 36 w' w.heap.size (hashN S a b c d) 0 ∧ Below w.heap.size w w' := by
  go_enter Try.func7, Try.ntmps7
  go_wp2_with (go_at_call 12; go_must (refine (hash_any S a b c d _ hS).mono ?_); rintro e w' ⟨rfl, hw2⟩; subst w')
  go_ret
  exact ⟨rfl, heap_alloc_new w _, (Below.refl _ _).alloc (Nat.le_refl _) _⟩
theorem go_next (K C : Nat) : IntKind.u64.wrap ((K : Int) + IntKind.u64.wrap (((C : Int) + 1) * 11400714819323198485)) = (((K + (C + 1) * 11400714819323198485) % 18446744073709551616 : Nat) : Int) := by
  rw [IntKind.wrap_u64, IntKind.wrap_u64]
  omega
theorem nextN_eq (K C : Nat) : mixN ((K + (C + 1) * 11400714819323198485) % 18446744073709551616) = nextN K (C + 1) := by rw [nextN]
set_option maxHeartbeats 400000 in
theorem next_any (g K C : Nat) (w : World) (hC : C + 1 < 18446744073709551616) (hs : Strm 36 w g K C) :
    Calls Try.prog 9 #[.pointer (some ⟨g, 0, none⟩)] w fun e w' => e = .returned (.int .u64 (nextN K (C + 1))) ∧ Strm 36 w' g K (C + 1) ∧ Only g w w' := by
  have c0 := hs.key
  have c1 := hs.count
  have f1 := hs.free 1
  have d0 : (w.setCell ⟨g, 1, none⟩ (.int .u64 ((C : Int) + 1))).cell? ⟨g, 0, none⟩ = some (.int .u64 (K : Int)) := (hs.set (C + 1)).key
  have d1 : (w.setCell ⟨g, 1, none⟩ (.int .u64 ((C : Int) + 1))).cell? ⟨g, 1, none⟩ = some (.int .u64 ((C : Int) + 1)) := (hs.set (C + 1)).count
  have HX : Hid (∀ n, Strm 36 ((w.setCell ⟨g, 1, none⟩ (.int .u64 ((C : Int) + 1))).drewN n) g K (C + 1) ∧ Only g w ((w.setCell ⟨g, 1, none⟩ (.int .u64 ((C : Int) + 1))).drewN n)) := fun n => ⟨hs.next (C + 1) n, only_set w g _ n⟩
  have hx : Hid (IntKind.u64.wrap ((K : Int) + IntKind.u64.wrap (((C : Int) + 1) * 11400714819323198485)) = (((K + (C + 1) * 11400714819323198485) % 18446744073709551616 : Nat) : Int)) := go_next K C
  clear hs
  go_enter Try.func9, Try.ntmps9
  go_wp2
  generalize (w.setCell ⟨g, 1, none⟩ (.int .u64 ((C : Int) + 1))) = W at *
  clear c0 c1 f1
  go_quiet (first | (go_at_call 10; rw [hx.out]; refine Calls.quiet_of_same (mix_any _ _ (Nat.mod_lt _ (by decide)))))
  go_wp2
  go_ret
  exact ⟨ret_int (by rw [nextN_eq]), HX.out nq⟩
set_option maxHeartbeats 400000 in
theorem take_any (g K C : Nat) (n : Int) (w : World) (hC : C + 1 < 18446744073709551616) (hn : -9223372036854775808 ≤ n ∧ n ≤ 9223372036854775807) (hs : Strm 36 w g K C) :
    Calls Try.prog 13 #[.func (.func 9) #[.pointer (some ⟨g, 0, none⟩)] #[], .int .i64 n] w fun e w' => e = .returned (.int .i64 (belowN (nextN K (C + 1)) n)) ∧ Strm 36 w' g K (C + 1) ∧ Only g w w' := by
  have HS : Hid (Strm 36 w g K C) := hs
  clear hs
  go_enter Try.func13, Try.ntmps13
  go_wp2_with (first | (go_at_call 9; go_must (refine (next_any g K C _ hC HS.out).mono ?_); rintro e w1 ⟨rfl, h1, h2⟩; have H1 : Hid (Strm 36 w1 g K (C + 1)) := h1; have H2 : Hid (Only g w w1) := h2; clear h1 h2) | (go_at_call 6; go_must (refine (below_any _ n _ (nextN_lt _ _) hn).mono ?_); rintro e w2 ⟨rfl, hw⟩; subst w2))
  go_ret
  exact ⟨rfl, H1.out, H2.out⟩
set_option maxHeartbeats 400000 in
theorem sbelow_any (g K C : Nat) (n : Int) (w : World) (hC : C + 1 < 18446744073709551616) (hn : -9223372036854775808 ≤ n ∧ n ≤ 9223372036854775807) (hs : Strm 36 w g K C) :
    Calls Try.prog 8 #[.pointer (some ⟨g, 0, none⟩), .int .i64 n] w fun e w' => e = .returned (.int .i64 (belowN (nextN K (C + 1)) n)) ∧ Strm 36 w' g K (C + 1) ∧ Only g w w' := by
  have HS : Hid (Strm 36 w g K C) := hs
  have hmf : ∀ (fn : Fn) (first cap : Array Value) (w : World), (Instr.makeFunc fn first cap).run Try.prog w = .ok (.func fn first cap) w := fun _ _ _ _ => rfl
  clear hs
  go_enter Try.func8, Try.ntmps8
  go_wp2_with (first | (go_at_call 13; go_must (refine (take_any g K C n _ hC hn HS.out).mono ?_); rintro e w1 ⟨rfl, h1, h2⟩; have H1 : Hid (Strm 36 w1 g K (C + 1)) := h1; have H2 : Hid (Only g w w1) := h2; clear h1 h2))
  go_ret
  exact ⟨rfl, H1.out, H2.out⟩
end Go.Proofs.Ytcefiejbfnakeab
