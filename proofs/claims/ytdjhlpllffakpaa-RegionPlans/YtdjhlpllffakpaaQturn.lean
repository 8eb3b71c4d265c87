/-
  The program's space: how many are free from a number on, may, turn, Mark, Free, New.
-/
import Derived.Test.YtdjhlpllffakpaaQidx
import Derived.Test.YtdjhlpllffakpaaQbase
import Derived.Deep.Slices
set_option maxRecDepth 20000
namespace Go.Proofs.Ytdjhlpllffakpaa.Q
open Go.RowKit

theorem size4 (w : World) : (sizeOf 4).run Try.prog w = .ok 1 w := by kernel_rfl
theorem cut_from (tb n f : Nat) (hf : f < n) (w : World) : (Instr.sliceAt 68 (.slice (some ⟨tb, 0, none⟩) n n) (some (.int .i64 (f : Int))) none none).run Try.prog w = .ok (.slice (some ⟨tb, f, none⟩) (n - f) (n - f)) w := by
  rw [run_sliceAt_slice w 68 _ _ _ _ (by kernel_rfl), run_slice_l w 68 (some ⟨tb, 0, none⟩) n n (by kernel_rfl) .i64 f (by omega) (by omega), show Try.prog.elem 68 = 4 by kernel_rfl, size4, Result.andThen_ok, Int.toNat_natCast]
  unfold sliced
  rw [if_neg (by omega), Nat.mul_one]
  show Result.ok (Value.slice (some ((⟨tb, 0, none⟩ : Addr).add f)) _ _) w = _
  rw [Addr.add_mid, Nat.zero_add]
theorem cut_both (tb n f m : Nat) (hm : 1 ≤ m) (hf : f + m ≤ n) (w : World) : (Instr.sliceAt 68 (.slice (some ⟨tb, 0, none⟩) n n) (some (.int .i64 (f : Int))) (some (.int .i64 ((f : Int) + (m : Int)))) none).run Try.prog w = .ok (.slice (some ⟨tb, f, none⟩) m (n - f)) w := by
  rw [run_sliceAt_slice w 68 _ _ _ _ (by kernel_rfl), run_slice_lh w 68 (some ⟨tb, 0, none⟩) n n (by kernel_rfl) .i64 .i64 f (f + m) (by omega) (by omega) (by omega), show Try.prog.elem 68 = 4 by kernel_rfl, size4, Result.andThen_ok]
  unfold sliced
  rw [if_neg (by omega), show ((f : Int) + (m : Int)).toNat - (f : Int).toNat = m by omega, Int.toNat_natCast, Nat.mul_one]
  show Result.ok (Value.slice (some ((⟨tb, 0, none⟩ : Addr).add f)) m (n - f)) w = _
  rw [Addr.add_mid, Nat.zero_add]

/-- From f on m are free, and there it ends. -/
structure FreeRun (T : List Bool) (f m : Nat) : Prop where
  le : f + m ≤ T.length
  free : ∀ i, f ≤ i → i < f + m → T.getD i false = false
  stop : f + m = T.length ∨ T.getD (f + m) false = true

set_option maxHeartbeats 1000000 in
theorem freeFrom_c (g tb h f : Nat) (T : List Bool) (w : World) (H : PS w g tb h T) (hf : f < T.length) :
    Calls Try.prog 54 #[.pointer (some ⟨g, 0, none⟩), .int .i64 (f : Int)] w fun e w' => w' = w ∧ ∃ m, FreeRun T f m ∧ e = .returned (.int .i64 (m : Int)) := by
  obtain ⟨Post, hPost⟩ : ∃ Post : Ending → World → Prop, Post = fun e w' => w' = w ∧ ∃ m, FreeRun T f m ∧ e = .returned (.int .i64 (m : Int)) := ⟨_, rfl⟩
  rw [← hPost]
  have HP : Hid (∀ m, FreeRun T f m → Post (.returned (.int .i64 (m : Int))) w) := fun m hm => by rw [hPost]; exact ⟨rfl, m, hm, rfl⟩
  clear hPost
  have c0 := H.cells.1
  have hcut := cut_from tb T.length f hf
  have hrow := H.row
  have hfew := H.few
  obtain ⟨n, hn⟩ : ∃ n, n = T.length := ⟨_, rfl⟩
  rw [← hn] at c0 hcut
  have Hn : Hid (n = T.length) := hn
  have Hrow : Hid (w.heap[tb]? = some (.cells (bvals T) 4 (0, 0))) := hrow
  have hfn : f < n := by omega
  have hn4 : n ≤ 4096 := by omega
  clear hn hrow H hfew hf
  go_enter Try.func54, Try.ntmps54
  go_wp2_with fail
  refine (index_c tb f (n - f) (n - f) T true w Hrow.out (by have := Hn.out; omega) (by have := Hn.out; omega)).mono ?_
  rintro e w' ⟨rfl, j, hj, hA, ⟨rfl, rfl⟩ | ⟨hlt, hT, rfl⟩⟩
  · have R := HP.out (n - f) ⟨by have := Hn.out; omega, fun i h1 h2 => by have := hA (i - f) (by omega); rw [show f + (i - f) = i by omega] at this; simpa using this, .inl (by have := Hn.out; omega)⟩
    clear HP hA
    go_wp2
    exact R
  · have R := HP.out j ⟨by have := Hn.out; omega, fun i h1 h2 => by have := hA (i - f) (by omega); rw [show f + (i - f) = i by omega] at this; simpa using this, .inr hT⟩
    clear HP hA hT
    have hj0 : (0 : Int) ≤ (j : Int) := by omega
    go_wp2
    exact R

set_option maxHeartbeats 1000000 in
theorem contains_c (tb o n c : Nat) (T : List Bool) (v : Bool) (w : World) (hrow : w.heap[tb]? = some (.cells (bvals T) 4 (0, 0))) (hle : o + n ≤ T.length) (hfew : T.length ≤ 4096) :
    Calls Try.prog 56 #[.slice (some ⟨tb, o, none⟩) n c, .bool v] w fun e w' => w' = w ∧ e = .returned (.bool (!allS T o n (!v))) := by
  obtain ⟨Post, hPost⟩ : ∃ Post : Ending → World → Prop, Post = fun e w' => w' = w ∧ e = .returned (.bool (!allS T o n (!v))) := ⟨_, rfl⟩
  rw [← hPost]
  have HP : Hid (∀ b, allS T o n (!v) = !b → Post (.returned (.bool b)) w) := fun b hb => by rw [hPost]; exact ⟨rfl, by rw [hb]; simp⟩
  clear hPost
  go_enter Try.func56, Try.ntmps56
  go_wp2_with fail
  refine (index_c tb o n c T v w hrow hle hfew).mono ?_
  rintro e w' ⟨rfl, j, hj, hA, ⟨rfl, rfl⟩ | ⟨hlt, hT, rfl⟩⟩
  · have R := HP.out false (by
      refine (allS_iff hle _).2 (fun i h1 h2 => get_of (by omega) ?_)
      have := hA (i - o) (by omega)
      rw [show o + (i - o) = i by omega] at this
      cases v <;> simpa using this)
    clear HP hA
    go_wp2
    exact R
  · have R := HP.out true (by
      cases hx : allS T o n (!v) with
      | false => rfl
      | true =>
        have := getD_of ((allS_iff hle _).1 hx (o + j) (by omega) (by omega))
        rw [hT] at this
        cases v <;> simp at this)
    clear HP hA hT
    have hj0 : (0 : Int) ≤ (j : Int) := by omega
    go_wp2
    exact R
/-- May a span be? -/
def fitB (h n : Nat) (f m : Int) : Bool := decide (1 ≤ m ∧ (h : Int) ≤ f ∧ m ≤ (n : Int) - f)
theorem mayB_fit (h : Nat) (T : List Bool) (f m : Int) (b : Bool) : mayB h T f m b = (fitB h T.length f m && allS T f.toNat m.toNat b) := by
  unfold mayB fitB
  congr 1
  rw [decide_eq_decide]
  omega
theorem wrap_len {n : Nat} {f : Int} (hn : n ≤ 4096) (h0 : 0 ≤ f) (hf : f ≤ 9223372036854775807) : -9223372036854775808 ≤ (n : Int) - f ∧ (n : Int) - f ≤ 9223372036854775807 := by omega

set_option maxHeartbeats 1000000 in
theorem may_c (g tb h : Nat) (T : List Bool) (f m : Int) (hf : I64 f) (hm : I64 m) (w : World) (H : PS w g tb h T) :
    Calls Try.prog 55 #[.pointer (some ⟨g, 0, none⟩), .agg #[.int .i64 f, .int .i64 m]] w fun e w' => e = .returned (.bool (fitB h T.length f m)) ∧ Below w.heap.size w w' := by
  obtain ⟨Post, hPost⟩ : ∃ Post : Ending → World → Prop, Post = fun e w' => e = .returned (.bool (fitB h T.length f m)) ∧ Below w.heap.size w w' := ⟨_, rfl⟩
  rw [← hPost]
  have HP : Hid (∀ r w', fitB h T.length f m = r → Below w.heap.size w w' → Post (.returned (.bool r)) w') := fun r w' h1 h2 => by rw [hPost, h1]; exact ⟨rfl, h2⟩
  clear hPost
  have hb1 : Below w.heap.size w (w.alloc (.cells #[.int .i64 f, .int .i64 m] 41)) := (Below.refl _ _).alloc (Nat.le_refl _) _
  have Hb1 : Hid (Below w.heap.size w (w.alloc (.cells #[.int .i64 f, .int .i64 m] 41))) := hb1
  obtain ⟨c0, c1⟩ := (H.on hb1).cells
  have x0 : (w.alloc (.cells #[.int .i64 f, .int .i64 m] 41)).cell? ⟨w.heap.size, 0, none⟩ = some (.int .i64 f) := by rw [cell_of_row _ _ _ _ 41 (0, 0) (heap_alloc_new w _)]; rfl
  have x1 : (w.alloc (.cells #[.int .i64 f, .int .i64 m] 41)).cell? ⟨w.heap.size, 1, none⟩ = some (.int .i64 m) := by rw [cell_of_row _ _ _ _ 41 (0, 0) (heap_alloc_new w _)]; rfl
  have hfew := H.few
  obtain ⟨hf1, hf2⟩ := hf
  obtain ⟨hm1, hm2⟩ := hm
  obtain ⟨n, hn⟩ : ∃ n, n = T.length := ⟨_, rfl⟩
  rw [← hn] at hfew c0
  have Hn : Hid (T.length = n) := hn.symm
  clear H hb1 hn
  go_enter Try.func55, Try.ntmps55
  go_wp2_with fail
  generalize w.alloc (.cells #[.int .i64 f, .int .i64 m] 41) = w1 at *
  have HB : Hid (∀ k, Below w.heap.size w (w1.drewN k)) := fun k => ⟨Hb1.out.os, Hb1.out.tape, Hb1.out.output, Hb1.out.size, Hb1.out.block⟩
  by_cases h1 : 1 ≤ m
  · have d1 : decide (1 ≤ m) = true := decide_eq_true h1
    by_cases h2 : (h : Int) ≤ f
    · have d2 : decide ((h : Int) ≤ f) = true := decide_eq_true h2
      have hw := wrap_len hfew (by omega) hf2
      obtain ⟨hw1, hw2⟩ := hw
      by_cases h3 : m ≤ (n : Int) - f
      · have R := fun k => HP.out true (w1.drewN k) (by unfold fitB; rw [Hn.out]; exact decide_eq_true ⟨h1, h2, h3⟩) (HB.out k)
        have d3 : decide (m ≤ (n : Int) - f) = true := decide_eq_true h3
        clear HP HB Hb1
        go_big_quiet (fail)
        go_wp2
        exact R _
      · have R := fun k => HP.out false (w1.drewN k) (by unfold fitB; rw [Hn.out]; exact decide_eq_false (by omega)) (HB.out k)
        have d3 : decide (m ≤ (n : Int) - f) = false := decide_eq_false h3
        clear HP HB Hb1
        go_big_quiet (fail)
        go_wp2
        exact R _
    · have R := fun k => HP.out false (w1.drewN k) (by unfold fitB; rw [Hn.out]; exact decide_eq_false (by omega)) (HB.out k)
      have d2 : decide ((h : Int) ≤ f) = false := decide_eq_false h2
      clear HP HB Hb1
      go_big_quiet (fail)
      go_wp2
      exact R _
  · have R := fun k => HP.out false (w1.drewN k) (by unfold fitB; rw [Hn.out]; exact decide_eq_false (by omega)) (HB.out k)
    have d1 : decide (1 ≤ m) = false := decide_eq_false h1
    clear HP HB Hb1
    go_big_quiet (fail)
    go_wp2
    exact R _
end Go.Proofs.Ytdjhlpllffakpaa.Q
