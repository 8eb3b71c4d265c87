/-
  What all walks of this seat share: a class of worlds in which whatever lay is as it lay, and the law that a region which only reads, and whose callees only lay new blocks, may be walked once in the order of its text, in that class.
  What Div and Mod answer, of the program and of the document, for every two integers: the quotient rounded down and the rest, 0 for a divisor below 1; none turns anything.
  What In, Chunk, Index and Cell answer, of the program and of the document, for every cell, chunk and place; whatever lay is as it lay.
-/
import Derived.Test.YtjeapaojbkicmabDoorProg
import Derived.WalkKit
import Derived.WalkLawsBesides
import Derived.WalkSpells
import Derived.Below
import Derived.BigQuiet
import Derived.StillTailTactics
set_option maxRecDepth 20000
namespace Go.Proofs.YtjeapaojbkicmabDoor.G
section
open Go.RowKit

theorem ret_int {k : IntKind} {a b : Int} (h : a = b) : Ending.returned (.int k a) = .returned (.int k b) := by rw [h]
theorem ret_bool {a b : Bool} (h : a = b) : Ending.returned (.bool a) = .returned (.bool b) := by rw [h]

/-- A world in which all that lay in w0 lies as it lay. -/
structure Since (w0 : World) where
  w : World
  bel : Below w0.heap.size w0 w
theorem since_made (w0 : World) : Nonempty (Since w0) := ⟨⟨w0, Below.refl _ _⟩⟩

theorem Since.cell {w0 : World} {p : Addr} {v : Value} (h : w0.cell? p = some v) (s : Since w0) : s.w.cell? p = some v := by
  refine (s.bel.cell ?_).trans h
  simp only [World.cell?] at h
  rcases hb : w0.heap[p.block]? with _ | o
  · simp [hb] at h
  · exact (Array.getElem?_eq_some_iff.1 hb).1

theorem Calls.since {P : Program} {f : FuncId} {args : Array Value} {w0 : World} {s : Since w0} {v : Value} (h : Calls P f args s.w fun e w' => e = .returned v ∧ Below s.w.heap.size s.w w') :
    Calls P f args s.w fun e w'' => e = .returned v ∧ ∃ s' : Since w0, w'' = s'.w :=
  h.mono fun _ w' ⟨he, hb⟩ => ⟨he, ⟨w', s.bel.trans (hb.mono s.bel.size)⟩, rfl⟩
theorem Calls.since_same {P : Program} {f : FuncId} {args : Array Value} {w0 : World} {s : Since w0} {v : Value} (h : Calls P f args s.w fun e w' => e = .returned v ∧ w' = s.w) :
    Calls P f args s.w fun e w'' => e = .returned v ∧ ∃ s' : Since w0, w'' = s'.w :=
  h.mono fun _ _ ⟨he, hb⟩ => ⟨he, s, hb⟩

theorem wp_region_since {P : Program} {id : Nat} {Q : Exit → Act → World → Prop} {a : Act} {w : World} {l : List Oper} (hm : P.follows .mixedOrders = true) (hB : Region.lexB .any l.toArray = true)
    (h : wpQuiet P l.toArray (fun w' => ∃ s : Since w, w' = s.w) (fun a' => ∀ w', (∃ s : Since w, w' = s.w) → Q .normal a' w') l a) : (Code.region id l.toArray true).wp P Q a w :=
  wp_region_quiet (C := fun w' => ∃ s : Since w, w' = s.w) hm hB ⟨⟨_, (Below.refl _ w).drew⟩, rfl⟩ (by simpa using h)

/-- A region that reads, calls what only reads, and writes at its end. -/
theorem wp_region_tail {P : Program} {id : Nat} {Q : Exit → Act → World → Prop} {a : Act} {w : World} {l : List Oper} (n : Nat) (hm : P.follows .mixedOrders = true) (hB : Region.lexTailB .any l.toArray n = true)
    (h : wpStill P l.toArray (w.drewN 1) (fun a' => wpList P l.toArray Q (l.drop n) a' (w.drewN 1)) (l.take n) a) : (Code.region id l.toArray true).wp P Q a w :=
  wp_region_still_tail n hm hB h
theorem below_drewN {B : Nat} {a w : World} (h : Below B a w) (n : Nat) : Below B a (w.drewN n) := ⟨h.os, h.tape, h.output, h.size, h.block⟩

theorem set_two {W : World} {B : Nat} {T : TypeId} {a b u v : Value} (h : W.heap[B]? = some (.cells #[a, b] T (0, 0))) : ((W.setCell ⟨B, 0, none⟩ u).setCell ⟨B, 1, none⟩ v).heap[B]? = some (.cells #[u, v] T (0, 0)) := by
  rw [heap_setCell_same _ B 1 _ T _ (heap_setCell_same W B 0 _ T _ h)]
  rfl
theorem set_three {W : World} {B : Nat} {T : TypeId} {a b c u v x : Value} (h : W.heap[B]? = some (.cells #[a, b, c] T (0, 0))) : (((W.setCell ⟨B, 0, none⟩ u).setCell ⟨B, 1, none⟩ v).setCell ⟨B, 2, none⟩ x).heap[B]? = some (.cells #[u, v, x] T (0, 0)) := by
  rw [heap_setCell_same _ B 2 _ T _ (heap_setCell_same _ B 1 _ T _ (heap_setCell_same W B 0 _ T _ h))]
  rfl
theorem new_two (w : World) (o1 o2 : Obj) : ((w.alloc o1).alloc o2).heap[w.heap.size + 1]? = some o2 := by
  have := heap_alloc_new (w.alloc o1) o2
  rwa [World.size_alloc] at this
theorem below_two (w : World) (o1 o2 : Obj) : Below w.heap.size w ((w.alloc o1).alloc o2) := ((Below.refl _ _).alloc (Nat.le_refl _) _).alloc (by simp) _
theorem below_set2 {B b : Nat} {a W : World} {u v : Value} (h : Below B a W) (hb : B ≤ b) : Below B a ((W.setCell ⟨b, 0, none⟩ u).setCell ⟨b, 1, none⟩ v) :=
  (h.setCell (p := ⟨b, 0, none⟩) hb _).setCell (p := ⟨b, 1, none⟩) hb _
theorem below_set3 {B b : Nat} {a W : World} {u v x : Value} (h : Below B a W) (hb : B ≤ b) : Below B a (((W.setCell ⟨b, 0, none⟩ u).setCell ⟨b, 1, none⟩ v).setCell ⟨b, 2, none⟩ x) :=
  (below_set2 h hb).setCell (p := ⟨b, 2, none⟩) hb _
end
section
open Go.RowKit

theorem tdiv_floor (a b : Int) (hb : 1 ≤ b) : (a.tmod b < 0 → a.tdiv b - 1 = a / b ∧ a.tmod b + b = a % b) ∧ (0 ≤ a.tmod b → a.tdiv b = a / b ∧ a.tmod b = a % b) := by
  have e1 := Int.mul_tdiv_add_tmod a b
  have e2 := Int.mul_ediv_add_emod a b
  have m0 := Int.emod_nonneg a (show b ≠ 0 by omega)
  have m1 := Int.emod_lt_of_pos a (show 0 < b by omega)
  have t1 : a.tmod b < b := Int.tmod_lt_of_pos a (by omega)
  have t2 : -b < a.tmod b := by
    have := Int.tmod_lt_of_pos (-a) (show 0 < b by omega)
    rw [Int.neg_tmod] at this
    omega
  constructor
  · intro h
    have hm : a.tmod b + b = a % b := by
      have : (a.tmod b + b) % b = a % b := by
        rw [Int.add_emod_right]
        conv => rhs; rw [← e1]
        rw [Int.mul_add_emod_self_left]
      rw [Int.emod_eq_of_lt (by omega) (by omega)] at this
      exact this
    refine ⟨?_, hm⟩
    have h3 : b * (a.tdiv b - 1) = b * (a / b) := by rw [Int.mul_sub, Int.mul_one]; omega
    exact Int.eq_of_mul_eq_mul_left (by omega) h3
  · intro h
    have hm : a.tmod b = a % b := by
      have : (a.tmod b) % b = a % b := by
        conv => rhs; rw [← e1]
        rw [Int.mul_add_emod_self_left]
      rw [Int.emod_eq_of_lt h (by omega)] at this
      exact this
    refine ⟨?_, hm⟩
    have h3 : b * (a.tdiv b) = b * (a / b) := by omega
    exact Int.eq_of_mul_eq_mul_left (by omega) h3
theorem div_bd (a b : Int) (hb : 1 ≤ b) : (0 ≤ a → 0 ≤ a / b ∧ a / b ≤ a) ∧ (a < 0 → a ≤ a / b ∧ a / b < 0) := by
  have e2 := Int.mul_ediv_add_emod a b
  have m0 := Int.emod_nonneg a (show b ≠ 0 by omega)
  have m1 := Int.emod_lt_of_pos a (show 0 < b by omega)
  constructor
  · intro h
    exact ⟨Int.ediv_nonneg h (by omega), Int.ediv_le_self _ h⟩
  · intro h
    refine ⟨?_, Int.ediv_neg_of_neg_of_pos h (by omega)⟩
    exact (Int.le_ediv_iff_mul_le (by omega)).2 (by
      have : a * b ≤ a * 1 := Int.mul_le_mul_of_nonpos_left (by omega) hb
      omega)
theorem tdiv_bd (a b : Int) (hb : 1 ≤ b) (h0 : -9223372036854775808 ≤ a) (h1 : a ≤ 9223372036854775807) : -9223372036854775808 ≤ a.tdiv b ∧ a.tdiv b ≤ 9223372036854775807 ∧ (a.tmod b < 0 → -9223372036854775808 < a.tdiv b) := by
  have f := tdiv_floor a b hb
  have d := div_bd a b hb
  rcases Int.lt_or_le (a.tmod b) 0 with h | h
  · have g := f.1 h
    rcases Int.lt_or_le a 0 with k | k
    · have := d.2 k; omega
    · have := Int.tmod_nonneg b k; omega
  · have g := f.2 h
    rcases Int.lt_or_le a 0 with k | k
    · have := d.2 k; omega
    · have := d.1 k; omega

theorem tmod_bd (a b : Int) (hb : 1 ≤ b) : -b < a.tmod b ∧ a.tmod b < b := by
  refine ⟨?_, Int.tmod_lt_of_pos a (by omega)⟩
  have := Int.tmod_lt_of_pos (-a) (show 0 < b by omega)
  rw [Int.neg_tmod] at this
  omega

set_option maxHeartbeats 400000 in
theorem div_lo (a b : Int) (w : World) (hb : b < 1) : Calls Tryd.prog 40 #[.int .i64 a, .int .i64 b] w fun e w' => e = .returned (.int .i64 0) ∧ w' = w := by
  go_enter Tryd.func40, Tryd.ntmps40
  go_wp2
  go_ret
  exact ⟨rfl, rfl⟩
set_option maxHeartbeats 400000 in
theorem div_hi (a b : Int) (w : World) (hb : 1 ≤ b) (hb1 : b ≤ 9223372036854775807) (h0 : -9223372036854775808 ≤ a) (h1 : a ≤ 9223372036854775807) : Calls Tryd.prog 40 #[.int .i64 a, .int .i64 b] w fun e w' => e = .returned (.int .i64 (a / b)) ∧ w' = w := by
  have HF : Hid _ := tdiv_floor a b hb
  have hd := tdiv_bd a b hb h0 h1
  have ht := tmod_bd a b hb
  by_cases hm : a.tmod b < 0
  · go_enter Tryd.func40, Tryd.ntmps40
    go_wp2
    go_ret
    exact ⟨ret_int (HF.out.1 hm).1, rfl⟩
  · go_enter Tryd.func40, Tryd.ntmps40
    go_wp2
    go_ret
    exact ⟨ret_int (HF.out.2 (by omega)).1, rfl⟩
set_option maxHeartbeats 400000 in
theorem mod_lo (a b : Int) (w : World) (hb : b < 1) : Calls Tryd.prog 39 #[.int .i64 a, .int .i64 b] w fun e w' => e = .returned (.int .i64 0) ∧ w' = w := by
  go_enter Tryd.func39, Tryd.ntmps39
  go_wp2
  go_ret
  exact ⟨rfl, rfl⟩
set_option maxHeartbeats 400000 in
theorem mod_hi (a b : Int) (w : World) (hb : 1 ≤ b) (hb1 : b ≤ 9223372036854775807) (h0 : -9223372036854775808 ≤ a) (h1 : a ≤ 9223372036854775807) : Calls Tryd.prog 39 #[.int .i64 a, .int .i64 b] w fun e w' => e = .returned (.int .i64 (a % b)) ∧ w' = w := by
  have HF : Hid _ := tdiv_floor a b hb
  have hd := tdiv_bd a b hb h0 h1
  have ht := tmod_bd a b hb
  by_cases hm : a.tmod b < 0
  · go_enter Tryd.func39, Tryd.ntmps39
    go_wp2
    go_ret
    exact ⟨ret_int (HF.out.1 hm).2, rfl⟩
  · go_enter Tryd.func39, Tryd.ntmps39
    go_wp2
    go_ret
    exact ⟨ret_int (HF.out.2 (by omega)).2, rfl⟩
end
section
open Go.RowKit

def posV (x y z : Int) : Value := .agg #[.int .i64 x, .int .i64 y, .int .i64 z]
def atV (x z : Int) : Value := .agg #[.int .i64 x, .int .i64 z]

def inW (x y z : Int) : Prop := (0 ≤ y ∧ y ≤ 127) ∧ (-1048576 ≤ x ∧ x ≤ 1048576) ∧ (-1048576 ≤ z ∧ z ≤ 1048576)

def indexN (x y z : Int) : Int := if 0 ≤ y ∧ y ≤ 127 then y * 256 + z % 16 * 16 + x % 16 else -1
theorem i64_id {n : Int} (h0 : -9223372036854775808 ≤ n) (h1 : n ≤ 9223372036854775807) : IntKind.i64.wrap n = n := by rw [IntKind.wrap_i64]; omega
def cellY (i : Int) : Int := if 0 ≤ i ∧ i ≤ 32767 then i / 256 else 0
def cellX (cx i : Int) : Int := if 0 ≤ i ∧ i ≤ 32767 then wrap64 (wrap64 (cx * 16) + i % 16) else 0
def cellZ (cz i : Int) : Int := if 0 ≤ i ∧ i ≤ 32767 then wrap64 (wrap64 (cz * 16) + i % 256 / 16) else 0
set_option maxHeartbeats 400000 in
theorem cell_c (cx cz i : Int) (w : World) : Calls Tryd.prog 27 #[.agg #[.int .i64 cx, .int .i64 cz], .int .i64 i] w fun e w' => e = .returned (.agg #[.int .i64 (cellX cx i), .int .i64 (cellY i), .int .i64 (cellZ cz i)]) ∧ Below w.heap.size w w' := by
  by_cases c0 : 0 ≤ i
  case neg =>
    go_enter Tryd.func27, Tryd.ntmps27
    go_wp2
    exact bodyPost_ret (results_cell_row rfl _ _ (w.heap.size + 1) 62 _ (0, 0) _ rfl (new_two w _ _) Tryd.underlying62 rfl (by kernel_rfl)) rfl ⟨by simp [cellX, cellY, cellZ, show ¬ (0 ≤ i ∧ i ≤ 32767) by omega], below_two w _ _⟩
  by_cases c1 : i < 32768
  case neg =>
    go_enter Tryd.func27, Tryd.ntmps27
    go_wp2
    exact bodyPost_ret (results_cell_row rfl _ _ (w.heap.size + 1) 62 _ (0, 0) _ rfl (new_two w _ _) Tryd.underlying62 rfl (by kernel_rfl)) rfl ⟨by simp [cellX, cellY, cellZ, show ¬ (0 ≤ i ∧ i ≤ 32767) by omega], below_two w _ _⟩
  go_enter Tryd.func27, Tryd.ntmps27
  go_wp2_with fail
  refine wp_region_tail 16 (by kernel_rfl) (by kernel_rfl) ?_
  simp only [List.take_succ_cons, List.take_zero, List.drop_succ_cons, List.drop_zero]
  still_step
  still_step
  still_step
  still_step
  still_call (mod_hi _ _ _ (by decide) (by decide) (by omega) (by omega))
  still_step
  still_step
  still_call (div_hi _ _ _ (by decide) (by decide) (by omega) (by omega))
  still_step
  still_step
  still_step
  still_step
  still_call (mod_hi _ _ _ (by decide) (by decide) (by omega) (by omega))
  still_call (div_hi _ _ _ (by decide) (by decide) (by omega) (by omega))
  still_step
  still_step
  refine wpStill_nil ?_
  go_wp2
  refine bodyPost_ret (results_cell_row rfl _ _ (w.heap.size + 1) 62 _ (0, 0) _ rfl (set_three (new_two w _ _)) Tryd.underlying62 rfl (by kernel_rfl)) rfl ⟨?_, below_set3 (below_drewN (below_two w _ _) 1) (Nat.le_add_right _ _)⟩
  simp [cellX, cellY, cellZ, show 0 ≤ i ∧ i ≤ 32767 by omega]
end
end Go.Proofs.YtjeapaojbkicmabDoor.G
