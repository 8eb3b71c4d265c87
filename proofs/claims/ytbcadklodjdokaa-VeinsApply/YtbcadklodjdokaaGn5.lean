/-
  Each: the cells of a box one after the other, for every body that leaves the box alone; and the plain list of these cells.
-/
import Derived.Test.YtbcadklodjdokaaGn4
import Derived.RangeFuncNested
import Derived.RangeFuncBound
import Derived.RangeFuncCalls
import Derived.RangeFuncLeaves
import Derived.Shelf.Abstract
import Derived.Shelf.RegionOpen
import Derived.OwnWalkIn
import Derived.TacticsInMore
import Derived.LoopNIn
import Derived.LoopIn
import Derived.WalkMore
set_option maxRecDepth 20000
namespace Go.Proofs.Ytbcadklodjdokaa.G
open Go.RowKit Go.Shelf

attribute [local go_sem] Oper.semAt_some

structure P3 where
  x : Int
  y : Int
  z : Int
abbrev P3.val (p : P3) : Value := .agg #[.int .i64 p.x, .int .i64 p.y, .int .i64 p.z]

/-- The k-th cell from a corner on, S1 cells a row and S3 rows a layer. -/
def cellAt (a1 a2 a3 : Int) (S1 S3 k : Nat) : P3 := ⟨a1 + (k % S1 : Nat), a2 + (k / S1 / S3 : Nat), a3 + (k / S1 % S3 : Nat)⟩
def upto (a1 a2 a3 : Int) (S1 S3 n : Nat) : List P3 := (List.range n).map (cellAt a1 a2 a3 S1 S3)
theorem upto_zero (a1 a2 a3 : Int) (S1 S3 : Nat) : upto a1 a2 a3 S1 S3 0 = [] := rfl
theorem upto_succ (a1 a2 a3 : Int) (S1 S3 n : Nat) : upto a1 a2 a3 S1 S3 (n + 1) = upto a1 a2 a3 S1 S3 n ++ [cellAt a1 a2 a3 S1 S3 n] := by simp [upto, List.range_succ]
theorem upto_length (a1 a2 a3 : Int) (S1 S3 n : Nat) : (upto a1 a2 a3 S1 S3 n).length = n := by simp [upto]
theorem upto_prefix (a1 a2 a3 : Int) (S1 S3 : Nat) {m n : Nat} (h : m ≤ n) : upto a1 a2 a3 S1 S3 m <+: upto a1 a2 a3 S1 S3 n := by
  obtain ⟨d, rfl⟩ := Nat.exists_eq_add_of_le h
  clear h
  induction d with
  | zero => exact List.prefix_refl _
  | succ d ih =>
    rw [show m + (d + 1) = m + d + 1 by omega, upto_succ]
    exact ih.trans (List.prefix_append _ _)
theorem idx_lt {S1 S2 S3 I M L : Nat} (hI : I < S1) (hM : M < S3) (hL : L < S2) : (L * S3 + M) * S1 + I < S2 * S3 * S1 := by
  have h1 : (L * S3 + M) + 1 ≤ S2 * S3 := by
    have : (L + 1) * S3 ≤ S2 * S3 := Nat.mul_le_mul_right _ (by omega)
    rw [Nat.add_mul] at this
    omega
  have h2 : (L * S3 + M + 1) * S1 ≤ S2 * S3 * S1 := Nat.mul_le_mul_right _ h1
  rw [Nat.add_mul] at h2
  omega
theorem idx_last (L M I : Nat) : (L * (M + 1) + M) * (I + 1) + I + 1 = (L + 1) * (M + 1) * (I + 1) := by grind
theorem cellAt_of (a1 a2 a3 : Int) (S1 S3 i j l : Nat) (hi : i < S1) (hj : j < S3) : cellAt a1 a2 a3 S1 S3 ((l * S3 + j) * S1 + i) = ⟨a1 + i, a2 + l, a3 + j⟩ := by
  have e1 : ((l * S3 + j) * S1 + i) % S1 = i := by rw [Nat.mul_comm, Nat.mul_add_mod]; exact Nat.mod_eq_of_lt hi
  have e2 : ((l * S3 + j) * S1 + i) / S1 = l * S3 + j := by rw [Nat.mul_comm, Nat.mul_add_div (by omega), Nat.div_eq_of_lt hi]; omega
  have e3 : (l * S3 + j) / S3 = l := by rw [Nat.mul_comm, Nat.mul_add_div (by omega), Nat.div_eq_of_lt hj]; omega
  have e4 : (l * S3 + j) % S3 = j := by rw [Nat.mul_comm, Nat.mul_add_mod]; exact Nat.mod_eq_of_lt hj
  unfold cellAt
  rw [e1, e2, e3, e4]

/-- What a round must leave alone: the box's block, and every cell that was laid since n₁. -/
def Kp (B n₁ : Nat) (W W' : World) : Prop := (∀ cs fr, W.heap[B]? = some (.cells cs 86 fr) → W'.heap[B]? = some (.cells cs 86 fr)) ∧ ∀ k cs fr, n₁ ≤ k → W.heap[k]? = some (.cells cs 24 fr) → W'.heap[k]? = some (.cells cs 24 fr)
theorem Kp.trans {B n₁ : Nat} {X Y Z : World} (h : Kp B n₁ X Y) (k : Kp B n₁ Y Z) : Kp B n₁ X Z := ⟨fun cs fr e => k.1 cs fr (h.1 cs fr e), fun i cs fr hi e => k.2 i cs fr hi (h.2 i cs fr hi e)⟩
theorem Kp.refl (B n₁ : Nat) (W : World) : Kp B n₁ W W := ⟨fun _ _ e => e, fun _ _ _ _ e => e⟩
/-- A step that turns at most one block, which is neither. -/
theorem Kp.row {B n₁ : Nat} {W W' : World} {row : Option Nat} (h : W.grownBy W' row) (hr : ∀ g, row = some g → (∀ cs fr, W.heap[g]? ≠ some (.cells cs 86 fr)) ∧ ∀ cs fr, W.heap[g]? ≠ some (.cells cs 24 fr)) : Kp B n₁ W W' :=
  ⟨fun cs fr e => (h.block B (Array.getElem?_eq_some_iff.1 e).1 (fun e' => (hr B e'.symm).1 cs fr e)).trans e, fun k cs fr _ e => (h.block k (Array.getElem?_eq_some_iff.1 e).1 (fun e' => (hr k e'.symm).2 cs fr e)).trans e⟩
/-- The loop's own books are no cells. -/
theorem Kp.book {B n₁ : Nat} (W : World) (l : Nat) (o o' : Obj) (h : W.heap[l]? = some o) (ho : o.isCells = false) : Kp B n₁ W (W.putObj l o') :=
  Kp.row (grownBy_putObj' W l o') (fun g e => by cases e; rw [h]; exact ⟨fun cs fr e => (by cases e; cases ho), fun cs fr e => (by cases e; cases ho)⟩)
/-- New blocks turn nothing. -/
theorem Kp.grow {B n₁ : Nat} {W W' : World} (h : W.grownBy W' none) : Kp B n₁ W W' := Kp.row h (fun g e => by cases e)
/-- A store into a block that lay ahead of the loop. -/
theorem Kp.set {B n₁ b k : Nat} {W : World} {v : Value} (h1 : b < n₁) (h2 : b ≠ B) : Kp B n₁ W (W.setCell ⟨b, k, none⟩ v) :=
  ⟨fun cs fr e => (Below.heap_setCell W ⟨b, k, none⟩ v B (fun e' => h2 e'.symm)).trans e, fun i cs fr hi e => (Below.heap_setCell W ⟨b, k, none⟩ v i (fun e' => by simp at e'; omega)).trans e⟩
theorem below_grow {w w' : World} (h : Below w.heap.size w w') : w.grownBy w' none := ⟨h.os, h.tape, h.output, h.size, fun k hk _ => h.block k hk⟩

theorem wide_scope {n : Nat} {P : Program} {c : Code} {Q : Exit → Act → World → Prop} {a : Act} {w : World} (h : c.wpIn Fence.wide n P (Exit.noGoto Q) a w) : (Code.scope c).wpIn Fence.wide n P Q a w :=
  wpIn_wide.2 (wp_scope_straight (wpIn_wide.1 h))

set_option maxRecDepth 100000 in
set_option maxHeartbeats 1000000 in
theorem each1_none (n : Nat) (hn : 1 ≤ n) (l Bb : Nat) (a1 a2 a3 b1 b2 b3 : Int) (h0 : countN a1 a2 a3 b1 b2 b3 = 0) (J : List P3 → World → Prop) (W : World) (hW : AbidesFrom W.heap.size J) (hS : Six W Bb a1 a2 a3 b1 b2 b3) (hJ : J [] W) :
    CallsIn Fence.wide n Try.prog 57 #[.func (.yield l) #[] #[], .pointer (some ⟨Bb, 0, none⟩)] W fun e W' => (∃ v, e = .returned v) ∧ J [] W' := by
  refine callsIn_of_wp Try.func57 rfl trivial ?_ rfl
  simp only [Try.ntmps57, List.size_toArray, List.length_cons, List.length_nil, Nat.reduceAdd, Nat.reduceSub, Array.replicate_succ, Array.replicate_zero, List.push_toArray, List.append_toArray, List.nil_append, List.cons_append]
  obtain ⟨k0, k1, k2, k3, k4, k5⟩ := hS.cells
  gi_wp2
  refine wide_scope ?_
  gi_wp2_with (refine ⟨trivial, ?_⟩; gi_at_call 58; refine (callsIn_wide.2 (count_c _ _ _ _ _ _ _)).mono ?_; rintro e w1 ⟨rfl, hw1⟩)
  rw [Exit.noGoto_ret]
  refine bodyPost_ret (results_none rfl _ _ _) rfl ⟨⟨_, rfl⟩, ?_⟩
  exact hW [] W w1 none hJ (below_grow hw1) (fun r h => by cases h)

set_option maxRecDepth 100000 in
set_option maxHeartbeats 2000000 in
theorem each1_some (n : Nat) (hn : 1 ≤ n) (l Bb n₁ : Nat) (a1 a2 a3 b1 b2 b3 : Int) (S1 S2 S3 : Nat) (p1 : 1 ≤ S1) (p2 : 1 ≤ S2) (p3 : 1 ≤ S3) (e1 : a1 + (S1 : Int) = b1 + 1) (e2 : a2 + (S2 : Int) = b2 + 1) (e3 : a3 + (S3 : Int) = b3 + 1)
    (q1 : -1099511627776 ≤ a1 ∧ b1 ≤ 1099511627776) (q2 : -1099511627776 ≤ a2 ∧ b2 ≤ 1099511627776) (q3 : -1099511627776 ≤ a3 ∧ b3 ≤ 1099511627776)
    (J Jx : List P3 → World → Prop) (W : World) (hn₁ : n₁ ≤ W.heap.size) (hW : AbidesFrom W.heap.size J) (_hWx : AbidesFrom W.heap.size Jx)
    (hY : ∀ pre x W1, J pre W1 → pre.length < S2 * S3 * S1 → YieldAt Fence.wide (n - 1) Try.prog l #[P3.val x] W1 fun e W' =>
      (e = .returned (.bool true) ∧ J (pre ++ [x]) W' ∧ Kp Bb n₁ W1 W') ∨ (e = .returned (.bool false) ∧ Jx (pre ++ [x]) W'))
    (hS : Six W Bb a1 a2 a3 b1 b2 b3) (hJ : J [] W) :
    CallsIn Fence.wide n Try.prog 57 #[.func (.yield l) #[] #[], .pointer (some ⟨Bb, 0, none⟩)] W fun e W' => (∃ v, e = .returned v) ∧ (J (upto a1 a2 a3 S1 S3 (S2 * S3 * S1)) W' ∨ ∃ pre, pre <+: upto a1 a2 a3 S1 S3 (S2 * S3 * S1) ∧ Jx pre W') := by
  have HN : Hid (countN a1 a2 a3 b1 b2 b3 ≠ 0) := by
    have r1 : sideN a1 b1 = S1 := by unfold sideN; rw [if_pos (by omega)]; omega
    have r2 : sideN a2 b2 = S2 := by unfold sideN; rw [if_pos (by omega)]; omega
    have r3 : sideN a3 b3 = S3 := by unfold sideN; rw [if_pos (by omega)]; omega
    have r4 : 1 ≤ S1 * S2 * S3 := Nat.mul_le_mul (Nat.mul_le_mul p1 p2) p3
    have r5 : ((S1 : Int) * S2 * S3) = ((S1 * S2 * S3 : Nat) : Int) := by simp
    show countN a1 a2 a3 b1 b2 b3 ≠ 0
    unfold countN
    rw [r1, r2, r3, r5]
    omega
  obtain ⟨c, hc⟩ : ∃ c, countN a1 a2 a3 b1 b2 b3 = c := ⟨_, rfl⟩
  have hc0 : c ≠ 0 := hc ▸ HN.out
  have hcb : (c == 0) = false := by simp [hc0]
  refine callsIn_of_wp Try.func57 rfl trivial ?_ rfl
  simp only [Try.ntmps57, List.size_toArray, List.length_cons, List.length_nil, Nat.reduceAdd, Nat.reduceSub, Array.replicate_succ, Array.replicate_zero, List.push_toArray, List.append_toArray, List.nil_append, List.cons_append]
  obtain ⟨k0, k1, k2, k3, k4, k5⟩ := hS.cells
  gi_wp2
  refine wide_scope ?_
  gi_wp2_with (refine ⟨trivial, ?_⟩; gi_at_call 58; refine (callsIn_wide.2 (count_c _ _ _ _ _ _ _)).mono ?_; rintro e w1 ⟨rfl, hw1⟩)
  refine wpIn_label ?_
  have hS1 : Six w1 Bb a1 a2 a3 b1 b2 b3 := hS.on hw1 (Array.getElem?_eq_some_iff.1 hS).1
  have hJ1 : J [] w1 := hW [] W w1 none hJ (below_grow hw1) (fun r h => by cases h)
  obtain ⟨m0, m1, m2, m3, m4, m5⟩ := hS1.cells
  clear k0 k1 k2 k3 k4 k5
  gi_wp2
  gi_loopw [3] (fun y wr => ∃ L : Nat, y = .int .i64 (a2 + L) ∧ L < S2 ∧ Six wr Bb a1 a2 a3 b1 b2 b3 ∧ n₁ ≤ wr.heap.size ∧ J (upto a1 a2 a3 S1 S3 (L * S3 * S1)) wr) (fun y _ => (a2 + S2 - intOf y).toNat)
  case atStart => exact ⟨0, by simp, by omega, hS1, Nat.le_trans hn₁ hw1.size, by simpa [upto] using hJ1⟩
  case round =>
    clear m0 m1 m2 m3 m4 m5
    obtain ⟨L, rfl, hL, hS2, hz2, hJ2⟩ := hrel
    obtain ⟨r0, r1, r2, r3, r4, r5⟩ := hS2.cells
    gi_wp2
    gi_loopw [4] (fun z wr => ∃ M : Nat, z = .int .i64 (a3 + M) ∧ M ≤ S3 ∧ (M = S3 → L + 1 < S2) ∧ Six wr Bb a1 a2 a3 b1 b2 b3 ∧ n₁ ≤ wr.heap.size ∧ J (upto a1 a2 a3 S1 S3 ((L * S3 + M) * S1)) wr) (fun z _ => (a3 + S3 + 1 - intOf z).toNat)
    case atStart => exact ⟨0, by simp, by omega, fun h => by omega, hS2, hz2, by simpa using hJ2⟩
    case round =>
      clear r0 r1 r2 r3 r4 r5
      obtain ⟨M, rfl, hM, hM2, hS3, hz3, hJ3⟩ := hrel
      obtain ⟨t0, t1, t2, t3, t4, t5⟩ := hS3.cells
      by_cases hm : M = S3
      · have hm' : ¬ a3 + (M : Int) ≤ b3 := by omega
        gi_wp2
        refine ⟨⟨L + 1, by simp; omega, hM2 hm, hS3, hz3, ?_⟩, by simp [intOf]; omega⟩
        rw [hm] at hJ3
        rwa [show (L + 1) * S3 = L * S3 + S3 by rw [Nat.add_mul]; omega]
      · have hm' : a3 + (M : Int) ≤ b3 := by omega
        have hm3 : M < S3 := by omega
        gi_wp2
        gi_loopw [5] (fun x wr => ∃ I : Nat, x = .int .i64 (a1 + I) ∧ I ≤ S1 ∧ (I = S1 → ¬ (L + 1 = S2 ∧ M + 1 = S3)) ∧ Six wr Bb a1 a2 a3 b1 b2 b3 ∧ n₁ ≤ wr.heap.size ∧ J (upto a1 a2 a3 S1 S3 ((L * S3 + M) * S1 + I)) wr) (fun x _ => (a1 + S1 + 1 - intOf x).toNat)
        case atStart => exact ⟨0, by simp, by omega, fun h => by omega, hS3, hz3, by simpa using hJ3⟩
        case round =>
          clear t0 t1 t2 t3 t4 t5
          obtain ⟨I, rfl, hI, hI2, hS4, hz4, hJ4⟩ := hrel
          obtain ⟨v0, v1, v2, v3, v4, v5⟩ := hS4.cells
          by_cases hi : I = S1
          · have hi' : ¬ a1 + (I : Int) ≤ b1 := by omega
            gi_wp2
            refine ⟨⟨M + 1, by simp; omega, by omega, fun h => by have := hI2 hi; omega, hS4, hz4, ?_⟩, by simp [intOf]; omega⟩
            rw [hi] at hJ4
            rwa [show (L * S3 + (M + 1)) * S1 = (L * S3 + M) * S1 + S1 by rw [← Nat.add_assoc, Nat.add_mul]; omega]
          · have hi' : a1 + (I : Int) ≤ b1 := by omega
            have hi3 : I < S1 := by omega
            have hJ5 : J (upto a1 a2 a3 S1 S3 ((L * S3 + M) * S1 + I)) (wr.alloc (.cells #[.int .i64 (a1 + I), .int .i64 (a2 + L), .int .i64 (a3 + M)] 24)) := hW _ wr _ none hJ4 (World.grownBy_alloc wr _ none) (fun r h => by cases h)
            have hS5 : Six (wr.alloc (.cells #[.int .i64 (a1 + I), .int .i64 (a2 + L), .int .i64 (a3 + M)] 24)) Bb a1 a2 a3 b1 b2 b3 := (Below.heap_alloc wr _ Bb (Array.getElem?_eq_some_iff.1 hS4).1).trans hS4
            have hP5 := heap_alloc_new wr (.cells #[.int .i64 (a1 + I), .int .i64 (a2 + L), .int .i64 (a3 + M)] 24)
            obtain ⟨fn, tmps, assign, body, hy, hR⟩ := hY _ ⟨a1 + I, a2 + L, a3 + M⟩ _ hJ5 (by rw [upto_length]; exact idx_lt hi3 hm3 hL)
            dsimp only [P3.val] at hy
            gi_wp2
            refine hR.mono ?_
            clear v0 v1 v2 v3 v4 v5 hy
            rintro e W3 (⟨rfl, hJ6, hk⟩ | ⟨rfl, hx⟩)
            · have hS6 : Six W3 Bb a1 a2 a3 b1 b2 b3 := hk.1 _ _ hS5
              have hP6 := hk.2 _ _ _ hz4 hP5
              have hJ7 : J (upto a1 a2 a3 S1 S3 ((L * S3 + M) * S1 + I + 1)) W3 := by rw [upto_succ, cellAt_of _ _ _ _ _ _ _ _ hi3 hm3]; exact hJ6
              have hz6 : n₁ ≤ W3.heap.size := by have := (Array.getElem?_eq_some_iff.1 hP6).1; omega
              obtain ⟨y0, y1, y2, y3, y4, y5⟩ := hS6.cells
              have x0 : W3.cell? ⟨wr.heap.size, 0, none⟩ = some (.int .i64 (a1 + I)) := (cell_of_row W3 _ 0 _ 24 (0, 0) hP6).trans rfl
              have x1 : W3.cell? ⟨wr.heap.size, 1, none⟩ = some (.int .i64 (a2 + L)) := (cell_of_row W3 _ 1 _ 24 (0, 0) hP6).trans rfl
              have x2 : W3.cell? ⟨wr.heap.size, 2, none⟩ = some (.int .i64 (a3 + M)) := (cell_of_row W3 _ 2 _ 24 (0, 0) hP6).trans rfl
              by_cases g1 : a1 + (I : Int) = b1
              case neg =>
                gi_wp2
                exact ⟨⟨I + 1, by simp; omega, by omega, fun h => by omega, hS6, hz6, hJ7⟩, by simp [intOf]; omega⟩
              have g1a := Int.le_of_eq g1
              have g1b := Int.le_of_eq g1.symm
              clear g1
              by_cases g2 : a2 + (L : Int) = b2
              case neg =>
                gi_wp2
                exact ⟨⟨I + 1, by simp; omega, by omega, fun h => by omega, hS6, hz6, hJ7⟩, by simp [intOf]; omega⟩
              have g2a := Int.le_of_eq g2
              have g2b := Int.le_of_eq g2.symm
              clear g2
              by_cases g3 : a3 + (M : Int) = b3
              case neg =>
                gi_wp2
                exact ⟨⟨I + 1, by simp; omega, by omega, fun h => by omega, hS6, hz6, hJ7⟩, by simp [intOf]; omega⟩
              have hJ8 : J (upto a1 a2 a3 S1 S3 (S2 * S3 * S1)) W3 := by
                have z1 : I + 1 = S1 := by omega
                have z2 : L + 1 = S2 := by omega
                have z3 : M + 1 = S3 := by omega
                have z : (L * S3 + M) * S1 + I + 1 = S2 * S3 * S1 := by
                  rw [← z1, ← z2, ← z3]
                  exact idx_last L M I
                rwa [z] at hJ7
              gi_wp2
              rw [Exit.noGoto_normal]
              go_end0
              exact ⟨⟨_, rfl⟩, .inl hJ8⟩
            · have hpf : upto a1 a2 a3 S1 S3 ((L * S3 + M) * S1 + I) ++ [⟨a1 + I, a2 + L, a3 + M⟩] <+: upto a1 a2 a3 S1 S3 (S2 * S3 * S1) := by
                rw [← cellAt_of a1 a2 a3 S1 S3 I M L hi3 hm3, ← upto_succ]
                exact upto_prefix _ _ _ _ _ (idx_lt hi3 hm3 hL)
              gi_wp2
              rw [Exit.noGoto_normal]
              go_end0
              exact ⟨⟨_, rfl⟩, .inr ⟨_, hpf, hx⟩⟩
end Go.Proofs.Ytbcadklodjdokaa.G