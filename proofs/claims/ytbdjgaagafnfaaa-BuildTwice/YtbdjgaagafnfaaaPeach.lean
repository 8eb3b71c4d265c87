/-
  The landed grid's Each, for bodies that are handed cells of the box alone; the landed caves' cells.
-/
import Derived.Test.YtbdjgaagafnfaaaGn6
set_option maxRecDepth 20000
namespace Go.Proofs.Ytbdjgaagafnfaaa
open G Go.RowKit Go.Shelf

/-- A cell of a box. -/
structure Q3 (a1 a2 a3 b1 b2 b3 : Int) where
  x : Int
  y : Int
  z : Int
  hx : a1 ≤ x ∧ x ≤ b1
  hy : a2 ≤ y ∧ y ≤ b2
  hz : a3 ≤ z ∧ z ≤ b3
abbrev Q3.val {a1 a2 a3 b1 b2 b3 : Int} (p : Q3 a1 a2 a3 b1 b2 b3) : Value := .agg #[.int .i64 p.x, .int .i64 p.y, .int .i64 p.z]
def qs {a1 a2 a3 b1 b2 b3 : Int} (l : List (Q3 a1 a2 a3 b1 b2 b3)) : List P3 := l.map fun p => ⟨p.x, p.y, p.z⟩
theorem qs_len {a1 a2 a3 b1 b2 b3 : Int} (l : List (Q3 a1 a2 a3 b1 b2 b3)) : (qs l).length = l.length := by simp [qs]
theorem qs_snoc {a1 a2 a3 b1 b2 b3 : Int} (l : List (Q3 a1 a2 a3 b1 b2 b3)) (p : Q3 a1 a2 a3 b1 b2 b3) : qs (l ++ [p]) = qs l ++ [⟨p.x, p.y, p.z⟩] := by simp [qs]
/-- The first k cells have come. -/
def JQ {a1 a2 a3 b1 b2 b3 : Int} (J : List (Q3 a1 a2 a3 b1 b2 b3) → World → Prop) (S1 S3 k : Nat) (W : World) : Prop := ∃ pre, qs pre = upto a1 a2 a3 S1 S3 k ∧ J pre W
section
attribute [local go_sem] Oper.semAt_some
set_option maxRecDepth 100000 in
set_option maxHeartbeats 2000000 in
theorem each1_q (n : Nat) (hn : 1 ≤ n) (l Bb n₁ : Nat) (a1 a2 a3 b1 b2 b3 : Int) (S1 S2 S3 : Nat) (p1 : 1 ≤ S1) (p2 : 1 ≤ S2) (p3 : 1 ≤ S3) (e1 : a1 + (S1 : Int) = b1 + 1) (e2 : a2 + (S2 : Int) = b2 + 1) (e3 : a3 + (S3 : Int) = b3 + 1)
    (q1 : -1099511627776 ≤ a1 ∧ b1 ≤ 1099511627776) (q2 : -1099511627776 ≤ a2 ∧ b2 ≤ 1099511627776) (q3 : -1099511627776 ≤ a3 ∧ b3 ≤ 1099511627776)
    (J Jx : List (Q3 a1 a2 a3 b1 b2 b3) → World → Prop) (W : World) (hn₁ : n₁ ≤ W.heap.size) (hW : AbidesFrom W.heap.size J) (_hWx : AbidesFrom W.heap.size Jx)
    (hY : ∀ pre x W1, J pre W1 → pre.length < S2 * S3 * S1 → YieldAt Fence.wide (n - 1) Try.prog l #[x.val] W1 fun e W' =>
      (e = .returned (.bool true) ∧ J (pre ++ [x]) W' ∧ Kp Bb n₁ W1 W') ∨ (e = .returned (.bool false) ∧ Jx (pre ++ [x]) W'))
    (hS : Six W Bb a1 a2 a3 b1 b2 b3) (hJ : J [] W) :
    CallsIn Fence.wide n Try.prog 62 #[.func (.yield l) #[] #[], .pointer (some ⟨Bb, 0, none⟩)] W fun e W' => (∃ v, e = .returned v) ∧ (JQ J S1 S3 (S2 * S3 * S1) W' ∨ ∃ pre, qs pre <+: upto a1 a2 a3 S1 S3 (S2 * S3 * S1) ∧ Jx pre W') := by
  have HN : Hid (countN a1 a2 a3 b1 b2 b3 ≠ 0) := by
    have r1 : sideN a1 b1 = S1 := by unfold sideN; rw [if_pos (by omega)]; omega
    have r2 : sideN a2 b2 = S2 := by unfold sideN; rw [if_pos (by omega)]; omega
    have r3 : sideN a3 b3 = S3 := by unfold sideN; rw [if_pos (by omega)]; omega
    have r4 : 1 ≤ S1 * S2 * S3 := Nat.mul_le_mul (Nat.mul_le_mul p1 p2) p3
    have r5 : ((S1 : Int) * S2 * S3) = ((S1 * S2 * S3 : Nat) : Int) := by simp
    show countN a1 a2 a3 b1 b2 b3 ≠ 0
    unfold countN
    rw [r1, r2, r3, r5]
    omega
  obtain ⟨c, hc⟩ : ∃ c, countN a1 a2 a3 b1 b2 b3 = c := ⟨_, rfl⟩
  have hc0 : c ≠ 0 := hc ▸ HN.out
  have hcb : (c == 0) = false := by simp [hc0]
  refine callsIn_of_wp Try.func62 rfl trivial ?_ rfl
  simp only [Try.ntmps62, List.size_toArray, List.length_cons, List.length_nil, Nat.reduceAdd, Nat.reduceSub, Array.replicate_succ, Array.replicate_zero, List.push_toArray, List.append_toArray, List.nil_append, List.cons_append]
  obtain ⟨k0, k1, k2, k3, k4, k5⟩ := hS.cells
  gi_wp2
  refine wide_scope ?_
  gi_wp2_with (refine ⟨trivial, ?_⟩; gi_at_call 63; refine (callsIn_wide.2 (count_c _ _ _ _ _ _ _)).mono ?_; rintro e w1 ⟨rfl, hw1⟩)
  refine wpIn_label ?_
  have hS1 : Six w1 Bb a1 a2 a3 b1 b2 b3 := hS.on hw1 (Array.getElem?_eq_some_iff.1 hS).1
  have hJ1 : JQ J S1 S3 0 w1 := ⟨[], rfl, hW [] W w1 none hJ (below_grow hw1) (fun r h => by cases h)⟩
  obtain ⟨m0, m1, m2, m3, m4, m5⟩ := hS1.cells
  clear k0 k1 k2 k3 k4 k5
  gi_wp2
  gi_loopw [3] (fun y wr => ∃ L : Nat, y = .int .i64 (a2 + L) ∧ L < S2 ∧ Six wr Bb a1 a2 a3 b1 b2 b3 ∧ n₁ ≤ wr.heap.size ∧ JQ J S1 S3 (L * S3 * S1) wr) (fun y _ => (a2 + S2 - intOf y).toNat)
  case atStart => exact ⟨0, by simp, by omega, hS1, Nat.le_trans hn₁ hw1.size, by rw [Nat.zero_mul, Nat.zero_mul]; exact hJ1⟩
  case round =>
    clear m0 m1 m2 m3 m4 m5
    obtain ⟨L, rfl, hL, hS2, hz2, hJ2⟩ := hrel
    obtain ⟨r0, r1, r2, r3, r4, r5⟩ := hS2.cells
    gi_wp2
    gi_loopw [4] (fun z wr => ∃ M : Nat, z = .int .i64 (a3 + M) ∧ M ≤ S3 ∧ (M = S3 → L + 1 < S2) ∧ Six wr Bb a1 a2 a3 b1 b2 b3 ∧ n₁ ≤ wr.heap.size ∧ JQ J S1 S3 ((L * S3 + M) * S1) wr) (fun z _ => (a3 + S3 + 1 - intOf z).toNat)
    case atStart => exact ⟨0, by simp, by omega, fun h => by omega, hS2, hz2, by rw [Nat.add_zero]; exact hJ2⟩
    case round =>
      clear r0 r1 r2 r3 r4 r5
      obtain ⟨M, rfl, hM, hM2, hS3, hz3, hJ3⟩ := hrel
      obtain ⟨t0, t1, t2, t3, t4, t5⟩ := hS3.cells
      by_cases hm : M = S3
      · have hm' : ¬ a3 + (M : Int) ≤ b3 := by omega
        gi_wp2
        refine ⟨⟨L + 1, by simp; omega, hM2 hm, hS3, hz3, ?_⟩, by simp [intOf]; omega⟩
        rw [hm] at hJ3
        rwa [show (L + 1) * S3 = L * S3 + S3 by rw [Nat.add_mul]; omega]
      · have hm' : a3 + (M : Int) ≤ b3 := by omega
        have hm3 : M < S3 := by omega
        gi_wp2
        gi_loopw [5] (fun x wr => ∃ I : Nat, x = .int .i64 (a1 + I) ∧ I ≤ S1 ∧ (I = S1 → ¬ (L + 1 = S2 ∧ M + 1 = S3)) ∧ Six wr Bb a1 a2 a3 b1 b2 b3 ∧ n₁ ≤ wr.heap.size ∧ JQ J S1 S3 ((L * S3 + M) * S1 + I) wr) (fun x _ => (a1 + S1 + 1 - intOf x).toNat)
        case atStart => exact ⟨0, by simp, by omega, fun h => by omega, hS3, hz3, by rw [Nat.add_zero]; exact hJ3⟩
        case round =>
          clear t0 t1 t2 t3 t4 t5
          obtain ⟨I, rfl, hI, hI2, hS4, hz4, hJ4⟩ := hrel
          obtain ⟨v0, v1, v2, v3, v4, v5⟩ := hS4.cells
          by_cases hi : I = S1
          · have hi' : ¬ a1 + (I : Int) ≤ b1 := by omega
            gi_wp2
            refine ⟨⟨M + 1, by simp; omega, by omega, fun h => by have := hI2 hi; omega, hS4, hz4, ?_⟩, by simp [intOf]; omega⟩
            rw [hi] at hJ4
            rwa [show (L * S3 + (M + 1)) * S1 = (L * S3 + M) * S1 + S1 by rw [← Nat.add_assoc, Nat.add_mul]; omega]
          · have hi' : a1 + (I : Int) ≤ b1 := by omega
            have hi3 : I < S1 := by omega
            obtain ⟨pre, hp, hj⟩ := hJ4
            have Hp : Hid (qs pre = upto a1 a2 a3 S1 S3 ((L * S3 + M) * S1 + I)) := hp
            have hlen : pre.length < S2 * S3 * S1 := by rw [← qs_len, hp, upto_length]; exact idx_lt hi3 hm3 hL
            clear hp
            have hJ5 : J pre (wr.alloc (.cells #[.int .i64 (a1 + I), .int .i64 (a2 + L), .int .i64 (a3 + M)] 52)) := hW _ wr _ none hj (World.grownBy_alloc wr _ none) (fun r h => by cases h)
            have hS5 : Six (wr.alloc (.cells #[.int .i64 (a1 + I), .int .i64 (a2 + L), .int .i64 (a3 + M)] 52)) Bb a1 a2 a3 b1 b2 b3 := (Below.heap_alloc wr _ Bb (Array.getElem?_eq_some_iff.1 hS4).1).trans hS4
            have hP5 := heap_alloc_new wr (.cells #[.int .i64 (a1 + I), .int .i64 (a2 + L), .int .i64 (a3 + M)] 52)
            obtain ⟨fn, tmps, assign, body, hy, hR⟩ := hY pre ⟨a1 + I, a2 + L, a3 + M, by omega, by omega, by omega⟩ _ hJ5 hlen
            dsimp only [Q3.val] at hy
            gi_wp2
            refine hR.mono ?_
            clear v0 v1 v2 v3 v4 v5 hy
            rintro e W3 (⟨rfl, hJ6, hk⟩ | ⟨rfl, hx⟩)
            · have hS6 : Six W3 Bb a1 a2 a3 b1 b2 b3 := hk.1 _ _ hS5
              have hP6 := hk.2 _ _ _ hz4 hP5
              have hJ7 : JQ J S1 S3 ((L * S3 + M) * S1 + I + 1) W3 := ⟨_, by rw [qs_snoc, Hp.out, upto_succ, cellAt_of _ _ _ _ _ _ _ _ hi3 hm3], hJ6⟩
              have hz6 : n₁ ≤ W3.heap.size := by have := (Array.getElem?_eq_some_iff.1 hP6).1; omega
              obtain ⟨y0, y1, y2, y3, y4, y5⟩ := hS6.cells
              have x0 : W3.cell? ⟨wr.heap.size, 0, none⟩ = some (.int .i64 (a1 + I)) := (cell_of_row W3 _ 0 _ 52 (0, 0) hP6).trans rfl
              have x1 : W3.cell? ⟨wr.heap.size, 1, none⟩ = some (.int .i64 (a2 + L)) := (cell_of_row W3 _ 1 _ 52 (0, 0) hP6).trans rfl
              have x2 : W3.cell? ⟨wr.heap.size, 2, none⟩ = some (.int .i64 (a3 + M)) := (cell_of_row W3 _ 2 _ 52 (0, 0) hP6).trans rfl
              by_cases g1 : a1 + (I : Int) = b1
              case neg =>
                gi_wp2
                exact ⟨⟨I + 1, by simp; omega, by omega, fun h => by omega, hS6, hz6, hJ7⟩, by simp [intOf]; omega⟩
              have g1a := Int.le_of_eq g1
              have g1b := Int.le_of_eq g1.symm
              clear g1
              by_cases g2 : a2 + (L : Int) = b2
              case neg =>
                gi_wp2
                exact ⟨⟨I + 1, by simp; omega, by omega, fun h => by omega, hS6, hz6, hJ7⟩, by simp [intOf]; omega⟩
              have g2a := Int.le_of_eq g2
              have g2b := Int.le_of_eq g2.symm
              clear g2
              by_cases g3 : a3 + (M : Int) = b3
              case neg =>
                gi_wp2
                exact ⟨⟨I + 1, by simp; omega, by omega, fun h => by omega, hS6, hz6, hJ7⟩, by simp [intOf]; omega⟩
              have hJ8 : JQ J S1 S3 (S2 * S3 * S1) W3 := by
                have z1 : I + 1 = S1 := by omega
                have z2 : L + 1 = S2 := by omega
                have z3 : M + 1 = S3 := by omega
                have z : (L * S3 + M) * S1 + I + 1 = S2 * S3 * S1 := by
                  rw [← z1, ← z2, ← z3]
                  exact idx_last L M I
                rwa [z] at hJ7
              gi_wp2
              rw [Exit.noGoto_normal]
              go_end0
              exact ⟨⟨_, rfl⟩, .inl hJ8⟩
            · have hpf : ∃ pre, qs pre <+: upto a1 a2 a3 S1 S3 (S2 * S3 * S1) ∧ Jx pre W3 := ⟨_, by
                rw [qs_snoc, Hp.out, ← cellAt_of a1 a2 a3 S1 S3 I M L hi3 hm3, ← upto_succ]
                exact upto_prefix _ _ _ _ _ (idx_lt hi3 hm3 hL), hx⟩
              gi_wp2
              rw [Exit.noGoto_normal]
              go_end0
              exact ⟨⟨_, rfl⟩, .inr hpf⟩
end
theorem each_q (n : Nat) (hn : 1 ≤ n) (Bb n₁ : Nat) (a1 a2 a3 b1 b2 b3 : Int) (S1 S2 S3 : Nat) (p1 : 1 ≤ S1) (p2 : 1 ≤ S2) (p3 : 1 ≤ S3) (e1 : a1 + (S1 : Int) = b1 + 1) (e2 : a2 + (S2 : Int) = b2 + 1) (e3 : a3 + (S3 : Int) = b3 + 1)
    (q1 : -1099511627776 ≤ a1 ∧ b1 ≤ 1099511627776) (q2 : -1099511627776 ≤ a2 ∧ b2 ≤ 1099511627776) (q3 : -1099511627776 ≤ a3 ∧ b3 ≤ 1099511627776) (w : World) (hB : Bb < w.heap.size) (hn₁ : n₁ ≤ w.heap.size) (hS : Six w Bb a1 a2 a3 b1 b2 b3) :
    SeqStopsK Fence.wide n Try.prog 62 #[.pointer (some ⟨Bb, 0, none⟩)] (fun x : Q3 a1 a2 a3 b1 b2 b3 => #[x.val]) (Kp Bb n₁) (fun xs => qs xs = upto a1 a2 a3 S1 S3 (S2 * S3 * S1)) (fun pre => qs pre <+: upto a1 a2 a3 S1 S3 (S2 * S3 * S1)) (S2 * S3 * S1) w := fun l J Jx W hW hJ hJx hY h0 =>
  (each1_q n hn l Bb n₁ a1 a2 a3 b1 b2 b3 S1 S2 S3 p1 p2 p3 e1 e2 e3 q1 q2 q3 J Jx W (Nat.le_trans hn₁ hW.size) hJ hJx hY (hS.on hW hB) h0).mono fun _ _ h => h
theorem mem_upto {a1 a2 a3 : Int} {S1 S2 S3 : Nat} {p : P3} : p ∈ upto a1 a2 a3 S1 S3 (S2 * S3 * S1) ↔ (a1 ≤ p.x ∧ p.x < a1 + S1) ∧ (a2 ≤ p.y ∧ p.y < a2 + S2) ∧ (a3 ≤ p.z ∧ p.z < a3 + S3) := by
  unfold upto
  rw [List.mem_map]
  constructor
  · rintro ⟨k, hk, rfl⟩
    rw [List.mem_range] at hk
    have h1 : 0 < S1 := Nat.pos_of_ne_zero fun e => by rw [e, Nat.mul_zero] at hk; omega
    have h3 : 0 < S3 := Nat.pos_of_ne_zero fun e => by rw [e, Nat.mul_zero, Nat.zero_mul] at hk; omega
    have r1 : k % S1 < S1 := Nat.mod_lt _ h1
    have r3 : k / S1 % S3 < S3 := Nat.mod_lt _ h3
    have r2 : k / S1 / S3 < S2 := Nat.div_lt_of_lt_mul (by rw [Nat.mul_comm]; exact Nat.div_lt_of_lt_mul (by rw [Nat.mul_comm]; exact hk))
    simp only [cellAt]
    generalize k % S1 = A at *
    generalize k / S1 % S3 = C at *
    generalize k / S1 / S3 = D at *
    omega
  · rintro ⟨⟨x0, x1⟩, ⟨y0, y1⟩, z0, z1⟩
    obtain ⟨I, hI⟩ : ∃ I : Nat, p.x = a1 + (I : Int) := ⟨(p.x - a1).toNat, by omega⟩
    obtain ⟨L, hL⟩ : ∃ L : Nat, p.y = a2 + (L : Int) := ⟨(p.y - a2).toNat, by omega⟩
    obtain ⟨M, hM⟩ : ∃ M : Nat, p.z = a3 + (M : Int) := ⟨(p.z - a3).toNat, by omega⟩
    refine ⟨(L * S3 + M) * S1 + I, List.mem_range.2 (idx_lt (by omega) (by omega) (by omega)), ?_⟩
    rw [cellAt_of a1 a2 a3 S1 S3 I M L (by omega) (by omega), ← hI, ← hL, ← hM]
end Go.Proofs.Ytbdjgaagafnfaaa