/-
  Near: the chunks about a chunk, as a new slice; whatever lay is as it lay.
-/
import Derived.Test.YtokjbjfpgjincaaGn5
import Derived.Maps.AppendAt
import Derived.RangeFuncBox
import Derived.Laws.MakeOwn
namespace Go.Proofs.Ytokjbjfpgjincaa.G
open Go.RowKit Go.Shelf

attribute [local go_sem] Oper.semAt_some

/-- How many cells a box has, and which, one after the other. -/
def boxN (a1 a2 a3 b1 b2 b3 : Int) : Nat := (sideN a2 b2).toNat * (sideN a3 b3).toNat * (sideN a1 b1).toNat
def boxL (a1 a2 a3 b1 b2 b3 : Int) : List P3 := upto a1 a2 a3 (sideN a1 b1).toNat (sideN a3 b3).toNat (boxN a1 a2 a3 b1 b2 b3)
theorem boxL_length (a1 a2 a3 b1 b2 b3 : Int) : (boxL a1 a2 a3 b1 b2 b3).length = boxN a1 a2 a3 b1 b2 b3 := upto_length _ _ _ _ _ _

theorem sideN_cases (a b : Int) : (sideN a b = 0) ∨ (∃ S : Nat, 1 ≤ S ∧ sideN a b = S ∧ a + (S : Int) = b + 1 ∧ -1099511627776 ≤ a ∧ b ≤ 1099511627776) := by
  unfold sideN
  by_cases h : a ≤ b ∧ -1099511627776 ≤ a ∧ b ≤ 1099511627776
  · rw [if_pos h]
    exact .inr ⟨(b - a + 1).toNat, by omega, by omega, by omega, h.2⟩
  · rw [if_neg h]
    exact .inl rfl
theorem boxN_zero (a1 a2 a3 b1 b2 b3 : Int) (h : sideN a1 b1 = 0 ∨ sideN a2 b2 = 0 ∨ sideN a3 b3 = 0) : boxN a1 a2 a3 b1 b2 b3 = 0 ∧ countN a1 a2 a3 b1 b2 b3 = 0 := by
  unfold boxN countN
  rcases h with h | h | h <;> rw [h] <;> simp [Int.min_def]

theorem Six.alloc {w : World} {B : Nat} {a1 a2 a3 b1 b2 b3 : Int} (h : Six w B a1 a2 a3 b1 b2 b3) (o : Obj) : Six (w.alloc o) B a1 a2 a3 b1 b2 b3 := (Below.heap_alloc w o B (Array.getElem?_eq_some_iff.1 h).1).trans h

set_option maxHeartbeats 1000000 in
theorem each_c (a1 a2 a3 b1 b2 b3 : Int) (w : World) : Calls Try.prog 32 #[.agg #[.int .i64 a1, .int .i64 a2, .int .i64 a3, .int .i64 b1, .int .i64 b2, .int .i64 b3]] w fun e w' => e = .returned (.func (.func 34) #[] #[.pointer (some ⟨w.heap.size, 0, none⟩)]) ∧ w' = w.alloc (.cells #[.int .i64 a1, .int .i64 a2, .int .i64 a3, .int .i64 b1, .int .i64 b2, .int .i64 b3] 57) := by
  have hmf : ∀ w, Sem.run Try.prog (Instr.makeFunc (.func 34) #[] #[.pointer (some ⟨w.heap.size, 0, none⟩)]) w = .ok (.func (.func 34) #[] #[.pointer (some ⟨w.heap.size, 0, none⟩)]) w := fun w => by rfl
  go_enter Try.func32, Try.ntmps32
  go_wp2
  go_ret
  exact ⟨rfl, rfl⟩

/-- A range over the cells of a box, for every body that leaves the box alone. -/
theorem each_stops (n : Nat) (hn : 1 ≤ n) (Bb n₁ : Nat) (a1 a2 a3 b1 b2 b3 : Int) (w : World) (hB : Bb < w.heap.size) (hn₁ : n₁ ≤ w.heap.size) (hS : Six w Bb a1 a2 a3 b1 b2 b3) :
    SeqStopsK Fence.wide n Try.prog 34 #[.pointer (some ⟨Bb, 0, none⟩)] (fun x : P3 => #[P3.val x]) (Kp Bb n₁) (fun xs => xs = boxL a1 a2 a3 b1 b2 b3) (fun pre => pre <+: boxL a1 a2 a3 b1 b2 b3) (boxN a1 a2 a3 b1 b2 b3) w := fun l J Jx W hW hJ hJx hY h0 => by
  have hSW : Six W Bb a1 a2 a3 b1 b2 b3 := hS.on hW hB
  have none : (sideN a1 b1 = 0 ∨ sideN a2 b2 = 0 ∨ sideN a3 b3 = 0) → CallsIn Fence.wide n Try.prog 34 #[.func (.yield l) #[] #[], .pointer (some ⟨Bb, 0, none⟩)] W fun e W' => (∃ v, e = .returned v) ∧ ((∃ xs, xs = boxL a1 a2 a3 b1 b2 b3 ∧ J xs W') ∨ (∃ pre, pre <+: boxL a1 a2 a3 b1 b2 b3 ∧ Jx pre W')) := fun h => by
    obtain ⟨e0, e1⟩ := boxN_zero a1 a2 a3 b1 b2 b3 h
    refine (each1_none n hn l Bb a1 a2 a3 b1 b2 b3 e1 J W hJ hSW h0).mono ?_
    rintro e W' ⟨hv, hj⟩
    exact ⟨hv, .inl ⟨[], by unfold boxL; rw [e0, upto_zero], hj⟩⟩
  rcases sideN_cases a1 b1 with h1 | ⟨S1, p1, r1, e1, q1⟩
  · exact none (.inl h1)
  rcases sideN_cases a2 b2 with h2 | ⟨S2, p2, r2, e2, q2⟩
  · exact none (.inr (.inl h2))
  rcases sideN_cases a3 b3 with h3 | ⟨S3, p3, r3, e3, q3⟩
  · exact none (.inr (.inr h3))
  have eN : boxN a1 a2 a3 b1 b2 b3 = S2 * S3 * S1 := by unfold boxN; rw [r1, r2, r3]; simp
  have eL : boxL a1 a2 a3 b1 b2 b3 = upto a1 a2 a3 S1 S3 (S2 * S3 * S1) := by unfold boxL; rw [eN, r1, r3]; simp
  rw [eN] at hY
  refine (each1_some n hn l Bb n₁ a1 a2 a3 b1 b2 b3 S1 S2 S3 p1 p2 p3 e1 e2 e3 q1 q2 q3 J Jx W (Nat.le_trans hn₁ hW.size) hJ hJx hY hSW h0).mono ?_
  rintro e W' ⟨hv, hj | ⟨pre, hp, hx⟩⟩
  · exact ⟨hv, .inl ⟨_, eL.symm, hj⟩⟩
  · exact ⟨hv, .inr ⟨pre, by rw [eL]; exact hp, hx⟩⟩

theorem info31 : (Try.prog.info? 31).map (fun i => (i.zero, i.size, i.bytes)) = some (some (.agg #[.int .i64 0, .int .i64 0]), 2, 16) := by kernel_rfl

/-- The chunks at these steps from a chunk, as the cells of a row. -/
def flatN (cx cz : Int) (l : List P3) : List Value := l.flatMap fun p => [.int .i64 (wrap64 (cx + p.x)), .int .i64 (wrap64 (cz + p.z))]
theorem flatN_snoc (cx cz : Int) (l : List P3) (p : P3) : flatN cx cz (l ++ [p]) = flatN cx cz l ++ [.int .i64 (wrap64 (cx + p.x)), .int .i64 (wrap64 (cz + p.z))] := by simp [flatN]
theorem flatN_length (cx cz : Int) (l : List P3) : (flatN cx cz l).length = l.length * 2 := by
  induction l with
  | nil => rfl
  | cons p l ih =>
    have : flatN cx cz (p :: l) = [.int .i64 (wrap64 (cx + p.x)), .int .i64 (wrap64 (cz + p.z))] ++ flatN cx cz l := by simp [flatN]
    rw [this, List.length_append, ih]
    simp
    omega
def nearN (r : Int) : Nat := boxN (-r) 0 (-r) r 0 r
def nearL (r : Int) : List P3 := boxL (-r) 0 (-r) r 0 r
theorem near_count (r : Int) (h0 : 0 ≤ r) (h8 : r ≤ 8) : countN (-r) 0 (-r) r 0 r = (nearN r : Int) ∧ nearN r = (2 * r + 1).toNat * (2 * r + 1).toNat ∧ nearN r ≤ 289 := by
  have e : sideN (-r) r = (((2 * r + 1).toNat : Nat) : Int) := by unfold sideN; rw [if_pos (by omega)]; omega
  have e0 : sideN 0 0 = 1 := by decide
  have n : nearN r = (2 * r + 1).toNat * (2 * r + 1).toNat := by unfold nearN boxN; rw [e, e0, Int.toNat_natCast]; simp
  have b : (2 * r + 1).toNat * (2 * r + 1).toNat ≤ 17 * 17 := Nat.mul_le_mul (by omega) (by omega)
  refine ⟨?_, n, by omega⟩
  rw [n]
  unfold countN
  rw [e, e0, Int.mul_one, ← Int.natCast_mul]
  omega

theorem ownsRow_apart {W : World} {b k : Nat} {v : Value} {xs : List Value} (h : W.ownsRow b 31 2 v k xs) : ∀ g, v.ownBlock = some g → (∀ cs fr, W.heap[g]? ≠ some (.cells cs 57 fr)) ∧ ∀ cs fr, W.heap[g]? ≠ some (.cells cs 55 fr) := by
  intro g hg
  rcases h.2 with ⟨rfl, _⟩ | ⟨g', cap, cur, rfl, _, hb, _⟩
  · simp [Value.ownBlock] at hg
  · obtain rfl : g' = g := by simpa [Value.ownBlock] using hg
    rw [hb]
    exact ⟨fun cs fr e => by simp at e, fun cs fr e => by simp at e⟩
theorem ownsRow_base {W : World} {b b' e size k : Nat} {v : Value} {xs : List Value} (h : W.ownsRow b e size v k xs) (hb : b' ≤ b) : W.ownsRow b' e size v k xs := by
  refine ⟨h.1, ?_⟩
  rcases h.2 with h0 | ⟨g, cap, cur, hv, hg, rest⟩
  · exact .inl h0
  · exact .inr ⟨g, cap, cur, hv, Nat.le_trans hb hg, rest⟩
theorem cell_two_new (W : World) (T : TypeId) (u v : Value) : ∀ (j : Nat) (x : Value), [u, v][j]? = some x → (W.alloc (.cells #[u, v] T)).cell? (Addr.add ⟨W.heap.size, 0, none⟩ j) = some x := by
  intro j x h
  have e := cell_of_row (W.alloc (.cells #[u, v] T)) W.heap.size j _ T (0, 0) (heap_alloc_new W _)
  match j with
  | 0 => simpa [Addr.add] using e.trans h
  | 1 => simpa [Addr.add] using e.trans h
  | j + 2 => simp at h

set_option maxHeartbeats 400000 in
theorem near_none (cx cz r : Int) (h : r < 0 ∨ 8 < r) (w : World) : Calls Try.prog 30 #[.agg #[.int .i64 cx, .int .i64 cz], .int .i64 r] w fun e w' => e = .returned (.slice none 0 0) ∧ Below w.heap.size w w' := by
  have HB : Hid (Below w.heap.size w (w.alloc (.cells #[.int .i64 cx, .int .i64 cz] 31))) := (Below.refl _ _).alloc (Nat.le_refl _) _
  refine (callsIn_wide (n := 6)).1 ?_
  refine callsIn_of_wp_marks Try.func30 rfl trivial ?_ rfl
  simp only [Try.ntmps30, List.size_toArray, List.length_cons, List.length_nil, Nat.reduceAdd, Nat.reduceSub, Array.replicate_succ, Array.replicate_zero, List.push_toArray, List.append_toArray, List.nil_append, List.cons_append]
  by_cases c0 : 0 ≤ r
  case neg =>
    gi_wp2
    exact ⟨_, results_tmp rfl _ _ _, rfl, HB.out⟩
  have c1 : 8 < r := by omega
  gi_wp2
  exact ⟨_, results_tmp rfl _ _ _, rfl, HB.out⟩

set_option maxRecDepth 100000 in
set_option maxHeartbeats 2000000 in
theorem near_c (cx cz r : Int) (h0 : 0 ≤ r) (h8 : r ≤ 8) (w : World) : Calls Try.prog 30 #[.agg #[.int .i64 cx, .int .i64 cz], .int .i64 r] w fun e w' =>
    ∃ v, e = .returned v ∧ w'.ownsRow w.heap.size 31 2 v (nearN r) (flatN cx cz (nearL r)) ∧ Below w.heap.size w w' := by
  obtain ⟨hcnt, _, hb⟩ := near_count r h0 h8
  obtain ⟨i0, hi, hz0, hz1, hz2⟩ := info_parts info31
  generalize hC0 : nearN r = C at hcnt hb
  have hC : Hid (nearN r = C) := hC0
  clear hC0
  have hmk : ∀ w, (Instr.makeSlice 46 (.int .i64 0) (.int .i64 (C : Int))).run Try.prog w = .ok (.slice (some ⟨w.heap.size, 0, none⟩) 0 C) (w.alloc (.cells (madeCells #[.int .i64 0, .int .i64 0] (C * 2)) 31)) := fun w => by
    have := run_makeSlice (P := Try.prog) w 46 31 i0 _ Try.underlying46 hi hz0 .i64 .i64 0 C (by omega) (by omega) (by rw [hz1]; omega) (by rw [hz2]; omega) (by omega)
    rw [hz1] at this
    simpa [Value.cells] using this
  refine (callsIn_wide (n := 6)).1 ?_
  refine callsIn_of_wp_marks Try.func30 rfl trivial ?_ rfl
  simp only [Try.ntmps30, List.size_toArray, List.length_cons, List.length_nil, Nat.reduceAdd, Nat.reduceSub, Array.replicate_succ, Array.replicate_zero, List.push_toArray, List.append_toArray, List.nil_append, List.cons_append]
  gi_wp2_with (fail)
  refine ⟨trivial, ?_⟩
  refine (callsIn_wide.2 (count_c _ _ _ _ _ _ _)).mono ?_
  rintro e w1 ⟨rfl, hw1⟩
  have hS1 : Six w1 (w.heap.size + 1) (-r) 0 (-r) r 0 r := (hw1.block (w.heap.size + 1) (by simp)).trans (new_two w _ _)
  have hX1 : w1.heap[w.heap.size]? = some (.cells #[.int .i64 cx, .int .i64 cz] 31 (0, 0)) := (hw1.block w.heap.size (by simp; omega)).trans ((Below.heap_alloc _ _ _ (by simp)).trans (heap_alloc_new w _))
  have hz1' : w.heap.size + 1 < w1.heap.size := (Array.getElem?_eq_some_iff.1 hS1).1
  obtain ⟨k0, k1, k2, k3, k4, k5⟩ := (Six.alloc (Six.alloc hS1 (.cells (madeCells #[.int .i64 0, .int .i64 0] (C * 2)) 31)) (.cells #[.slice (some ⟨w1.heap.size, 0, none⟩) 0 C] 46)).cells
  gi_wp2_with (fail)
  refine ⟨trivial, ?_⟩
  refine (callsIn_wide.2 (each_c _ _ _ _ _ _ _)).mono ?_
  rintro e w2 ⟨rfl, rfl⟩
  clear k0 k1 k2 k3 k4 k5
  gi_wp2_with (fail)
  have hS3 : Six (((w1.alloc (.cells (madeCells #[.int .i64 0, .int .i64 0] (C * 2)) 31)).alloc (.cells #[.slice (some ⟨w1.heap.size, 0, none⟩) 0 C] 46)).alloc (.cells #[.int .i64 (-r), .int .i64 0, .int .i64 (-r), .int .i64 r, .int .i64 0, .int .i64 r] 57)) (w1.heap.size + 1 + 1) (-r) 0 (-r) r 0 r := by
    have := Six.new ((w1.alloc (.cells (madeCells #[.int .i64 0, .int .i64 0] (C * 2)) 31)).alloc (.cells #[.slice (some ⟨w1.heap.size, 0, none⟩) 0 C] 46)) (-r) 0 (-r) r 0 r
    simpa only [World.size_alloc] using this
  have bN := (Boxed.new (w1.alloc (.cells (madeCells #[.int .i64 0, .int .i64 0] (C * 2)) 31)) 46 (.slice (some ⟨w1.heap.size, 0, none⟩) 0 C)).alloc (.cells #[.int .i64 (-r), .int .i64 0, .int .i64 (-r), .int .i64 r, .int .i64 0, .int .i64 r] 57)
  simp only [World.size_alloc] at bN
  have hO3 : (((w1.alloc (.cells (madeCells #[.int .i64 0, .int .i64 0] (C * 2)) 31)).alloc (.cells #[.slice (some ⟨w1.heap.size, 0, none⟩) 0 C] 46)).alloc (.cells #[.int .i64 (-r), .int .i64 0, .int .i64 (-r), .int .i64 r, .int .i64 0, .int .i64 r] 57)).ownsRow w1.heap.size 31 2 (.slice (some ⟨w1.heap.size, 0, none⟩) 0 C) 0 [] :=
    (World.ownsRow.alloc (World.ownsRow.alloc (World.ownsRow_made w1 (madeCells #[.int .i64 0, .int .i64 0] (C * 2)) C (Nat.le_refl _) (by simp [maxLen]; omega) (size_madeCells _ _)) _) _)
  have hB3 : Below w1.heap.size w1 (((w1.alloc (.cells (madeCells #[.int .i64 0, .int .i64 0] (C * 2)) 31)).alloc (.cells #[.slice (some ⟨w1.heap.size, 0, none⟩) 0 C] 46)).alloc (.cells #[.int .i64 (-r), .int .i64 0, .int .i64 (-r), .int .i64 r, .int .i64 0, .int .i64 r] 57)) := (((Below.refl _ w1).alloc (Nat.le_refl _) _).alloc (by simp) _).alloc (by simp; omega) _
  have hsz : (((w1.alloc (.cells (madeCells #[.int .i64 0, .int .i64 0] (C * 2)) 31)).alloc (.cells #[.slice (some ⟨w1.heap.size, 0, none⟩) 0 C] 46)).alloc (.cells #[.int .i64 (-r), .int .i64 0, .int .i64 (-r), .int .i64 r, .int .i64 0, .int .i64 r] 57)).heap.size = w1.heap.size + 3 := by simp
  generalize ((w1.alloc (.cells (madeCells #[.int .i64 0, .int .i64 0] (C * 2)) 31)).alloc (.cells #[.slice (some ⟨w1.heap.size, 0, none⟩) 0 C] 46)).alloc (.cells #[.int .i64 (-r), .int .i64 0, .int .i64 (-r), .int .i64 r, .int .i64 0, .int .i64 r] 57) = W0 at hS3 bN hO3 hB3 hsz ⊢
  have hbel : Hid (Below w.heap.size w w1) := (below_two w _ _).trans (hw1.mono (by simp; omega))
  clear hw1 hcnt hmk
  have hst := each_stops 5 (by omega) (w1.heap.size + 1 + 1) W0.heap.size (-r) 0 (-r) r 0 r W0 (by omega) (Nat.le_refl _) hS3
  rw [show boxN (-r) 0 (-r) r 0 r = C from hC.out, show boxL (-r) 0 (-r) r 0 r = nearL r from rfl] at hst
  refine wpIn_rangeFunc_ownH rfl (by decide) (gf := 34) (lb := #[.pointer (some ⟨w1.heap.size + 1 + 1, 0, none⟩)]) rfl trivial (enters_of Try.func34 (by kernel_rfl) rfl)
    hst (fun h k => Kp.trans h k) (fun W l o o' _ h ho _ => Kp.book W l o o' h ho) (Below.refl _ _) (fun _ => rfl)
    (fun pre W => (∃ v, Boxed W (w1.heap.size + 1) 46 v ∧ W.ownsRow w1.heap.size 31 2 v pre.length (flatN cx cz pre) ∧ True) ∧ Below w1.heap.size w1 W)
    (fun _ _ _ => False)
    (OwnFrom.and (Own.from (holdsRow_own w1.heap.size (w1.heap.size + 1) 46 31 2 (fun pre : List P3 => pre.length) (fun pre => flatN cx cz pre) (fun _ _ => True)) _) (ownFrom_below (Nat.le_refl _) (by omega)))
    (fun _ _ _ _ _ hs _ _ => hs)
    ⟨⟨_, bN, hO3, trivial⟩, hB3⟩
    (fun x a' W => ∃ Bx, W.heap[Bx]? = some (.cells #[.int .i64 x.x, .int .i64 x.y, .int .i64 x.z] 55 (0, 0)) ∧ a' = { tmps := #[Value.agg #[Value.int IntKind.i64 cx, Value.int IntKind.i64 cz], Value.int IntKind.i64 r, Value.pointer (some { block := w.heap.size, off := 0 }), undef, Value.slice none 0 0, Value.pointer (some { block := w.heap.size + 1, off := 0 }), Value.pointer (some { block := w1.heap.size + 1, off := 0 }), .pointer (some ⟨Bx, 0, none⟩), Value.int IntKind.i64 r, Value.bool (decide (r < 0)), Value.bool (decide (r < 0)), Value.int IntKind.i64 r, Value.bool (decide (8 < r)), Value.bool (decide (r < 0) || decide (8 < r)), Value.int IntKind.i64 r, Value.int IntKind.i64 (-r), Value.int IntKind.i64 r, Value.int IntKind.i64 (-r), Value.agg #[Value.int IntKind.i64 (-r), Value.int IntKind.i64 0, Value.int IntKind.i64 (-r)], Value.int IntKind.i64 r, Value.int IntKind.i64 r, Value.agg #[Value.int IntKind.i64 r, Value.int IntKind.i64 0, Value.int IntKind.i64 r], Value.agg #[Value.int IntKind.i64 (-r), Value.int IntKind.i64 0, Value.int IntKind.i64 (-r), Value.int IntKind.i64 r, Value.int IntKind.i64 0, Value.int IntKind.i64 r], Value.agg #[Value.int IntKind.i64 (-r), Value.int IntKind.i64 0, Value.int IntKind.i64 (-r), Value.int IntKind.i64 r, Value.int IntKind.i64 0, Value.int IntKind.i64 r], Value.int IntKind.i64 (C : Int), Value.slice (some { block := w1.heap.size, off := 0 }) 0 C, Value.agg #[Value.int IntKind.i64 (-r), Value.int IntKind.i64 0, Value.int IntKind.i64 (-r), Value.int IntKind.i64 r, Value.int IntKind.i64 0, Value.int IntKind.i64 r], Value.func (Fn.func 34) #[] #[Value.pointer (some { block := w1.heap.size + 1 + 1, off := 0 })], .agg #[.int .i64 x.x, .int .i64 x.y, .int .i64 x.z], undef, undef, undef, undef, undef, undef, undef, undef, undef, undef, undef, undef, undef, undef, undef], defers := [] })
    (fun x a' _ X Y row hs hg hr => by
      obtain ⟨Bx, h1, h2⟩ := hs
      refine ⟨Bx, (hg.block Bx (Array.getElem?_eq_some_iff.1 h1).1 (fun e => ?_)).trans h1, h2⟩
      obtain ⟨_, o, ho, hc⟩ := hr Bx e.symm
      rw [h1] at ho
      cases ho
      cases hc)
    ?assign ?body ?done ?stop
  case assign =>
    rintro l pre x W K ⟨⟨v, hv, hrow, _⟩, hB⟩ hK
    gi_wp2
    exact hK _ _ ((KeepsOthers.alloc _ _).from _) (Kp.grow (World.grownBy_alloc W _ none)) ⟨⟨v, hv.alloc _, hrow.alloc _, trivial⟩, hB.alloc hB.size _⟩ ⟨W.heap.size, heap_alloc_new W _, rfl⟩
  case body =>
    rintro l pre x a' W _ _ ⟨⟨v, hv, hrow, _⟩, hB⟩ ⟨Bx, hP, rfl⟩ hlt
    have hc := hv.cell
    have x0 : W.cell? ⟨Bx, 0, none⟩ = some (.int .i64 x.x) := (cell_of_row W _ 0 _ 55 (0, 0) hP).trans rfl
    have x2 : W.cell? ⟨Bx, 2, none⟩ = some (.int .i64 x.z) := (cell_of_row W _ 2 _ 55 (0, 0) hP).trans rfl
    have hX := (hB.block w.heap.size (by omega)).trans hX1
    have y0 : W.cell? ⟨w.heap.size, 0, none⟩ = some (.int .i64 cx) := (cell_of_row W _ 0 _ 31 (0, 0) hX).trans rfl
    have y1 : W.cell? ⟨w.heap.size, 1, none⟩ = some (.int .i64 cz) := (cell_of_row W _ 1 _ 31 (0, 0) hX).trans rfl
    gi_wp2_with (gi_at_builtin; refine wpListIn_append_own _ rfl _ _ 46 rfl w1.heap.size 31 i0 (.agg #[.int .i64 0, .int .i64 0]) 2 16 Try.underlying46 hi hz0 hz1 hz2 rfl (by decide) _ _ _ rfl (hrow.alloc _) ⟨W.heap.size, 0, none⟩ 1 1 [.int .i64 (wrap64 (cx + x.x)), .int .i64 (wrap64 (cz + x.z))] rfl rfl (cell_two_new _ _ _ _) (by simp [Value.oneCell']) (by simp [maxLen]; omega) (by omega) (by have := hB.size; simp; omega) ?_; intro v' w3 hown' hgrow _; obtain ⟨g', cap', rfl⟩ := ownsRow_succ hown'; obtain ⟨hv1, hv2, hr2, hk2, hb2⟩ := hv.appended (by decide) hrow hB.size (by omega) hown' hgrow; have hc1 := hv1.cell; have hf1 := hv1.frozen)
    refine ⟨hk2.from _, ((Kp.grow (World.grownBy_alloc W _ none)).trans (Kp.row hgrow (ownsRow_apart (hrow.alloc _)))).trans (Kp.set (by omega) (by omega)), ⟨_, hv2, ?_, trivial⟩, hB.trans hb2⟩
    rw [flatN_snoc, List.length_append]
    exact hr2
  case done =>
    rintro D ys W hD rfl ⟨⟨v, hv, hrow, _⟩, hB⟩ hK
    have hc := hv.cell
    gi_wp2
    refine ⟨by simp, .inl ⟨_, _, rfl, run_takeDeferred hK, ?_⟩⟩
    have hlen : (nearL r).length = nearN r := boxL_length _ _ _ _ _ _
    rw [hlen, hC.out] at hrow
    have hlow : w.heap.size ≤ w1.heap.size := by omega
    exact ⟨_, results_tmp rfl _ _ _, v, rfl, ownsRow_base (ownsRow_putObj hrow _ hK rfl) hlow, hbel.out.trans ((hB.mono (by omega)).trans (belowK_b (w := w1) (by omega) W D _ _ (by omega) hK rfl rfl))⟩
  case stop =>
    rintro D c pre W _ _ h _
    exact h.elim
end Go.Proofs.Ytokjbjfpgjincaa.G
