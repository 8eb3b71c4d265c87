/-
  Near: the chunks about a chunk, as a new slice; whatever lay is as it lay.
-/
import Derived.Test.YtbcadklodjdokaaGn5
import Derived.Maps.AppendAt
import Derived.RangeFuncBox
import Derived.Laws.MakeOwn
set_option maxRecDepth 20000
namespace Go.Proofs.Ytbcadklodjdokaa.G
open Go.RowKit Go.Shelf

attribute [local go_sem] Oper.semAt_some

/-- How many cells a box has, and which, one after the other. -/
def boxN (a1 a2 a3 b1 b2 b3 : Int) : Nat := (sideN a2 b2).toNat * (sideN a3 b3).toNat * (sideN a1 b1).toNat
def boxL (a1 a2 a3 b1 b2 b3 : Int) : List P3 := upto a1 a2 a3 (sideN a1 b1).toNat (sideN a3 b3).toNat (boxN a1 a2 a3 b1 b2 b3)
theorem boxL_length (a1 a2 a3 b1 b2 b3 : Int) : (boxL a1 a2 a3 b1 b2 b3).length = boxN a1 a2 a3 b1 b2 b3 := upto_length _ _ _ _ _ _

theorem sideN_cases (a b : Int) : (sideN a b = 0) ∨ (∃ S : Nat, 1 ≤ S ∧ sideN a b = S ∧ a + (S : Int) = b + 1 ∧ -1099511627776 ≤ a ∧ b ≤ 1099511627776) := by
  unfold sideN
  by_cases h : a ≤ b ∧ -1099511627776 ≤ a ∧ b ≤ 1099511627776
  · rw [if_pos h]
    exact .inr ⟨(b - a + 1).toNat, by omega, by omega, by omega, h.2⟩
  · rw [if_neg h]
    exact .inl rfl
theorem boxN_zero (a1 a2 a3 b1 b2 b3 : Int) (h : sideN a1 b1 = 0 ∨ sideN a2 b2 = 0 ∨ sideN a3 b3 = 0) : boxN a1 a2 a3 b1 b2 b3 = 0 ∧ countN a1 a2 a3 b1 b2 b3 = 0 := by
  unfold boxN countN
  rcases h with h | h | h <;> rw [h] <;> simp [Int.min_def]

theorem Six.alloc {w : World} {B : Nat} {a1 a2 a3 b1 b2 b3 : Int} (h : Six w B a1 a2 a3 b1 b2 b3) (o : Obj) : Six (w.alloc o) B a1 a2 a3 b1 b2 b3 := (Below.heap_alloc w o B (Array.getElem?_eq_some_iff.1 h).1).trans h

set_option maxHeartbeats 1000000 in
theorem each_c (a1 a2 a3 b1 b2 b3 : Int) (w : World) : Calls Try.prog 54 #[.agg #[.int .i64 a1, .int .i64 a2, .int .i64 a3, .int .i64 b1, .int .i64 b2, .int .i64 b3]] w fun e w' => e = .returned (.func (.func 57) #[] #[.pointer (some ⟨w.heap.size, 0, none⟩)]) ∧ w' = w.alloc (.cells #[.int .i64 a1, .int .i64 a2, .int .i64 a3, .int .i64 b1, .int .i64 b2, .int .i64 b3] 86) := by
  have hmf : ∀ w, Sem.run Try.prog (Instr.makeFunc (.func 57) #[] #[.pointer (some ⟨w.heap.size, 0, none⟩)]) w = .ok (.func (.func 57) #[] #[.pointer (some ⟨w.heap.size, 0, none⟩)]) w := fun w => by rfl
  go_enter Try.func54, Try.ntmps54
  go_wp2
  go_ret
  exact ⟨rfl, rfl⟩

/-- A range over the cells of a box, for every body that leaves the box alone. -/
theorem each_stops (n : Nat) (hn : 1 ≤ n) (Bb n₁ : Nat) (a1 a2 a3 b1 b2 b3 : Int) (w : World) (hB : Bb < w.heap.size) (hn₁ : n₁ ≤ w.heap.size) (hS : Six w Bb a1 a2 a3 b1 b2 b3) :
    SeqStopsK Fence.wide n Try.prog 57 #[.pointer (some ⟨Bb, 0, none⟩)] (fun x : P3 => #[P3.val x]) (Kp Bb n₁) (fun xs => xs = boxL a1 a2 a3 b1 b2 b3) (fun pre => pre <+: boxL a1 a2 a3 b1 b2 b3) (boxN a1 a2 a3 b1 b2 b3) w := fun l J Jx W hW hJ hJx hY h0 => by
  have hSW : Six W Bb a1 a2 a3 b1 b2 b3 := hS.on hW hB
  have none : (sideN a1 b1 = 0 ∨ sideN a2 b2 = 0 ∨ sideN a3 b3 = 0) → CallsIn Fence.wide n Try.prog 57 #[.func (.yield l) #[] #[], .pointer (some ⟨Bb, 0, none⟩)] W fun e W' => (∃ v, e = .returned v) ∧ ((∃ xs, xs = boxL a1 a2 a3 b1 b2 b3 ∧ J xs W') ∨ (∃ pre, pre <+: boxL a1 a2 a3 b1 b2 b3 ∧ Jx pre W')) := fun h => by
    obtain ⟨e0, e1⟩ := boxN_zero a1 a2 a3 b1 b2 b3 h
    refine (each1_none n hn l Bb a1 a2 a3 b1 b2 b3 e1 J W hJ hSW h0).mono ?_
    rintro e W' ⟨hv, hj⟩
    exact ⟨hv, .inl ⟨[], by unfold boxL; rw [e0, upto_zero], hj⟩⟩
  rcases sideN_cases a1 b1 with h1 | ⟨S1, p1, r1, e1, q1⟩
  · exact none (.inl h1)
  rcases sideN_cases a2 b2 with h2 | ⟨S2, p2, r2, e2, q2⟩
  · exact none (.inr (.inl h2))
  rcases sideN_cases a3 b3 with h3 | ⟨S3, p3, r3, e3, q3⟩
  · exact none (.inr (.inr h3))
  have eN : boxN a1 a2 a3 b1 b2 b3 = S2 * S3 * S1 := by unfold boxN; rw [r1, r2, r3]; simp
  have eL : boxL a1 a2 a3 b1 b2 b3 = upto a1 a2 a3 S1 S3 (S2 * S3 * S1) := by unfold boxL; rw [eN, r1, r3]; simp
  rw [eN] at hY
  refine (each1_some n hn l Bb n₁ a1 a2 a3 b1 b2 b3 S1 S2 S3 p1 p2 p3 e1 e2 e3 q1 q2 q3 J Jx W (Nat.le_trans hn₁ hW.size) hJ hJx hY hSW h0).mono ?_
  rintro e W' ⟨hv, hj | ⟨pre, hp, hx⟩⟩
  · exact ⟨hv, .inl ⟨_, eL.symm, hj⟩⟩
  · exact ⟨hv, .inr ⟨pre, by rw [eL]; exact hp, hx⟩⟩

theorem info30 : (Try.prog.info? 30).map (fun i => (i.zero, i.size, i.bytes)) = some (some (.agg #[.int .i64 0, .int .i64 0]), 2, 16) := by kernel_rfl

/-- The chunks at these steps from a chunk, as the cells of a row. -/
def flatN (cx cz : Int) (l : List P3) : List Value := l.flatMap fun p => [.int .i64 (wrap64 (cx + p.x)), .int .i64 (wrap64 (cz + p.z))]
theorem flatN_snoc (cx cz : Int) (l : List P3) (p : P3) : flatN cx cz (l ++ [p]) = flatN cx cz l ++ [.int .i64 (wrap64 (cx + p.x)), .int .i64 (wrap64 (cz + p.z))] := by simp [flatN]
theorem flatN_length (cx cz : Int) (l : List P3) : (flatN cx cz l).length = l.length * 2 := by
  induction l with
  | nil => rfl
  | cons p l ih =>
    have : flatN cx cz (p :: l) = [.int .i64 (wrap64 (cx + p.x)), .int .i64 (wrap64 (cz + p.z))] ++ flatN cx cz l := by simp [flatN]
    rw [this, List.length_append, ih]
    simp
    omega
def nearN (r : Int) : Nat := boxN (-r) 0 (-r) r 0 r
def nearL (r : Int) : List P3 := boxL (-r) 0 (-r) r 0 r
theorem near_count (r : Int) (h0 : 0 ≤ r) (h8 : r ≤ 8) : countN (-r) 0 (-r) r 0 r = (nearN r : Int) ∧ nearN r = (2 * r + 1).toNat * (2 * r + 1).toNat ∧ nearN r ≤ 289 := by
  have e : sideN (-r) r = (((2 * r + 1).toNat : Nat) : Int) := by unfold sideN; rw [if_pos (by omega)]; omega
  have e0 : sideN 0 0 = 1 := by decide
  have n : nearN r = (2 * r + 1).toNat * (2 * r + 1).toNat := by unfold nearN boxN; rw [e, e0, Int.toNat_natCast]; simp
  have b : (2 * r + 1).toNat * (2 * r + 1).toNat ≤ 17 * 17 := Nat.mul_le_mul (by omega) (by omega)
  refine ⟨?_, n, by omega⟩
  rw [n]
  unfold countN
  rw [e, e0, Int.mul_one, ← Int.natCast_mul]
  omega

theorem ownsRow_apart {W : World} {b k : Nat} {v : Value} {xs : List Value} (h : W.ownsRow b 30 2 v k xs) : ∀ g, v.ownBlock = some g → (∀ cs fr, W.heap[g]? ≠ some (.cells cs 86 fr)) ∧ ∀ cs fr, W.heap[g]? ≠ some (.cells cs 24 fr) := by
  intro g hg
  rcases h.2 with ⟨rfl, _⟩ | ⟨g', cap, cur, rfl, _, hb, _⟩
  · simp [Value.ownBlock] at hg
  · obtain rfl : g' = g := by simpa [Value.ownBlock] using hg
    rw [hb]
    exact ⟨fun cs fr e => by simp at e, fun cs fr e => by simp at e⟩
theorem ownsRow_base {W : World} {b b' e size k : Nat} {v : Value} {xs : List Value} (h : W.ownsRow b e size v k xs) (hb : b' ≤ b) : W.ownsRow b' e size v k xs := by
  refine ⟨h.1, ?_⟩
  rcases h.2 with h0 | ⟨g, cap, cur, hv, hg, rest⟩
  · exact .inl h0
  · exact .inr ⟨g, cap, cur, hv, Nat.le_trans hb hg, rest⟩
theorem cell_two_new (W : World) (T : TypeId) (u v : Value) : ∀ (j : Nat) (x : Value), [u, v][j]? = some x → (W.alloc (.cells #[u, v] T)).cell? (Addr.add ⟨W.heap.size, 0, none⟩ j) = some x := by
  intro j x h
  have e := cell_of_row (W.alloc (.cells #[u, v] T)) W.heap.size j _ T (0, 0) (heap_alloc_new W _)
  match j with
  | 0 => simpa [Addr.add] using e.trans h
  | 1 => simpa [Addr.add] using e.trans h
  | j + 2 => simp at h

end Go.Proofs.Ytbcadklodjdokaa.G