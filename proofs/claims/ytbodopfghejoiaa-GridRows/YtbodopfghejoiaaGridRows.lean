/-
  GridRows: the cells of a box come by rising places, each once, all of them in the box.
-/
import Derived.Test.YtbodopfghejoiaaFrame
import Derived.Test.YtbodopfghejoiaaReach
import Derived.Test.YtbodopfghejoiaaRound
import Derived.Test.YtbodopfghejoiaaTail
namespace Go.Proofs.Ytbodopfghejoiaa
open Go.ChangeShapes Go.WideShapes Go.ChangeAt Go.RowKit Go.BigFrame Go.Shelf

attribute [local go_sem] Oper.semAt_some

theorem upto_get (a1 a2 a3 : Int) (S1 S3 n k : Nat) (h : k < n) : (upto a1 a2 a3 S1 S3 n)[k]? = some (cellAt a1 a2 a3 S1 S3 k) := by
  unfold upto
  rw [List.getElem?_map, List.getElem?_range h]
  rfl
/-- The last cell of those that have come; the corner where none has. -/
def lastOf (a1 a2 a3 : Int) (pre : List P3) : P3 := pre.getLast?.getD ⟨a1, a2, a3⟩
theorem lastOf_snoc (a1 a2 a3 : Int) (pre : List P3) (x : P3) : lastOf a1 a2 a3 (pre ++ [x]) = x := by simp [lastOf]
def laterP (p q : P3) : Prop := p.y < q.y ∨ (q.y = p.y ∧ (p.z < q.z ∨ (q.z = p.z ∧ p.x < q.x)))
theorem box_cell (a1 a2 a3 b1 b2 b3 : Int) (k : Nat) (h : k < boxN a1 a2 a3 b1 b2 b3) : ∃ x, (boxL a1 a2 a3 b1 b2 b3)[k]? = some x ∧ (a1 ≤ x.x ∧ x.x ≤ b1) ∧ (a2 ≤ x.y ∧ x.y ≤ b2) ∧ (a3 ≤ x.z ∧ x.z ≤ b3) ∧ (k = 0 → x = ⟨a1, a2, a3⟩) ∧
    (k + 1 = boxN a1 a2 a3 b1 b2 b3 → x = ⟨b1, b2, b3⟩) ∧ ∀ y, (boxL a1 a2 a3 b1 b2 b3)[k + 1]? = some y → laterP x y := by
  obtain ⟨S2, eN, ⟨p1, e1, _⟩, ⟨p2, e2, _⟩, p3, e3, _⟩ := box_pos a1 a2 a3 b1 b2 b3 (by omega)
  unfold boxL
  rw [eN] at h ⊢
  generalize (sideN a1 b1).toNat = S1 at *
  generalize (sideN a3 b3).toNat = S3 at *
  obtain ⟨I, M, L, hI, hM, rfl⟩ := cellAt_next S1 S3 k p1 p3
  have hL : L < S2 := layer_lt h
  have hg := upto_get a1 a2 a3 S1 S3 _ _ h
  rw [cellAt_of a1 a2 a3 S1 S3 I M L hI hM] at hg
  refine ⟨_, hg, by simp only; omega, by simp only; omega, by simp only; omega, fun h0 => ?_, fun hl => ?_, fun y hy => ?_⟩
  · have q1 : I = 0 := by omega
    have q2 : (L * S3 + M) * S1 = 0 := by omega
    have q3 : L * S3 + M = 0 := by rcases Nat.mul_eq_zero.1 q2 with h | h <;> omega
    have q4 : L * S3 = 0 := by omega
    have q5 : L = 0 := by rcases Nat.mul_eq_zero.1 q4 with h | h <;> omega
    have q6 : M = 0 := by omega
    subst q1; subst q5; subst q6
    simp
  · have z1 : I + 1 = S1 ∧ M + 1 = S3 ∧ L + 1 = S2 := by
      have f1 : I + 1 = S1 := Decidable.byContradiction fun hn => by have := idx_lt (I := I + 1) (S1 := S1) (by omega) hM hL; omega
      have f2 : M + 1 = S3 := Decidable.byContradiction fun hn => by
        have := idx_lt (I := 0) (M := M + 1) (S1 := S1) (S3 := S3) (by omega) (by omega) hL
        have e : (L * S3 + (M + 1)) * S1 = (L * S3 + M) * S1 + S1 := by rw [← Nat.add_assoc, Nat.add_mul]; omega
        omega
      have f3 : L + 1 = S2 := Decidable.byContradiction fun hn => by
        have := idx_lt (I := 0) (M := 0) (L := L + 1) (S1 := S1) (S3 := S3) (S2 := S2) (by omega) (by omega) (by omega)
        have e : ((L + 1) * S3 + 0) * S1 = (L * S3 + M) * S1 + S1 := by rw [show (L + 1) * S3 + 0 = L * S3 + M + 1 by rw [Nat.add_mul]; omega, Nat.add_mul]; omega
        omega
      exact ⟨f1, f2, f3⟩
    congr 1 <;> omega
  · have hlt : (L * S3 + M) * S1 + I + 1 < S2 * S3 * S1 := by
      have := (List.getElem?_eq_some_iff.1 hy).1
      rwa [upto_length] at this
    rw [upto_get a1 a2 a3 S1 S3 _ _ hlt] at hy
    obtain ⟨s1, s2, s3⟩ := cellAt_step a1 a2 a3 S1 S3 I M L hI hM
    unfold laterP
    by_cases g1 : I + 1 < S1
    · rw [s1 g1] at hy; cases hy; exact .inr ⟨rfl, .inr ⟨rfl, by simp only; omega⟩⟩
    · by_cases g2 : M + 1 < S3
      · rw [s2 (by omega) g2] at hy; cases hy; exact .inr ⟨rfl, .inl (by simp only; omega)⟩
      · rw [s3 (by omega) (by omega)] at hy; cases hy; simp only; omega
/-- What the next cell of a box is like. -/
theorem rows_ok (a1 a2 a3 b1 b2 b3 : Int) (pre : List P3) (x : P3) (h : pre ++ [x] <+: boxL a1 a2 a3 b1 b2 b3) :
    (a1 ≤ x.x ∧ x.x ≤ b1) ∧ (a2 ≤ x.y ∧ x.y ≤ b2) ∧ (a3 ≤ x.z ∧ x.z ≤ b3) ∧ (pre.length = 0 → x = ⟨a1, a2, a3⟩) ∧ (0 < pre.length → laterP (lastOf a1 a2 a3 pre) x) := by
  have hl : pre.length < (boxL a1 a2 a3 b1 b2 b3).length ∧ (boxL a1 a2 a3 b1 b2 b3)[pre.length]? = some x := by
    obtain ⟨t, ht⟩ := h
    rw [← ht]
    simp
  rw [boxL_length] at hl
  obtain ⟨y, hy, q1, q2, q3, q4, _, _⟩ := box_cell a1 a2 a3 b1 b2 b3 pre.length hl.1
  rw [hl.2] at hy
  cases hy
  refine ⟨q1, q2, q3, q4, fun h0 => ?_⟩
  obtain ⟨p, hp, _, _, _, _, _, q⟩ := box_cell a1 a2 a3 b1 b2 b3 (pre.length - 1) (by omega)
  have e : lastOf a1 a2 a3 pre = p := by
    obtain ⟨t, ht⟩ := h
    rw [← ht] at hp
    rw [List.append_assoc, List.getElem?_append_left (by omega)] at hp
    unfold lastOf
    rw [List.getLast?_eq_getElem?, hp]
    rfl
  rw [e]
  exact q x (by rw [show pre.length - 1 + 1 = pre.length by omega]; exact hl.2)
theorem row_own {β : Type} (B T : Nat) (f : β → Array Value) : Own (fun s W => W.heap[B]? = some (.cells (f s) T (0, 0))) := by
  intro s X Y row h hg hr
  refine (hg.block B (Array.getElem?_eq_some_iff.1 h).1 (fun e => ?_)).trans h
  obtain ⟨o, ho, hc⟩ := hr B e.symm
  rw [h] at ho
  cases ho
  cases hc
theorem res_bool' {W : World} {fn : Func} {p : Tmp} {tmps : Array Value} {g : Nat} {b : Bool} (h : fn.results = #[.cell p 4]) (hp : tmps.getD p undef = .pointer (some ⟨g, 0, none⟩)) (hg : Boxed W g 4 (.bool b)) : (results fn tmps).run Try.prog W = .ok (.bool b) W := by
  have c := hg.cell
  have hp' : tmps[p]?.getD undef = .pointer (some ⟨g, 0, none⟩) := by simpa using hp
  simp [results, h, hp', asAddr, go_sem, c]
theorem bx3 {W : World} {B b k : Nat} {t : TypeId} {v u : Value} (h : Boxed W B t v) (hb : B ≠ b) : Boxed (W.setCell ⟨b, k, none⟩ u) B t v := (Below.heap_setCell W ⟨b, k, none⟩ u B hb).trans h
theorem below_join {a W W' w5 : World} (h : Below a.heap.size a W) (e1 : W'.heap = W.heap) (e2 : W'.os = W.os) (e3 : W'.tape = W.tape) (e4 : W'.output = W.output) (hw : Below W'.heap.size W' w5) : Below a.heap.size a w5 := by
  have hs := hw.size
  refine ⟨hw.os.trans (e2.trans h.os), hw.tape.trans (e3.trans h.tape), hw.output.trans (e4.trans h.output), ?_, fun k hk => ?_⟩
  · rw [e1] at hs
    exact Nat.le_trans h.size hs
  · have := hw.block k (by rw [e1]; exact Nat.lt_of_lt_of_le hk h.size)
    rw [e1] at this
    exact this.trans (h.block k hk)
theorem wp_only {P : Program} {c : Code} {Q : Exit → Act → World → Prop} {a : Act} {w : World} (h : c.wp P (Exit.then (fun a w => Q .normal a w) (fun _ _ _ => False)) a w) : c.wp P Q a w :=
  (wpIn_wide (n := 0)).1 (wpIn_mono (wpIn_wide.2 h) (fun e a w hq => by cases e <;> first | exact hq | exact hq.elim))
theorem rows_end (a1 a2 a3 b1 b2 b3 : Int) (h : 0 < boxN a1 a2 a3 b1 b2 b3) : lastOf a1 a2 a3 (boxL a1 a2 a3 b1 b2 b3) = ⟨b1, b2, b3⟩ := by
  obtain ⟨p, hp, _, _, _, _, q, _⟩ := box_cell a1 a2 a3 b1 b2 b3 (boxN a1 a2 a3 b1 b2 b3 - 1) (by omega)
  unfold lastOf
  rw [List.getLast?_eq_getElem?, boxL_length, hp, q (by omega)]
  rfl

set_option maxRecDepth 100000 in
set_option maxHeartbeats 16000000 in
theorem gridRows_any (a1 a2 a3 b1 b2 b3 : Int) (w : World) : Calls Try.prog 8 #[.agg #[.int .i64 a1, .int .i64 a2, .int .i64 a3, .int .i64 b1, .int .i64 b2, .int .i64 b3]] w fun e w' => e = .returned (.bool true) ∧ Below w.heap.size w w' := by
  refine (callsIn_wide (n := 6)).1 ?_
  refine callsIn_of_wp_marks Try.func8 rfl trivial ?_ rfl
  simp only [Try.ntmps8, List.size_toArray, List.length_cons, List.length_nil, Nat.reduceAdd, Nat.reduceSub, Array.replicate_succ, Array.replicate_zero, List.push_toArray, List.append_toArray, List.nil_append, List.cons_append]
  gi_wp2_with (fail)
  refine ⟨trivial, ?_⟩
  refine (callsIn_wide.2 (awake_c _)).mono ?_
  rintro e w1 ⟨rfl, hw1⟩
  have HB1 : Hid (Below w.heap.size w w1) := (below_two w _ _).trans (hw1.mono (by simp; omega))
  have hS1 : Six w1 w.heap.size a1 a2 a3 b1 b2 b3 := (hw1.block w.heap.size (by simp; omega)).trans (Six.alloc (Six.new w a1 a2 a3 b1 b2 b3) _)
  have bR1 : Boxed w1 (w.heap.size + 1) 4 (.bool false) := (hw1.block (w.heap.size + 1) (by simp)).trans (new_two w _ _)
  have hsz1 : w.heap.size + 2 ≤ w1.heap.size := by have := hw1.size; simp at this; omega
  clear hw1
  obtain ⟨s0, s1, s2, s3, s4, s5⟩ := (Six.alloc (Six.alloc hS1 (.cells #[.bool true] 4)) (.cells #[.int .i64 0] 3)).cells
  obtain ⟨t0, t1, t2, t3, t4, t5⟩ := (Six.alloc (Six.alloc (Six.alloc hS1 (.cells #[.bool true] 4)) (.cells #[.int .i64 0] 3)) (.cells #[.int .i64 a1, .int .i64 a2, .int .i64 a3] 23)).cells
  gi_wp2_with (fail)
  refine ⟨trivial, ?_⟩
  refine (callsIn_wide.2 (each_c _ _ _ _ _ _ _)).mono ?_
  rintro e w3 ⟨rfl, rfl⟩
  clear s0 s1 s2 s3 s4 s5 t0 t1 t2 t3 t4 t5
  gi_wp2_with (fail)
  have hS3 : Six ((((w1.alloc (.cells #[.bool true] 4)).alloc (.cells #[.int .i64 0] 3)).alloc (.cells #[.int .i64 a1, .int .i64 a2, .int .i64 a3] 23)).alloc (.cells #[.int .i64 a1, .int .i64 a2, .int .i64 a3, .int .i64 b1, .int .i64 b2, .int .i64 b3] 33)) (w1.heap.size + 1 + 1 + 1) a1 a2 a3 b1 b2 b3 := by
    have := Six.new (((w1.alloc (.cells #[.bool true] 4)).alloc (.cells #[.int .i64 0] 3)).alloc (.cells #[.int .i64 a1, .int .i64 a2, .int .i64 a3] 23)) a1 a2 a3 b1 b2 b3
    simpa only [World.size_alloc] using this
  have bU0 : Boxed ((((w1.alloc (.cells #[.bool true] 4)).alloc (.cells #[.int .i64 0] 3)).alloc (.cells #[.int .i64 a1, .int .i64 a2, .int .i64 a3] 23)).alloc (.cells #[.int .i64 a1, .int .i64 a2, .int .i64 a3, .int .i64 b1, .int .i64 b2, .int .i64 b3] 33)) w1.heap.size 4 (.bool true) := (((Boxed.new w1 4 (.bool true)).alloc _).alloc _).alloc _
  have bN0 : Boxed ((((w1.alloc (.cells #[.bool true] 4)).alloc (.cells #[.int .i64 0] 3)).alloc (.cells #[.int .i64 a1, .int .i64 a2, .int .i64 a3] 23)).alloc (.cells #[.int .i64 a1, .int .i64 a2, .int .i64 a3, .int .i64 b1, .int .i64 b2, .int .i64 b3] 33)) (w1.heap.size + 1) 3 (.int .i64 0) := by
    have := ((Boxed.new (w1.alloc (.cells #[.bool true] 4)) 3 (.int .i64 0)).alloc (.cells #[.int .i64 a1, .int .i64 a2, .int .i64 a3] 23)).alloc (.cells #[.int .i64 a1, .int .i64 a2, .int .i64 a3, .int .i64 b1, .int .i64 b2, .int .i64 b3] 33)
    simpa only [World.size_alloc] using this
  have hL0 : ((((w1.alloc (.cells #[.bool true] 4)).alloc (.cells #[.int .i64 0] 3)).alloc (.cells #[.int .i64 a1, .int .i64 a2, .int .i64 a3] 23)).alloc (.cells #[.int .i64 a1, .int .i64 a2, .int .i64 a3, .int .i64 b1, .int .i64 b2, .int .i64 b3] 33)).heap[w1.heap.size + 1 + 1]? = some (.cells #[.int .i64 a1, .int .i64 a2, .int .i64 a3] 23 (0, 0)) := by
    have := heap_alloc_new ((w1.alloc (.cells #[.bool true] 4)).alloc (.cells #[.int .i64 0] 3)) (.cells #[.int .i64 a1, .int .i64 a2, .int .i64 a3] 23)
    simp only [World.size_alloc] at this
    exact (Below.heap_alloc _ _ _ (by simp)).trans this
  have hB3 : Below w1.heap.size w1 ((((w1.alloc (.cells #[.bool true] 4)).alloc (.cells #[.int .i64 0] 3)).alloc (.cells #[.int .i64 a1, .int .i64 a2, .int .i64 a3] 23)).alloc (.cells #[.int .i64 a1, .int .i64 a2, .int .i64 a3, .int .i64 b1, .int .i64 b2, .int .i64 b3] 33)) := ((((Below.refl _ w1).alloc (Nat.le_refl _) _).alloc (by simp) _).alloc (by simp; omega) _).alloc (by simp; omega) _
  have hsz : ((((w1.alloc (.cells #[.bool true] 4)).alloc (.cells #[.int .i64 0] 3)).alloc (.cells #[.int .i64 a1, .int .i64 a2, .int .i64 a3] 23)).alloc (.cells #[.int .i64 a1, .int .i64 a2, .int .i64 a3, .int .i64 b1, .int .i64 b2, .int .i64 b3] 33)).heap.size = w1.heap.size + 4 := by simp
  generalize ((((w1.alloc (.cells #[.bool true] 4)).alloc (.cells #[.int .i64 0] 3)).alloc (.cells #[.int .i64 a1, .int .i64 a2, .int .i64 a3] 23)).alloc (.cells #[.int .i64 a1, .int .i64 a2, .int .i64 a3, .int .i64 b1, .int .i64 b2, .int .i64 b3] 33)) = W0 at hS3 bU0 bN0 hL0 hB3 hsz ⊢
  have HLn : Hid ((boxL a1 a2 a3 b1 b2 b3).length = boxN a1 a2 a3 b1 b2 b3) := boxL_length _ _ _ _ _ _
  have HRO : Hid (∀ pre x, pre ++ [x] <+: boxL a1 a2 a3 b1 b2 b3 → _) := rows_ok a1 a2 a3 b1 b2 b3
  have HRE : Hid (0 < boxN a1 a2 a3 b1 b2 b3 → lastOf a1 a2 a3 (boxL a1 a2 a3 b1 b2 b3) = ⟨b1, b2, b3⟩) := rows_end a1 a2 a3 b1 b2 b3
  have HCN : Hid (countN a1 a2 a3 b1 b2 b3 = min ((boxN a1 a2 a3 b1 b2 b3 : Nat) : Int) 2147483648) := count_box a1 a2 a3 b1 b2 b3
  have hst := each_stops 5 (by omega) (w1.heap.size + 1 + 1 + 1) W0.heap.size a1 a2 a3 b1 b2 b3 W0 (by omega) (Nat.le_refl _) hS3
  generalize boxN a1 a2 a3 b1 b2 b3 = N at hst HLn HRE HCN
  generalize boxL a1 a2 a3 b1 b2 b3 = Lx at hst HLn HRO HRE
  have oR : OwnFrom W0.heap.size (fun (_ : List P3) W => Boxed W (w.heap.size + 1) 4 (.bool true)) := Own.from (boxed_own _ _ _) _
  have oB : OwnFrom W0.heap.size (fun (_ : List P3) W => Below w.heap.size w W) := ownFrom_below (Nat.le_refl _) (by omega)
  refine wpIn_rangeFunc_ownH rfl (by decide) (gf := 35) (lb := #[.pointer (some ⟨w1.heap.size + 1 + 1 + 1, 0, none⟩)]) rfl trivial (enters_of Try.func35 (by kernel_rfl) rfl)
    hst (fun h k => Kp.trans h k) (fun W l o o' _ h ho _ => Kp.book W l o o' h ho) (Below.refl _ _) (fun _ => rfl)
    (fun pre W => (((Boxed W w1.heap.size 4 (.bool true) ∧ Boxed W (w1.heap.size + 1) 3 (.int .i64 (pre.length : Int))) ∧ W.heap[w1.heap.size + 1 + 1]? = some (.cells #[.int .i64 (lastOf a1 a2 a3 pre).x, .int .i64 (lastOf a1 a2 a3 pre).y, .int .i64 (lastOf a1 a2 a3 pre).z] 23 (0, 0))) ∧ (pre.length : Int) < 5000) ∧ Below w1.heap.size w1 W)
    (fun c q W => c = .ret ∧ ((¬ q <+: Lx) ∨ (Boxed W (w.heap.size + 1) 4 (.bool true) ∧ Below w.heap.size w W)))
    (OwnFrom.and (OwnFrom.and (OwnFrom.and (OwnFrom.and (Own.from (boxed_own _ _ _) _) (Own.from (boxed_own _ _ _) _)) (Own.from (row_own _ _ _) _)) (ownFrom_pure _ _)) (ownFrom_below (Nat.le_refl _) (by omega)))
    (fun c s X Y row hs hg hr => ⟨hs.1, hs.2.imp id (fun h => ⟨oR s X Y row h.1 hg hr, oB s X Y row h.2 hg hr⟩)⟩)
    ⟨⟨⟨⟨bU0, by simpa using bN0⟩, by simpa [lastOf] using hL0⟩, by simp⟩, hB3⟩
    (fun x a' W => ∃ Bx, W.heap[Bx]? = some (.cells #[.int .i64 x.x, .int .i64 x.y, .int .i64 x.z] 23 (0, 0)) ∧ a' = { tmps := #[.agg #[.int .i64 a1, .int .i64 a2, .int .i64 a3, .int .i64 b1, .int .i64 b2, .int .i64 b3], .pointer (some ⟨w.heap.size, 0, none⟩), .pointer (some ⟨w.heap.size + 1, 0, none⟩), .pointer (some ⟨w1.heap.size, 0, none⟩), .pointer (some ⟨w1.heap.size + 1, 0, none⟩), .pointer (some ⟨w1.heap.size + 1 + 1, 0, none⟩), .pointer (some ⟨Bx, 0, none⟩), undef, .bool true, .pointer (some ⟨w.heap.size, 0, none⟩), .agg #[.int .i64 a1, .int .i64 a2, .int .i64 a3], .bool true, .bool false, .agg #[.int .i64 a1, .int .i64 a2, .int .i64 a3, .int .i64 b1, .int .i64 b2, .int .i64 b3], .func (.func 35) #[] #[.pointer (some ⟨w1.heap.size + 1 + 1 + 1, 0, none⟩)], .agg #[.int .i64 x.x, .int .i64 x.y, .int .i64 x.z], undef, undef, undef, undef, undef, undef, undef, undef, undef, undef, undef, undef, undef, undef, undef, undef, undef, undef, undef, undef, undef, undef, undef, undef, undef, undef, undef, undef, undef, undef, undef, undef, undef, undef, undef, undef, undef, undef, undef, undef, undef, undef, undef, undef, undef, undef, undef, undef, undef, undef, undef, undef, undef, undef, undef, undef, undef, undef, undef, undef, undef, undef, undef, undef, undef, undef, undef, undef, undef, undef, undef, undef, undef, undef, undef, undef, undef, undef, undef, undef, undef, undef, undef, undef, undef, undef, undef, undef, undef, undef, undef, undef, undef, undef, undef, undef, undef, undef, undef, undef, undef, undef, undef, undef, undef, undef, undef, undef, undef, undef, undef, undef, undef, undef, undef, undef, undef, undef], defers := [] })
    (fun x a' _ X Y row hs hg hr => by
      obtain ⟨Bx, h1, h2⟩ := hs
      refine ⟨Bx, (hg.block Bx (Array.getElem?_eq_some_iff.1 h1).1 (fun e => ?_)).trans h1, h2⟩
      obtain ⟨_, o, ho, hc⟩ := hr Bx e.symm
      rw [h1] at ho
      cases ho
      cases hc)
    ?assign ?body ?done ?stop
  case assign =>
    rintro l pre x W K ⟨⟨⟨⟨bU, bN⟩, hL⟩, hp⟩, hB⟩ hK
    gi_wp2
    exact hK _ _ ((KeepsOthers.alloc _ _).from _) (Kp.grow (World.grownBy_alloc W _ none)) ⟨⟨⟨⟨bU.alloc _, bN.alloc _⟩, (Below.heap_alloc _ _ _ (Array.getElem?_eq_some_iff.1 hL).1).trans hL⟩, hp⟩, hB.alloc hB.size _⟩ ⟨W.heap.size, heap_alloc_new W _, rfl⟩
  case body =>
    rintro l pre ⟨px, py, pz⟩ a' W _ _ ⟨⟨⟨⟨bU, bN⟩, hL⟩, hp⟩, hB⟩ ⟨Bx, hP, rfl⟩ hlt
    dsimp only at hP ⊢
    have HOK : Hid (pre ++ [⟨px, py, pz⟩] <+: Lx → ((a1 ≤ px ∧ px ≤ b1) ∧ (a2 ≤ py ∧ py ≤ b2) ∧ (a3 ≤ pz ∧ pz ≤ b3) ∧ (pre.length = 0 → px = a1 ∧ py = a2 ∧ pz = a3) ∧ (0 < pre.length → (lastOf a1 a2 a3 pre).y < py ∨ (py = (lastOf a1 a2 a3 pre).y ∧ ((lastOf a1 a2 a3 pre).z < pz ∨ (pz = (lastOf a1 a2 a3 pre).z ∧ (lastOf a1 a2 a3 pre).x < px)))))) := fun h => by
      obtain ⟨r1, r2, r3, r4, r5⟩ := HRO.out pre ⟨px, py, pz⟩ h
      exact ⟨r1, r2, r3, fun h0 => by have := r4 h0; cases this; exact ⟨rfl, rfl, rfl⟩, r5⟩
    have HL0 : Hid (pre.length = 0 → lastOf a1 a2 a3 pre = ⟨a1, a2, a3⟩) := fun h => by rw [List.length_eq_zero_iff.1 h]; rfl
    generalize lastOf a1 a2 a3 pre = lq at hL HOK HL0
    obtain ⟨lx, ly, lz⟩ := lq
    dsimp only at hL HOK HL0
    have cU := bU.cell
    have cN := bN.cell
    have fN := bN.frozen
    have bR : Boxed W (w.heap.size + 1) 4 (.bool false) := (hB.block _ bR1.lt).trans bR1
    have cR := bR.cell
    have fR := bR.frozen
    obtain ⟨s0, s1, s2, s3, s4, s5⟩ := (hS1.on hB (Array.getElem?_eq_some_iff.1 hS1).1).cells
    have x0 := (cell_of_row W (Bx) 0 _ 23 (0, 0) hP).trans rfl
    have x1 := (cell_of_row W (Bx) 1 _ 23 (0, 0) hP).trans rfl
    have x2 := (cell_of_row W (Bx) 2 _ 23 (0, 0) hP).trans rfl
    have l0 := (cell_of_row W (w1.heap.size + 1 + 1) 0 _ 23 (0, 0) hL).trans rfl
    have l1 := (cell_of_row W (w1.heap.size + 1 + 1) 1 _ 23 (0, 0) hL).trans rfl
    have l2 := (cell_of_row W (w1.heap.size + 1 + 1) 2 _ 23 (0, 0) hL).trans rfl
    have fL0 := frozen_of_row W (w1.heap.size + 1 + 1) 0 _ 23 hL
    have fL1 := frozen_of_row W (w1.heap.size + 1 + 1) 1 _ 23 hL
    have fL2 := frozen_of_row W (w1.heap.size + 1 + 1) 2 _ 23 hL
    by_cases d0 : a1 ≤ px
    case neg =>
      have hno : ¬ pre ++ [⟨px, py, pz⟩] <+: Lx := fun h => by have := HOK.out h; omega
      gi_wp2
      exact ⟨(KeepsOthers.setCell _ _ _).from _, rfl, .inl hno⟩
    by_cases d1 : px ≤ b1
    case neg =>
      have hno : ¬ pre ++ [⟨px, py, pz⟩] <+: Lx := fun h => by have := HOK.out h; omega
      gi_wp2
      exact ⟨(KeepsOthers.setCell _ _ _).from _, rfl, .inl hno⟩
    by_cases d2 : a2 ≤ py
    case neg =>
      have hno : ¬ pre ++ [⟨px, py, pz⟩] <+: Lx := fun h => by have := HOK.out h; omega
      gi_wp2
      exact ⟨(KeepsOthers.setCell _ _ _).from _, rfl, .inl hno⟩
    by_cases d3 : py ≤ b2
    case neg =>
      have hno : ¬ pre ++ [⟨px, py, pz⟩] <+: Lx := fun h => by have := HOK.out h; omega
      gi_wp2
      exact ⟨(KeepsOthers.setCell _ _ _).from _, rfl, .inl hno⟩
    by_cases d4 : a3 ≤ pz
    case neg =>
      have hno : ¬ pre ++ [⟨px, py, pz⟩] <+: Lx := fun h => by have := HOK.out h; omega
      gi_wp2
      exact ⟨(KeepsOthers.setCell _ _ _).from _, rfl, .inl hno⟩
    by_cases d5 : pz ≤ b3
    case neg =>
      have hno : ¬ pre ++ [⟨px, py, pz⟩] <+: Lx := fun h => by have := HOK.out h; omega
      gi_wp2
      exact ⟨(KeepsOthers.setCell _ _ _).from _, rfl, .inl hno⟩
    by_cases h0 : pre.length = 0
    case pos =>
      have hn0 : (pre.length : Int) = 0 := by omega
      have hq := HL0.out h0
      cases hq
      by_cases v1 : a2 < py
      case pos =>
        have nv : ¬ py = a2 := by omega
        have hno : ¬ pre ++ [⟨px, py, pz⟩] <+: Lx := fun h => by have := HOK.out h; omega
        gi_wp2
        exact ⟨(KeepsOthers.setCell _ _ _).from _, rfl, .inl hno⟩
      have q1 : py = a2 := by omega
      subst py
      by_cases v2 : a3 < pz
      case pos =>
        have nv : ¬ pz = a3 := by omega
        have hno : ¬ pre ++ [⟨px, a2, pz⟩] <+: Lx := fun h => by have := HOK.out h; omega
        gi_wp2
        exact ⟨(KeepsOthers.setCell _ _ _).from _, rfl, .inl hno⟩
      have q2 : pz = a3 := by omega
      subst pz
      by_cases v3 : a1 < px
      case pos =>
        have nv : ¬ px = a1 := by omega
        have hno : ¬ pre ++ [⟨px, a2, a3⟩] <+: Lx := fun h => by have := HOK.out h; omega
        gi_wp2
        exact ⟨(KeepsOthers.setCell _ _ _).from _, rfl, .inl hno⟩
      have q3 : px = a1 := by omega
      subst px
      have hm : ¬ (pre.length : Int) + 1 = 5000 := by omega
      have HE : Hid (((pre ++ [(⟨a1, a2, a3⟩ : P3)]).length : Int) = 1) := by show _ = _; simp; omega
      gi_wp2
      refine ⟨((((KeepsOthers.setCell W ⟨w1.heap.size + 1 + 1, 0, none⟩ _).trans (KeepsOthers.setCell _ ⟨w1.heap.size + 1 + 1, 1, none⟩ _)).trans (KeepsOthers.setCell _ ⟨w1.heap.size + 1 + 1, 2, none⟩ _)).trans (KeepsOthers.setCell _ ⟨w1.heap.size + 1, 0, none⟩ _)).from _, (((Kp.set (by omega) (by omega)).trans (Kp.set (by omega) (by omega))).trans (Kp.set (by omega) (by omega))).trans (Kp.set (by omega) (by omega)), ⟨⟨⟨bx3 (bx3 (bx3 (bx3 bU (by omega)) (by omega)) (by omega)) (by omega), ?_⟩, ?_⟩, by rw [HE.out]; omega⟩, ((below_set3 hB (by omega)).setCell (p := ⟨w1.heap.size + 1, 0, none⟩) (by simp) _)⟩
      · rw [HE.out]
        exact Boxed.set _ (bx3 (bx3 (bx3 bN (by omega)) (by omega)) (by omega))
      · rw [lastOf_snoc]
        exact (Below.heap_setCell _ _ _ _ (by simp)).trans (set_three hL)
    have hn0 : ¬ (pre.length : Int) = 0 := by omega
    have hn1 : (0 : Int) < (pre.length : Int) := by omega
    by_cases v1 : ly < py
    case pos =>
      by_cases hm : (pre.length : Int) + 1 = 5000
      case pos =>
        gi_wp2
        exact ⟨(((((KeepsOthers.setCell W ⟨w1.heap.size + 1 + 1, 0, none⟩ _).trans (KeepsOthers.setCell _ ⟨w1.heap.size + 1 + 1, 1, none⟩ _)).trans (KeepsOthers.setCell _ ⟨w1.heap.size + 1 + 1, 2, none⟩ _)).trans (KeepsOthers.setCell _ ⟨w1.heap.size + 1, 0, none⟩ _)).trans (KeepsOthers.setCell _ ⟨w.heap.size + 1, 0, none⟩ _)).from _, rfl, .inr ⟨Boxed.set _ (bx3 (bx3 (bx3 (bx3 bR (by omega)) (by omega)) (by omega)) (by omega)), (HB1.out.trans (((below_set3 hB (by omega)).setCell (p := ⟨w1.heap.size + 1, 0, none⟩) (by simp) _).mono HB1.out.size)).setCell (p := ⟨w.heap.size + 1, 0, none⟩) (by simp) _⟩⟩
      have HE : Hid (((pre ++ [(⟨px, py, pz⟩ : P3)]).length : Int) = (pre.length : Int) + 1) := by show _ = _; simp
      gi_wp2
      refine ⟨((((KeepsOthers.setCell W ⟨w1.heap.size + 1 + 1, 0, none⟩ _).trans (KeepsOthers.setCell _ ⟨w1.heap.size + 1 + 1, 1, none⟩ _)).trans (KeepsOthers.setCell _ ⟨w1.heap.size + 1 + 1, 2, none⟩ _)).trans (KeepsOthers.setCell _ ⟨w1.heap.size + 1, 0, none⟩ _)).from _, (((Kp.set (by omega) (by omega)).trans (Kp.set (by omega) (by omega))).trans (Kp.set (by omega) (by omega))).trans (Kp.set (by omega) (by omega)), ⟨⟨⟨bx3 (bx3 (bx3 (bx3 bU (by omega)) (by omega)) (by omega)) (by omega), ?_⟩, ?_⟩, by rw [HE.out]; omega⟩, ((below_set3 hB (by omega)).setCell (p := ⟨w1.heap.size + 1, 0, none⟩) (by simp) _)⟩
      · rw [HE.out]
        exact Boxed.set _ (bx3 (bx3 (bx3 bN (by omega)) (by omega)) (by omega))
      · rw [lastOf_snoc]
        exact (Below.heap_setCell _ _ _ _ (by simp)).trans (set_three hL)
    by_cases v2 : py < ly
    case pos =>
      have nv : ¬ py = ly := by omega
      have hno : ¬ pre ++ [⟨px, py, pz⟩] <+: Lx := fun h => by have := HOK.out h; omega
      gi_wp2
      exact ⟨(KeepsOthers.setCell _ _ _).from _, rfl, .inl hno⟩
    have q1 : py = ly := by omega
    subst ly
    by_cases v3 : lz < pz
    case pos =>
      by_cases hm : (pre.length : Int) + 1 = 5000
      case pos =>
        gi_wp2
        exact ⟨(((((KeepsOthers.setCell W ⟨w1.heap.size + 1 + 1, 0, none⟩ _).trans (KeepsOthers.setCell _ ⟨w1.heap.size + 1 + 1, 1, none⟩ _)).trans (KeepsOthers.setCell _ ⟨w1.heap.size + 1 + 1, 2, none⟩ _)).trans (KeepsOthers.setCell _ ⟨w1.heap.size + 1, 0, none⟩ _)).trans (KeepsOthers.setCell _ ⟨w.heap.size + 1, 0, none⟩ _)).from _, rfl, .inr ⟨Boxed.set _ (bx3 (bx3 (bx3 (bx3 bR (by omega)) (by omega)) (by omega)) (by omega)), (HB1.out.trans (((below_set3 hB (by omega)).setCell (p := ⟨w1.heap.size + 1, 0, none⟩) (by simp) _).mono HB1.out.size)).setCell (p := ⟨w.heap.size + 1, 0, none⟩) (by simp) _⟩⟩
      have HE : Hid (((pre ++ [(⟨px, py, pz⟩ : P3)]).length : Int) = (pre.length : Int) + 1) := by show _ = _; simp
      gi_wp2
      refine ⟨((((KeepsOthers.setCell W ⟨w1.heap.size + 1 + 1, 0, none⟩ _).trans (KeepsOthers.setCell _ ⟨w1.heap.size + 1 + 1, 1, none⟩ _)).trans (KeepsOthers.setCell _ ⟨w1.heap.size + 1 + 1, 2, none⟩ _)).trans (KeepsOthers.setCell _ ⟨w1.heap.size + 1, 0, none⟩ _)).from _, (((Kp.set (by omega) (by omega)).trans (Kp.set (by omega) (by omega))).trans (Kp.set (by omega) (by omega))).trans (Kp.set (by omega) (by omega)), ⟨⟨⟨bx3 (bx3 (bx3 (bx3 bU (by omega)) (by omega)) (by omega)) (by omega), ?_⟩, ?_⟩, by rw [HE.out]; omega⟩, ((below_set3 hB (by omega)).setCell (p := ⟨w1.heap.size + 1, 0, none⟩) (by simp) _)⟩
      · rw [HE.out]
        exact Boxed.set _ (bx3 (bx3 (bx3 bN (by omega)) (by omega)) (by omega))
      · rw [lastOf_snoc]
        exact (Below.heap_setCell _ _ _ _ (by simp)).trans (set_three hL)
    by_cases v4 : pz < lz
    case pos =>
      have nv : ¬ pz = lz := by omega
      have hno : ¬ pre ++ [⟨px, py, pz⟩] <+: Lx := fun h => by have := HOK.out h; omega
      gi_wp2
      exact ⟨(KeepsOthers.setCell _ _ _).from _, rfl, .inl hno⟩
    have q2 : pz = lz := by omega
    subst lz
    by_cases v5 : lx < px
    case pos =>
      by_cases hm : (pre.length : Int) + 1 = 5000
      case pos =>
        gi_wp2
        exact ⟨(((((KeepsOthers.setCell W ⟨w1.heap.size + 1 + 1, 0, none⟩ _).trans (KeepsOthers.setCell _ ⟨w1.heap.size + 1 + 1, 1, none⟩ _)).trans (KeepsOthers.setCell _ ⟨w1.heap.size + 1 + 1, 2, none⟩ _)).trans (KeepsOthers.setCell _ ⟨w1.heap.size + 1, 0, none⟩ _)).trans (KeepsOthers.setCell _ ⟨w.heap.size + 1, 0, none⟩ _)).from _, rfl, .inr ⟨Boxed.set _ (bx3 (bx3 (bx3 (bx3 bR (by omega)) (by omega)) (by omega)) (by omega)), (HB1.out.trans (((below_set3 hB (by omega)).setCell (p := ⟨w1.heap.size + 1, 0, none⟩) (by simp) _).mono HB1.out.size)).setCell (p := ⟨w.heap.size + 1, 0, none⟩) (by simp) _⟩⟩
      have HE : Hid (((pre ++ [(⟨px, py, pz⟩ : P3)]).length : Int) = (pre.length : Int) + 1) := by show _ = _; simp
      gi_wp2
      refine ⟨((((KeepsOthers.setCell W ⟨w1.heap.size + 1 + 1, 0, none⟩ _).trans (KeepsOthers.setCell _ ⟨w1.heap.size + 1 + 1, 1, none⟩ _)).trans (KeepsOthers.setCell _ ⟨w1.heap.size + 1 + 1, 2, none⟩ _)).trans (KeepsOthers.setCell _ ⟨w1.heap.size + 1, 0, none⟩ _)).from _, (((Kp.set (by omega) (by omega)).trans (Kp.set (by omega) (by omega))).trans (Kp.set (by omega) (by omega))).trans (Kp.set (by omega) (by omega)), ⟨⟨⟨bx3 (bx3 (bx3 (bx3 bU (by omega)) (by omega)) (by omega)) (by omega), ?_⟩, ?_⟩, by rw [HE.out]; omega⟩, ((below_set3 hB (by omega)).setCell (p := ⟨w1.heap.size + 1, 0, none⟩) (by simp) _)⟩
      · rw [HE.out]
        exact Boxed.set _ (bx3 (bx3 (bx3 bN (by omega)) (by omega)) (by omega))
      · rw [lastOf_snoc]
        exact (Below.heap_setCell _ _ _ _ (by simp)).trans (set_three hL)
    have hno : ¬ pre ++ [⟨px, py, pz⟩] <+: Lx := fun h => by have := HOK.out h; omega
    gi_wp2
    exact ⟨(KeepsOthers.setCell _ _ _).from _, rfl, .inl hno⟩
  case done =>
    rintro D ys W hD rfl ⟨⟨⟨⟨bU, bN⟩, hL⟩, hp⟩, hB⟩ hK
    have hlen : ys.length = N := HLn.out
    rw [hlen] at bN hp
    have hcnt : countN a1 a2 a3 b1 b2 b3 = (N : Int) := by have := HCN.out; omega
    have hS4 := hS1.on hB (Array.getElem?_eq_some_iff.1 hS1).1
    have bR : Boxed W (w.heap.size + 1) 4 (.bool false) := (hB.block _ bR1.lt).trans bR1
    have HBW : Hid (Below w.heap.size w W) := HB1.out.trans (hB.mono HB1.out.size)
    have k1 := bN.lt
    have k2 := (Array.getElem?_eq_some_iff.1 hL).1
    have k3 := (Array.getElem?_eq_some_iff.1 hS4).1
    have k4 := bR.lt
    obtain ⟨s0, s1, s2, s3, s4, s5⟩ := hS4.cells
    have cU := bU.cell
    have cN := bN.cell
    have cR := bR.cell
    have fR := bR.frozen
    by_cases h0 : N = 0
    case pos =>
      have hz : (N : Int) = 0 := by omega
      rw [hz] at cN hcnt
      clear hz h0 hp hlen HCN HLn HRE
      generalize lastOf a1 a2 a3 ys = lq at hL
      obtain ⟨q1, q2, q3⟩ := lq
      dsimp only at hL
      have l0 := (cell_of_row W (w1.heap.size + 1 + 1) 0 _ 23 (0, 0) hL).trans rfl
      have l1 := (cell_of_row W (w1.heap.size + 1 + 1) 1 _ 23 (0, 0) hL).trans rfl
      have l2 := (cell_of_row W (w1.heap.size + 1 + 1) 2 _ 23 (0, 0) hL).trans rfl
      gi_wp2_with (fail)
      refine wpIn_wide.2 (wp_only ?_)
      have u0 := fun s : Since W => Since.cell cU s
      have u1 := fun s : Since W => Since.cell cN s
      have u2 := fun s : Since W => Since.cell s0 s
      have u3 := fun s : Since W => Since.cell s1 s
      have u4 := fun s : Since W => Since.cell s2 s
      have u5 := fun s : Since W => Since.cell s3 s
      have u6 := fun s : Since W => Since.cell s4 s
      have u7 := fun s : Since W => Since.cell s5 s
      have u8 := fun s : Since W => Since.cell l0 s
      have u9 := fun s : Since W => Since.cell l1 s
      have u10 := fun s : Since W => Since.cell l2 s
      refine wp_region_store (by kernel_rfl) rfl rfl (by kernel_rfl) (by kernel_rfl) (by kernel_rfl) ?_
      simp only [List.dropLast_cons_cons, List.dropLast_singleton]
      repeat (go_big_quiet_step (first | (go_at_call 18; exact Calls.since (count_c _ _ _ _ _ _ _))))
      refine wpQuiet_nil ?_
      rintro _ ⟨s, rfl⟩
      have rc := Since.cell cR s
      have rf := (s.bel.frozen (p := ⟨w.heap.size + 1, 0, none⟩) k4).trans fR
      go_wp2
      have hD5 := (Below.heap_setCell s.w ⟨w.heap.size + 1, 0, none⟩ (.bool true) D (by simp; omega)).trans ((s.bel.block D (Array.getElem?_eq_some_iff.1 hK).1).trans hK)
      gi_wp2
      refine ⟨by simp, .inl ⟨_, _, rfl, run_takeDeferred hD5, ?_⟩⟩
      exact ⟨_, res_bool' rfl rfl ((World.putObj_heap_other (by omega)).trans (Boxed.set _ ((s.bel.block _ bR.lt).trans bR))), rfl, ((HBW.out.trans (s.bel.mono HBW.out.size)).setCell (p := ⟨w.heap.size + 1, 0, none⟩) (by simp) _).trans (belowK_b (w := w1) HB1.out.size _ D _ _ (by omega) hD5 rfl rfl)⟩
    have hz : ¬ (N : Int) = 0 := by omega
    rw [HRE.out (by omega)] at hL
    dsimp only at hL
    generalize (N : Int) = m at cN hcnt hz
    have hzb : (m == 0) = false := by simp [hz]
    clear h0 hp hlen HCN HLn HRE
    have l0 := (cell_of_row W (w1.heap.size + 1 + 1) 0 _ 23 (0, 0) hL).trans rfl
    have l1 := (cell_of_row W (w1.heap.size + 1 + 1) 1 _ 23 (0, 0) hL).trans rfl
    have l2 := (cell_of_row W (w1.heap.size + 1 + 1) 2 _ 23 (0, 0) hL).trans rfl
    gi_wp2_with (fail)
    refine wpIn_wide.2 (wp_only ?_)
    have u0 := fun s : Since W => Since.cell cU s
    have u1 := fun s : Since W => Since.cell cN s
    have u2 := fun s : Since W => Since.cell s0 s
    have u3 := fun s : Since W => Since.cell s1 s
    have u4 := fun s : Since W => Since.cell s2 s
    have u5 := fun s : Since W => Since.cell s3 s
    have u6 := fun s : Since W => Since.cell s4 s
    have u7 := fun s : Since W => Since.cell s5 s
    have u8 := fun s : Since W => Since.cell l0 s
    have u9 := fun s : Since W => Since.cell l1 s
    have u10 := fun s : Since W => Since.cell l2 s
    refine wp_region_store (by kernel_rfl) rfl rfl (by kernel_rfl) (by kernel_rfl) (by kernel_rfl) ?_
    simp only [List.dropLast_cons_cons, List.dropLast_singleton]
    repeat (go_big_quiet_step (first | (go_at_call 18; exact Calls.since (count_c _ _ _ _ _ _ _))))
    refine wpQuiet_nil ?_
    rintro _ ⟨s, rfl⟩
    have rc := Since.cell cR s
    have rf := (s.bel.frozen (p := ⟨w.heap.size + 1, 0, none⟩) k4).trans fR
    go_wp2
    have hD5 := (Below.heap_setCell s.w ⟨w.heap.size + 1, 0, none⟩ (.bool true) D (by simp; omega)).trans ((s.bel.block D (Array.getElem?_eq_some_iff.1 hK).1).trans hK)
    gi_wp2
    refine ⟨by simp, .inl ⟨_, _, rfl, run_takeDeferred hD5, ?_⟩⟩
    exact ⟨_, res_bool' rfl rfl ((World.putObj_heap_other (by omega)).trans (Boxed.set _ ((s.bel.block _ bR.lt).trans bR))), rfl, ((HBW.out.trans (s.bel.mono HBW.out.size)).setCell (p := ⟨w.heap.size + 1, 0, none⟩) (by simp) _).trans (belowK_b (w := w1) HB1.out.size _ D _ _ (by omega) hD5 rfl rfl)⟩
  case stop =>
    rintro D c pre W hD hSp ⟨rfl, hh⟩ hK
    rcases hh with hno | ⟨bR, hB⟩
    · exact absurd hSp hno
    · gi_wp2
      refine ⟨by simp, .inl ⟨_, _, rfl, run_takeDeferred hK, ?_⟩⟩
      exact ⟨_, res_bool' rfl rfl ((World.putObj_heap_other (by omega)).trans bR), rfl, hB.trans (belowK_b (w := w1) HB1.out.size W D _ _ (by omega) hK rfl rfl)⟩

set_option maxRecDepth 100000 in
theorem gridRows_lifted (os : Os) (started : os.Started) (H : Type) (enc : TypeId × Value → H) :
    ReturnsInHanded {} Try.checked os 8 .any (Rows.gridRowsSpec.pre6 enc Try.prog Try.f8 Rows.gridRowsRow.domain false) (Rows.gridRowsSpec.post enc Try.prog Try.f8 false true false false) := by
  refine returnsInHanded_of_change (C := Try.checked) own started (by kernel_rfl) Try.func8
    (ChangeSpec.witness6 (enc := enc) (C := Try.checked) false ⟨#[], #[.agg #[.int .i64 0, .int .i64 0, .int .i64 0, .int .i64 0, .int .i64 0, .int .i64 0]], []⟩ 8 (by kernel_rfl) (by kernel_rfl) (by kernel_rfl) (by kernel_rfl)) ?_
  intro W base args ds gs before hval0 hW _ _
  have hval : ∀ (j : Nat) t v, Try.f8.params[j]? = some t → args[j]? = some v → Value.okWide Try.prog W .any base t v := hval0
  have hW' := hW
  obtain ⟨p, q, hA0, hV, rfl, hfz, hnd⟩ := hW
  have hA : DataW.TrodAll enc Try.prog W 0 (fun _ => true) true Try.f8.params.toList args.toList ds p := hA0
  rw [Try.params8] at hA hval
  obtain ⟨v0, vs0, d0, ds0, p0, q0, hargs, rfl, rfl, h0, r0⟩ := trodAll_cons hA
  obtain ⟨rfl, rfl, rfl⟩ := trodAll_nil r0
  obtain rfl : args = #[v0] := by cases args; simp_all
  obtain ⟨rfl, rfl⟩ := trodVars_none hV
  have lt0 : ∀ x ∈ p0, x.block < W.heap.size := by obtain ⟨m, hm⟩ := h0; exact DataW.trod_lt m _ _ _ hm
  obtain ⟨a1, a2, a3, b1, b2, b3, rfl, B_a1, B_a2, B_a3, B_b1, B_b2, B_b3⟩ := open_box (hval 0 33 v0 rfl rfl) h0
  clear hA0 hval0
  refine (gridRows_any a1 a2 a3 b1 b2 b3 W).mono fun e W' ⟨he, bel⟩ => ?_
  subst he
  exact ⟨_, rfl, _, _, _, [], _, [], hW', trodAll_mk1 (shut_bool Try.underlying4 _), (trodAll_cons_mk (Below.trod laidOut (by kernel_rfl) (of_decide_eq_true (by kernel_rfl)) h0 bel lt0) trodAll_mk0), rfl, bel.frame _, fun h => by cases h⟩

theorem gridRows_holds : Rows.GridRowsSaid :=
  OpenClaim.holds_of_wide 8 Try.f8 rfl rfl rfl rfl rfl rfl rfl ⟨rfl, rfl, rfl, rfl, rfl⟩ rfl rfl rfl rfl rfl (by kernel_rfl) Try.func8 (by kernel_rfl)
    (of_decide_eq_true (by kernel_rfl)) (by unfold Func.isWrapper; rw [if_neg (of_decide_eq_false (by kernel_rfl))]; exact ⟨rfl, rfl⟩)
    (fun os started H enc _ => gridRows_lifted os started H enc)
#print axioms gridRows_holds
end Go.Proofs.Ytbodopfghejoiaa
