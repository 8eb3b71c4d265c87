/-
  GridEach: a box is gone over cell by cell in the document's order, and may be left behind any number of cells.
-/
import Derived.Test.YtbodopfghejoiaaFrame
import Derived.Test.YtbodopfghejoiaaReach
import Derived.Test.YtbodopfghejoiaaRound
namespace Go.Proofs.Ytbodopfghejoiaa
open Go.ChangeShapes Go.WideShapes Go.ChangeAt Go.RowKit Go.BigFrame Go.Shelf

attribute [local go_sem] Oper.semAt_some

theorem res_bool {W : World} {fn : Func} {p : Tmp} {tmps : Array Value} {g : Nat} {b : Bool} (h : fn.results = #[.cell p 4]) (hp : tmps.getD p undef = .pointer (some ⟨g, 0, none⟩)) (hg : Boxed W g 4 (.bool b)) : (results fn tmps).run Try.prog W = .ok (.bool b) W := by
  have c := hg.cell
  have hp' : tmps[p]?.getD undef = .pointer (some ⟨g, 0, none⟩) := by simpa using hp
  simp [results, h, hp', asAddr, go_sem, c]
theorem ownsRow_on {W W' : World} {b e size k : Nat} {v : Value} {xs : List Value} (h : W.ownsRow b e size v k xs) (hB : Below W.heap.size W W') : W'.ownsRow b e size v k xs := by
  refine ⟨h.1, ?_⟩
  rcases h.2 with h0 | ⟨g, cap, cur, hv, hg, hb, rest⟩
  · exact .inl h0
  · exact .inr ⟨g, cap, cur, hv, hg, (hB.block g (Array.getElem?_eq_some_iff.1 hb).1).trans hb, rest⟩
theorem ownsRow_some {W : World} {b e size k : Nat} {v : Value} {xs : List Value} (h : W.ownsRow b e size v k xs) (hk : 0 < k) : ∃ g cap, v = .slice (some ⟨g, 0, none⟩) k cap := by
  rcases h.2 with ⟨_, h0⟩ | ⟨g, cap, _, rfl, _⟩
  · omega
  · exact ⟨g, cap, rfl⟩
theorem take_get (l : List P3) (T k : Nat) (p : P3) (hk : k < T) (h : l[k]? = some p) : (l.take T)[k]? = some p := by rw [List.getElem?_take_of_lt hk]; exact h
theorem not_prefix {l pre : List P3} {x : P3} (h : pre ++ [x] <+: l) : pre.length < l.length ∧ l[pre.length]? = some x := by
  obtain ⟨t, rfl⟩ := h
  simp
theorem prefix_next {l pre : List P3} {x : P3} (h : pre <+: l) (hx : l[pre.length]? = some x) : pre ++ [x] <+: l := by
  obtain ⟨t, rfl⟩ := h
  cases t with
  | nil => simp at hx
  | cons y t =>
    simp at hx
    subst hx
    exact ⟨t, by simp⟩
theorem new_three (w : World) (o1 o2 o3 : Obj) : (((w.alloc o1).alloc o2).alloc o3).heap[w.heap.size + 1 + 1]? = some o3 := by
  have := heap_alloc_new ((w.alloc o1).alloc o2) o3
  simpa only [World.size_alloc] using this

set_option maxRecDepth 100000 in
set_option maxHeartbeats 4000000 in
theorem gridEach_any (a1 a2 a3 b1 b2 b3 most : Int) (w : World) : Calls Try.prog 6 #[.agg #[.int .i64 a1, .int .i64 a2, .int .i64 a3, .int .i64 b1, .int .i64 b2, .int .i64 b3], .int .i64 most] w fun e w' => e = .returned (.bool true) ∧ Below w.heap.size w w' := by
  by_cases c0 : 1 ≤ most
  case neg =>
    refine (callsIn_wide (n := 6)).1 ?_
    refine callsIn_of_wp_marks Try.func6 rfl trivial ?_ rfl
    simp only [Try.ntmps6, List.size_toArray, List.length_cons, List.length_nil, Nat.reduceAdd, Nat.reduceSub, Array.replicate_succ, Array.replicate_zero, List.push_toArray, List.append_toArray, List.nil_append, List.cons_append]
    gi_wp2_with (fail)
    refine ⟨trivial, ?_⟩
    refine (callsIn_wide.2 (awake_c _)).mono ?_
    rintro e w1 ⟨rfl, hw1⟩
    have HB1 : Hid (Below w.heap.size w w1) := ((((Below.refl _ w).alloc (Nat.le_refl _) _).alloc (by simp) _).alloc (by simp; omega) _).trans (hw1.mono (by simp; omega))
    have hS1 : Six w1 w.heap.size a1 a2 a3 b1 b2 b3 := (hw1.block w.heap.size (by simp; omega)).trans ((Six.alloc (Six.alloc (Six.new w a1 a2 a3 b1 b2 b3) _) _))
    have bM1 : Boxed w1 (w.heap.size + 1) 3 (.int .i64 most) := (hw1.block (w.heap.size + 1) (by simp)).trans ((Below.heap_alloc _ _ _ (by simp)).trans (new_two w _ _))
    have bR1 : Boxed w1 (w.heap.size + 1 + 1) 4 (.bool false) := (hw1.block (w.heap.size + 1 + 1) (by simp)).trans (new_three w _ _ _)
    have hsz1 : w.heap.size + 3 ≤ w1.heap.size := by have := hw1.size; simp at this; omega
    clear hw1
    have cM := bM1.cell
    have cR := bR1.cell
    have fR := bR1.frozen
    gi_wp2
    exact ⟨_, res_bool rfl rfl (bR1.set _), rfl, HB1.out.setCell (p := ⟨w.heap.size + 1 + 1, 0, none⟩) (by simp; omega) _⟩
  by_cases c1 : most ≤ 5000
  case neg =>
    refine (callsIn_wide (n := 6)).1 ?_
    refine callsIn_of_wp_marks Try.func6 rfl trivial ?_ rfl
    simp only [Try.ntmps6, List.size_toArray, List.length_cons, List.length_nil, Nat.reduceAdd, Nat.reduceSub, Array.replicate_succ, Array.replicate_zero, List.push_toArray, List.append_toArray, List.nil_append, List.cons_append]
    gi_wp2_with (fail)
    refine ⟨trivial, ?_⟩
    refine (callsIn_wide.2 (awake_c _)).mono ?_
    rintro e w1 ⟨rfl, hw1⟩
    have HB1 : Hid (Below w.heap.size w w1) := ((((Below.refl _ w).alloc (Nat.le_refl _) _).alloc (by simp) _).alloc (by simp; omega) _).trans (hw1.mono (by simp; omega))
    have hS1 : Six w1 w.heap.size a1 a2 a3 b1 b2 b3 := (hw1.block w.heap.size (by simp; omega)).trans ((Six.alloc (Six.alloc (Six.new w a1 a2 a3 b1 b2 b3) _) _))
    have bM1 : Boxed w1 (w.heap.size + 1) 3 (.int .i64 most) := (hw1.block (w.heap.size + 1) (by simp)).trans ((Below.heap_alloc _ _ _ (by simp)).trans (new_two w _ _))
    have bR1 : Boxed w1 (w.heap.size + 1 + 1) 4 (.bool false) := (hw1.block (w.heap.size + 1 + 1) (by simp)).trans (new_three w _ _ _)
    have hsz1 : w.heap.size + 3 ≤ w1.heap.size := by have := hw1.size; simp at this; omega
    clear hw1
    have cM := bM1.cell
    have cR := bR1.cell
    have fR := bR1.frozen
    gi_wp2
    exact ⟨_, res_bool rfl rfl (bR1.set _), rfl, HB1.out.setCell (p := ⟨w.heap.size + 1 + 1, 0, none⟩) (by simp; omega) _⟩
  refine (callsIn_wide (n := 6)).1 ?_
  refine callsIn_of_wp_marks Try.func6 rfl trivial ?_ rfl
  simp only [Try.ntmps6, List.size_toArray, List.length_cons, List.length_nil, Nat.reduceAdd, Nat.reduceSub, Array.replicate_succ, Array.replicate_zero, List.push_toArray, List.append_toArray, List.nil_append, List.cons_append]
  gi_wp2_with (fail)
  refine ⟨trivial, ?_⟩
  refine (callsIn_wide.2 (awake_c _)).mono ?_
  rintro e w1 ⟨rfl, hw1⟩
  have HB1 : Hid (Below w.heap.size w w1) := ((((Below.refl _ w).alloc (Nat.le_refl _) _).alloc (by simp) _).alloc (by simp; omega) _).trans (hw1.mono (by simp; omega))
  have hS1 : Six w1 w.heap.size a1 a2 a3 b1 b2 b3 := (hw1.block w.heap.size (by simp; omega)).trans ((Six.alloc (Six.alloc (Six.new w a1 a2 a3 b1 b2 b3) _) _))
  have bM1 : Boxed w1 (w.heap.size + 1) 3 (.int .i64 most) := (hw1.block (w.heap.size + 1) (by simp)).trans ((Below.heap_alloc _ _ _ (by simp)).trans (new_two w _ _))
  have bR1 : Boxed w1 (w.heap.size + 1 + 1) 4 (.bool false) := (hw1.block (w.heap.size + 1 + 1) (by simp)).trans (new_three w _ _ _)
  have hsz1 : w.heap.size + 3 ≤ w1.heap.size := by have := hw1.size; simp at this; omega
  clear hw1
  have cM := bM1.cell
  have cR := bR1.cell
  have fR := bR1.frozen
  obtain ⟨s0, s1, s2, s3, s4, s5⟩ := hS1.cells
  gi_wp2_with (fail)
  refine ⟨trivial, ?_⟩
  refine (callsIn_wide.2 (reach_c _ _ _ _ _ _ _ c0 c1 _)).mono ?_
  rintro e w2 ⟨v, rfl, hrow, hw2⟩
  obtain ⟨ad, cap, rfl⟩ := lenOf_row hrow
  have hS2 : Six w2 w.heap.size a1 a2 a3 b1 b2 b3 := hS1.on hw2 (Array.getElem?_eq_some_iff.1 hS1).1
  have bM2 : Boxed w2 (w.heap.size + 1) 3 (.int .i64 most) := (hw2.block _ bM1.lt).trans bM1
  have bR2 : Boxed w2 (w.heap.size + 1 + 1) 4 (.bool false) := (hw2.block _ bR1.lt).trans bR1
  have HB2 : Hid (Below w.heap.size w w2) := HB1.out.trans (hw2.mono HB1.out.size)
  have hsz2 : w.heap.size + 3 ≤ w2.heap.size := Nat.le_trans hsz1 hw2.size
  clear s0 s1 s2 s3 s4 s5 cM cR fR hw2
  obtain ⟨s0, s1, s2, s3, s4, s5⟩ := (Six.alloc (Six.alloc hS2 (.cells #[.slice ad (eachN a1 a2 a3 b1 b2 b3 most) cap] 36)) (.cells #[.int .i64 0] 3)).cells
  generalize hT : eachN a1 a2 a3 b1 b2 b3 most = T at *
  gi_wp2_with (fail)
  refine ⟨trivial, ?_⟩
  refine (callsIn_wide.2 (each_c _ _ _ _ _ _ _)).mono ?_
  rintro e w3 ⟨rfl, rfl⟩
  clear s0 s1 s2 s3 s4 s5
  gi_wp2_with (fail)
  have hS3 : Six (((w2.alloc (.cells #[.slice ad T cap] 36)).alloc (.cells #[.int .i64 0] 3)).alloc (.cells #[.int .i64 a1, .int .i64 a2, .int .i64 a3, .int .i64 b1, .int .i64 b2, .int .i64 b3] 33)) (w2.heap.size + 1 + 1) a1 a2 a3 b1 b2 b3 := by
    have := Six.new ((w2.alloc (.cells #[.slice ad T cap] 36)).alloc (.cells #[.int .i64 0] 3)) a1 a2 a3 b1 b2 b3
    simpa only [World.size_alloc] using this
  have bW := ((Boxed.new w2 36 (.slice ad T cap)).alloc (.cells #[.int .i64 0] 3)).alloc (.cells #[.int .i64 a1, .int .i64 a2, .int .i64 a3, .int .i64 b1, .int .i64 b2, .int .i64 b3] 33)
  have bN := (Boxed.new (w2.alloc (.cells #[.slice ad T cap] 36)) 3 (.int .i64 0)).alloc (.cells #[.int .i64 a1, .int .i64 a2, .int .i64 a3, .int .i64 b1, .int .i64 b2, .int .i64 b3] 33)
  simp only [World.size_alloc] at bN
  have hB3 : Below w2.heap.size w2 (((w2.alloc (.cells #[.slice ad T cap] 36)).alloc (.cells #[.int .i64 0] 3)).alloc (.cells #[.int .i64 a1, .int .i64 a2, .int .i64 a3, .int .i64 b1, .int .i64 b2, .int .i64 b3] 33)) := (((Below.refl _ w2).alloc (Nat.le_refl _) _).alloc (by simp) _).alloc (by simp; omega) _
  have hsz : (((w2.alloc (.cells #[.slice ad T cap] 36)).alloc (.cells #[.int .i64 0] 3)).alloc (.cells #[.int .i64 a1, .int .i64 a2, .int .i64 a3, .int .i64 b1, .int .i64 b2, .int .i64 b3] 33)).heap.size = w2.heap.size + 3 := by simp
  generalize (((w2.alloc (.cells #[.slice ad T cap] 36)).alloc (.cells #[.int .i64 0] 3)).alloc (.cells #[.int .i64 a1, .int .i64 a2, .int .i64 a3, .int .i64 b1, .int .i64 b2, .int .i64 b3] 33)) = W0 at hS3 bW bN hB3 hsz ⊢
  have HTm : Hid (T = min (boxN a1 a2 a3 b1 b2 b3) most.toNat) := by rw [← hT]; rfl
  have HLn : Hid ((boxL a1 a2 a3 b1 b2 b3).length = boxN a1 a2 a3 b1 b2 b3) := boxL_length _ _ _ _ _ _
  have hst := each_stops 5 (by omega) (w2.heap.size + 1 + 1) W0.heap.size a1 a2 a3 b1 b2 b3 W0 (by omega) (Nat.le_refl _) hS3
  clear hT
  generalize boxN a1 a2 a3 b1 b2 b3 = N at hst HTm HLn
  generalize boxL a1 a2 a3 b1 b2 b3 = Lx at hst hrow HLn
  have o1 : OwnFrom W0.heap.size (fun (_ : List P3) W => Boxed W w2.heap.size 36 (.slice ad T cap)) := Own.from (boxed_own _ _ _) _
  have o3 : OwnFrom W0.heap.size (fun (_ : List P3) W => Boxed W (w2.heap.size + 1) 3 (.int .i64 (T : Int))) := Own.from (boxed_own _ _ _) _
  have oB : OwnFrom W0.heap.size (fun (_ : List P3) W => Below w2.heap.size w2 W) := ownFrom_below (Nat.le_refl _) (by omega)
  refine wpIn_rangeFunc_ownH rfl (by decide) (gf := 35) (lb := #[.pointer (some ⟨w2.heap.size + 1 + 1, 0, none⟩)]) rfl trivial (enters_of Try.func35 (by kernel_rfl) rfl)
    hst (fun h k => Kp.trans h k) (fun W l o o' _ h ho _ => Kp.book W l o o' h ho) (Below.refl _ _) (fun _ => rfl)
    (fun pre W => ((Boxed W (w2.heap.size + 1) 3 (.int .i64 (pre.length : Int)) ∧ Boxed W w2.heap.size 36 (.slice ad T cap)) ∧ (pre <+: Lx ∧ (pre.length : Int) < most)) ∧ Below w2.heap.size w2 W)
    (fun c q W => (c = .ret ∧ ¬ q <+: Lx) ∨ (c = .exit 0 ∧ (((Boxed W (w2.heap.size + 1) 3 (.int .i64 (T : Int)) ∧ Boxed W w2.heap.size 36 (.slice ad T cap)) ∧ True) ∧ Below w2.heap.size w2 W)))
    (OwnFrom.and (OwnFrom.and (OwnFrom.and (Own.from (boxed_own _ _ _) _) (Own.from (boxed_own _ _ _) _)) (ownFrom_pure _ _)) (ownFrom_below (Nat.le_refl _) (by omega)))
    (fun c s X Y row hs hg hr => hs.imp id (fun h => ⟨h.1, ⟨⟨o3 s X Y row h.2.1.1.1 hg hr, o1 s X Y row h.2.1.1.2 hg hr⟩, trivial⟩, oB s X Y row h.2.2 hg hr⟩))
    ⟨⟨⟨by simpa using bN, bW⟩, List.nil_prefix, by simp; omega⟩, hB3⟩
    (fun x a' W => ∃ Bx, W.heap[Bx]? = some (.cells #[.int .i64 x.x, .int .i64 x.y, .int .i64 x.z] 23 (0, 0)) ∧ a' = { tmps := #[Value.agg #[Value.int IntKind.i64 a1, Value.int IntKind.i64 a2, Value.int IntKind.i64 a3, Value.int IntKind.i64 b1, Value.int IntKind.i64 b2, Value.int IntKind.i64 b3], Value.int IntKind.i64 most, Value.pointer (some { block := w.heap.size, off := 0 }), Value.pointer (some { block := w.heap.size + 1, off := 0 }), Value.pointer (some { block := w.heap.size + 1 + 1, off := 0 }), Value.bool true, Value.pointer (some { block := w2.heap.size, off := 0 }), Value.pointer (some { block := w2.heap.size + 1, off := 0 }), .pointer (some ⟨Bx, 0, none⟩), Value.bool true, Value.bool true, Value.bool false, Value.bool false, Value.int IntKind.i64 most, Value.bool (decide (most < 1)), Value.bool (decide (most < 1)), Value.bool (decide (most < 1)), Value.int IntKind.i64 most, Value.bool (decide (5000 < most)), Value.bool (decide (most < 1) || decide (5000 < most)), undef, Value.agg #[Value.int IntKind.i64 a1, Value.int IntKind.i64 a2, Value.int IntKind.i64 a3, Value.int IntKind.i64 b1, Value.int IntKind.i64 b2, Value.int IntKind.i64 b3], Value.int IntKind.i64 most, Value.slice ad T cap, Value.agg #[Value.int IntKind.i64 a1, Value.int IntKind.i64 a2, Value.int IntKind.i64 a3, Value.int IntKind.i64 b1, Value.int IntKind.i64 b2, Value.int IntKind.i64 b3], Value.func (Fn.func 35) #[] #[Value.pointer (some { block := w2.heap.size + 1 + 1, off := 0 })], .agg #[.int .i64 x.x, .int .i64 x.y, .int .i64 x.z], undef, undef, undef, undef, undef, undef, undef, undef, undef, undef, undef, undef, undef, undef, undef, undef, undef, undef, undef, undef, undef, undef, undef, undef], defers := [] })
    (fun x a' _ X Y row hs hg hr => by
      obtain ⟨Bx, h1, h2⟩ := hs
      refine ⟨Bx, (hg.block Bx (Array.getElem?_eq_some_iff.1 h1).1 (fun e => ?_)).trans h1, h2⟩
      obtain ⟨_, o, ho, hc⟩ := hr Bx e.symm
      rw [h1] at ho
      cases ho
      cases hc)
    ?assign ?body ?done ?stop
  case assign =>
    rintro l pre x W K ⟨⟨⟨b1', b2'⟩, hp⟩, hB⟩ hK
    gi_wp2
    exact hK _ _ ((KeepsOthers.alloc _ _).from _) (Kp.grow (World.grownBy_alloc W _ none)) ⟨⟨⟨b1'.alloc _, b2'.alloc _⟩, hp⟩, hB.alloc hB.size _⟩ ⟨W.heap.size, heap_alloc_new W _, rfl⟩
  case body =>
    rintro l pre x a' W _ _ ⟨⟨⟨bN1, bW1⟩, hpre, hpm⟩, hB⟩ ⟨Bx, hP, rfl⟩ hlt
    have cN := bN1.cell
    have fN := bN1.frozen
    have cW := bW1.cell
    have bM := (hB.block _ bM2.lt).trans bM2
    have cM := Boxed.cell bM
    have bR : Boxed W (w.heap.size + 1 + 1) 4 (.bool false) := (hB.block _ bR2.lt).trans bR2
    have cR := bR.cell
    have fR := bR.frozen
    have x0 := (cell_of_row W Bx 0 _ 23 (0, 0) hP).trans rfl
    have x1 := (cell_of_row W Bx 1 _ 23 (0, 0) hP).trans rfl
    have x2 := (cell_of_row W Bx 2 _ 23 (0, 0) hP).trans rfl
    have hrowW := ownsRow_on hrow hB
    have hpl := hpre.length_le
    by_cases g0 : T ≤ pre.length
    case pos =>
      have g0' : (T : Int) ≤ (pre.length : Int) := by omega
      have hno : ¬ pre ++ [x] <+: Lx := fun h => by have := (not_prefix h).1; have := HTm.out; have := HLn.out; omega
      gi_wp2_with (fail)
      refine wpIn_region_round (by kernel_rfl) (by kernel_rfl) (by kernel_rfl) ?_
      repeat (go_big_quiet_step (fail))
      refine wpQuiet_nil ?_
      rintro _ ⟨nq, rfl⟩
      gi_wp2
      exact ⟨(keeps_drewN _ W nq).trans ((KeepsOthers.setCell _ _ _).from _), .inl ⟨rfl, hno⟩⟩
    have hkN : pre.length < Lx.length := by have := HTm.out; have := HLn.out; omega
    obtain ⟨y, hy⟩ : ∃ y, Lx[pre.length]? = some y := ⟨_, List.getElem?_eq_getElem hkN⟩
    obtain ⟨g, cap2, hv⟩ := ownsRow_some hrowW (by omega)
    cases hv
    have g0' : (pre.length : Int) < (T : Int) := by omega
    have g0n : (0 : Int) ≤ (pre.length : Int) := by omega
    obtain ⟨m0, m1, m2⟩ := flatP_get (Lx.take T) pre.length y (take_get Lx T _ y (by omega) hy)
    have y0 := (ownsRow_cell hrowW (pre.length * 3) (by omega)).trans m0
    have y1 := (ownsRow_cell hrowW (pre.length * 3 + 1) (by omega)).trans m1
    have y2 := (ownsRow_cell hrowW (pre.length * 3 + 2) (by omega)).trans m2
    clear m0 m1 m2
    have HNO : Hid (¬ (x = y) → ¬ pre ++ [x] <+: Lx) := fun hne h => hne (by have := (not_prefix h).2; rw [hy] at this; cases this; rfl)
    by_cases u0 : x.x = y.x
    case neg =>
      have hno := HNO.out (fun e => u0 (by rw [e]))
      gi_wp2_with (fail)
      refine wpIn_region_round (by kernel_rfl) (by kernel_rfl) (by kernel_rfl) ?_
      repeat (go_big_quiet_step (fail))
      refine wpQuiet_nil ?_
      rintro _ ⟨nq, rfl⟩
      gi_wp2
      exact ⟨(keeps_drewN _ W nq).trans ((KeepsOthers.setCell _ _ _).from _), .inl ⟨rfl, hno⟩⟩
    rw [← u0] at y0
    by_cases u1 : x.y = y.y
    case neg =>
      have hno := HNO.out (fun e => u1 (by rw [e]))
      clear u0
      gi_wp2_with (fail)
      refine wpIn_region_round (by kernel_rfl) (by kernel_rfl) (by kernel_rfl) ?_
      repeat (go_big_quiet_step (fail))
      refine wpQuiet_nil ?_
      rintro _ ⟨nq, rfl⟩
      gi_wp2
      exact ⟨(keeps_drewN _ W nq).trans ((KeepsOthers.setCell _ _ _).from _), .inl ⟨rfl, hno⟩⟩
    rw [← u1] at y1
    by_cases u2 : x.z = y.z
    case neg =>
      have hno := HNO.out (fun e => u2 (by rw [e]))
      clear u0 u1
      gi_wp2_with (fail)
      refine wpIn_region_round (by kernel_rfl) (by kernel_rfl) (by kernel_rfl) ?_
      repeat (go_big_quiet_step (fail))
      refine wpQuiet_nil ?_
      rintro _ ⟨nq, rfl⟩
      gi_wp2
      exact ⟨(keeps_drewN _ W nq).trans ((KeepsOthers.setCell _ _ _).from _), .inl ⟨rfl, hno⟩⟩
    rw [← u2] at y2
    have HXY : Hid (x = y) := by cases x; cases y; simp_all
    have hnext : pre ++ [x] <+: Lx := prefix_next hpre (by rw [HXY.out]; exact hy)
    clear u0 u1 u2
    by_cases hm : (pre.length : Int) + 1 = most
    · have hTv : Hid ((T : Int) = (pre.length : Int) + 1) := by show _ = _; have := HTm.out; omega
      gi_wp2_with (fail)
      refine wpIn_region_round (by kernel_rfl) (by kernel_rfl) (by kernel_rfl) ?_
      repeat (go_big_quiet_step (fail))
      refine wpQuiet_nil ?_
      rintro _ ⟨nq, rfl⟩
      gi_wp2
      refine ⟨(keeps_drewN _ W nq).trans ((KeepsOthers.setCell _ _ _).from _), .inr ⟨rfl, ⟨⟨?_, bW1.other (by omega) _⟩, trivial⟩, (below_drewN hB nq).setCell (p := ⟨w2.heap.size + 1, 0, none⟩) (by simp) _⟩⟩
      rw [hTv.out, hm]
      exact (show Boxed (W.drewN nq) (w2.heap.size + 1) 3 (.int .i64 (pre.length : Int)) from bN1).set _
    ·
      gi_wp2_with (fail)
      refine wpIn_region_round (by kernel_rfl) (by kernel_rfl) (by kernel_rfl) ?_
      repeat (go_big_quiet_step (fail))
      refine wpQuiet_nil ?_
      rintro _ ⟨nq, rfl⟩
      gi_wp2
      refine ⟨(keeps_drewN _ W nq).trans ((KeepsOthers.setCell _ _ _).from _), (Kp.drewN _ _ W nq).trans (Kp.set (by omega) (by omega)), ⟨⟨?_, bW1.other (by omega) _⟩, hnext, by simp; omega⟩, (below_drewN hB nq).setCell (p := ⟨w2.heap.size + 1, 0, none⟩) (by simp) _⟩
      have := (show Boxed (W.drewN nq) (w2.heap.size + 1) 3 (.int .i64 (pre.length : Int)) from bN1).set (.int .i64 ((pre.length : Int) + 1))
      simpa using this
  case done =>
    rintro D ys W hD rfl ⟨⟨⟨bN1, bW1⟩, _, hpm⟩, hB⟩ hK
    have hTN : T = ys.length := by have := HTm.out; have := HLn.out; omega
    rw [← hTN] at bN1 hpm
    have cN := bN1.cell
    have cW := bW1.cell
    have bR : Boxed W (w.heap.size + 1 + 1) 4 (.bool false) := (hB.block _ bR2.lt).trans bR2
    have cR := bR.cell
    have fR := bR.frozen
    gi_wp2
    refine ⟨by simp, .inl ⟨_, _, rfl, run_takeDeferred ((Below.heap_setCell W ⟨w.heap.size + 1 + 1, 0, none⟩ _ D (by simp; omega)).trans hK), ?_⟩⟩
    exact ⟨_, res_bool rfl rfl ((World.putObj_heap_other (by omega)).trans (bR.set _)), rfl, (HB2.out.trans (((hB.mono HB2.out.size).setCell (p := ⟨w.heap.size + 1 + 1, 0, none⟩) (by simp; omega) _))).trans (belowK_b (w := w2) HB2.out.size _ D _ _ (by omega) ((Below.heap_setCell W ⟨w.heap.size + 1 + 1, 0, none⟩ _ D (by simp; omega)).trans hK) rfl rfl)⟩
  case stop =>
    rintro D c pre W hD hSp (⟨rfl, hno⟩ | ⟨rfl, ⟨⟨bN1, bW1⟩, _⟩, hB⟩) hK
    · exact absurd hSp hno
    · have cN := bN1.cell
      have cW := bW1.cell
      have bR : Boxed W (w.heap.size + 1 + 1) 4 (.bool false) := (hB.block _ bR2.lt).trans bR2
      have cR := bR.cell
      have fR := bR.frozen
      gi_wp2
      refine ⟨by simp, .inl ⟨_, _, rfl, run_takeDeferred ((Below.heap_setCell W ⟨w.heap.size + 1 + 1, 0, none⟩ _ D (by simp; omega)).trans hK), ?_⟩⟩
      exact ⟨_, res_bool rfl rfl ((World.putObj_heap_other (by omega)).trans (bR.set _)), rfl, (HB2.out.trans (((hB.mono HB2.out.size).setCell (p := ⟨w.heap.size + 1 + 1, 0, none⟩) (by simp; omega) _))).trans (belowK_b (w := w2) HB2.out.size _ D _ _ (by omega) ((Below.heap_setCell W ⟨w.heap.size + 1 + 1, 0, none⟩ _ D (by simp; omega)).trans hK) rfl rfl)⟩

set_option maxRecDepth 100000 in
theorem gridEach_lifted (os : Os) (started : os.Started) (H : Type) (enc : TypeId × Value → H) :
    ReturnsInHanded {} Try.checked os 6 .any (Rows.gridEachSpec.pre6 enc Try.prog Try.f6 Rows.gridEachRow.domain false) (Rows.gridEachSpec.post enc Try.prog Try.f6 false true false false) := by
  refine returnsInHanded_of_change (C := Try.checked) own started (by kernel_rfl) Try.func6
    (ChangeSpec.witness6 (enc := enc) (C := Try.checked) false ⟨#[], #[.agg #[.int .i64 0, .int .i64 0, .int .i64 0, .int .i64 0, .int .i64 0, .int .i64 0], .int .i64 0], []⟩ 8 (by kernel_rfl) (by kernel_rfl) (by kernel_rfl) (by kernel_rfl)) ?_
  intro W base args ds gs before hval0 hW _ _
  have hval : ∀ (j : Nat) t v, Try.f6.params[j]? = some t → args[j]? = some v → Value.okWide Try.prog W .any base t v := hval0
  have hW' := hW
  obtain ⟨p, q, hA0, hV, rfl, hfz, hnd⟩ := hW
  have hA : DataW.TrodAll enc Try.prog W 0 (fun _ => true) true Try.f6.params.toList args.toList ds p := hA0
  rw [Try.params6] at hA hval
  obtain ⟨v0, vs0, d0, ds0, p0, q0, hargs, rfl, rfl, h0, r0⟩ := trodAll_cons hA
  obtain ⟨v1, vs1, d1, ds1, p1, q1, rfl, rfl, rfl, h1, r1⟩ := trodAll_cons r0
  obtain ⟨rfl, rfl, rfl⟩ := trodAll_nil r1
  obtain rfl : args = #[v0, v1] := by cases args; simp_all
  obtain ⟨rfl, rfl⟩ := trodVars_none hV
  have lt0 : ∀ x ∈ p0, x.block < W.heap.size := by obtain ⟨m, hm⟩ := h0; exact DataW.trod_lt m _ _ _ hm
  obtain ⟨a1, a2, a3, b1, b2, b3, rfl, B_a1, B_a2, B_a3, B_b1, B_b2, B_b3⟩ := open_box (hval 0 33 v0 rfl rfl) h0
  obtain ⟨most, rfl, rfl, rfl, w1⟩ := open_int Try.underlying3 (hval 1 3 v1 rfl rfl) h1
  have B_most := bd64 w1
  clear hA0 hval0
  refine (gridEach_any a1 a2 a3 b1 b2 b3 most W).mono fun e W' ⟨he, bel⟩ => ?_
  subst he
  exact ⟨_, rfl, _, _, _, [], _, [], hW', trodAll_mk1 (shut_bool Try.underlying4 _), (trodAll_cons_mk (Below.trod laidOut (by kernel_rfl) (of_decide_eq_true (by kernel_rfl)) h0 bel lt0) (trodAll_cons_mk (shut_int Try.underlying3 w1) trodAll_mk0)), rfl, bel.frame _, fun h => by cases h⟩

theorem gridEach_holds : Rows.GridEachSaid :=
  OpenClaim.holds_of_wide 6 Try.f6 rfl rfl rfl rfl rfl rfl rfl ⟨rfl, rfl, rfl, rfl, rfl⟩ rfl rfl rfl rfl rfl (by kernel_rfl) Try.func6 (by kernel_rfl)
    (of_decide_eq_true (by kernel_rfl)) (by unfold Func.isWrapper; rw [if_neg (of_decide_eq_false (by kernel_rfl))]; exact ⟨rfl, rfl⟩)
    (fun os started H enc _ => gridEach_lifted os started H enc)
#print axioms gridEach_holds
end Go.Proofs.Ytbodopfghejoiaa
