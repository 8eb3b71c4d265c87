/-
  The program's space: Room and Largest, each a loop over the free spans.
-/
import Derived.Test.YtffhnecdmdmmkaaPgaps
import Derived.Lib.MinMax
set_option maxRecDepth 20000
namespace Go.Proofs.Ytffhnecdmdmmkaa
open Go.RowKit Go.Shelf

attribute [local go_sem] Oper.semAt_some

set_option maxHeartbeats 1000000 in
theorem gaps_c (g : Nat) (w : World) : Calls Try.prog 23 #[.pointer (some ⟨g, 0, none⟩)] w fun e w' => e = .returned (.func (.func 26) #[] #[.pointer (some ⟨w.heap.size, 0, none⟩)]) ∧ w' = w.alloc (.cells #[.pointer (some ⟨g, 0, none⟩)] 23) := by
  have hmf : ∀ w, Sem.run Try.prog (Instr.makeFunc (.func 26) #[] #[.pointer (some ⟨w.heap.size, 0, none⟩)]) w = .ok (.func (.func 26) #[] #[.pointer (some ⟨w.heap.size, 0, none⟩)]) w := fun w => by rfl
  go_enter Try.func23, Try.ntmps23
  go_wp2
  go_ret
  exact ⟨rfl, rfl⟩

/-- A range over the free spans, for every body that leaves the space alone. -/
theorem gaps_stops (n : Nat) (hn : 1 ≤ n) (B g tb h : Nat) (T : List Bool) (w : World) (hB : w.heap[B]? = some (.cells #[.pointer (some ⟨g, 0, none⟩)] 23 (0, 0))) (hS : PS w g tb h T) :
    SeqStopsK Fence.wide n Try.prog 26 #[.pointer (some ⟨B, 0, none⟩)] (fun x : Q => #[Q.val x]) (Kq B g tb) (fun xs => qs xs = spansS h T) (fun pre => qs pre <+: spansS h T) 4096 w := fun l J Jx W hW _ _ hY h0 =>
  gaps1_c n hn l B g tb h T J Jx W hY ((hW.block B (Array.getElem?_eq_some_iff.1 hB).1).trans hB) (hS.on hW) h0
theorem room_qs (l : List Q) : roomS (qs l) ≤ l.length * 4096 := by
  induction l with
  | nil => simp [qs, roomS]
  | cons q l ih =>
    have := q.hm
    have e : roomS (qs (q :: l)) = q.m + roomS (qs l) := by simp [qs, roomS]
    rw [e, List.length_cons, Nat.add_mul]
    omega
theorem room_snoc (l : List Q) (q : Q) : roomS (qs (l ++ [q])) = roomS (qs l) + q.m := by simp [qs, roomS]
theorem large_snoc (l : List Q) (q : Q) : largeS (qs (l ++ [q])) = max (largeS (qs l)) q.m := by simp [qs, largeS]
theorem large_qs (l : List Q) : largeS (qs l) ≤ 4096 := by
  rcases (large_fold (qs l) 0).2.2 with h | ⟨x, hx, h⟩
  · unfold largeS; omega
  · unfold largeS
    rw [← h]
    simp only [qs, List.mem_map] at hx
    obtain ⟨q, _, rfl⟩ := hx
    exact q.hm

set_option maxRecDepth 100000 in
set_option maxHeartbeats 2000000 in
theorem room_c (g tb h : Nat) (T : List Bool) (w : World) (H : PS w g tb h T) :
    Calls Try.prog 11 #[.pointer (some ⟨g, 0, none⟩)] w fun e w' => e = .returned (.int .i64 (roomS (spansS h T) : Int)) ∧ Below w.heap.size w w' := by
  have hg : g < w.heap.size := (Array.getElem?_eq_some_iff.1 H.head).1
  have ht : tb < w.heap.size := (Array.getElem?_eq_some_iff.1 H.row).1
  refine (callsIn_wide (n := 6)).1 ?_
  refine callsIn_of_wp_marks Try.func11 rfl trivial ?_ rfl
  simp only [Try.ntmps11, List.size_toArray, List.length_cons, List.length_nil, Nat.reduceAdd, Nat.reduceSub, Array.replicate_succ, Array.replicate_zero, List.push_toArray, List.append_toArray, List.nil_append, List.cons_append]
  gi_wp2_with (fail)
  have bN : Boxed (w.alloc (.cells #[.int .i64 0] 3)) w.heap.size 3 (.int .i64 0) := Boxed.new w 3 _
  have hb1 : Below w.heap.size w (w.alloc (.cells #[.int .i64 0] 3)) := (Below.refl _ _).alloc (Nat.le_refl _) _
  have hS1 := H.on hb1
  have hsz : (w.alloc (.cells #[.int .i64 0] 3)).heap.size = w.heap.size + 1 := by simp
  generalize w.alloc (.cells #[.int .i64 0] 3) = w1 at *
  refine ⟨trivial, ?_⟩
  refine (callsIn_wide.2 (gaps_c g w1)).mono ?_
  rintro e w2 ⟨rfl, rfl⟩
  have hB2 : (w1.alloc (.cells #[.pointer (some ⟨g, 0, none⟩)] 23)).heap[w.heap.size + 1]? = some (.cells #[.pointer (some ⟨g, 0, none⟩)] 23 (0, 0)) := by rw [← hsz]; exact heap_alloc_new w1 _
  have hS2 := hS1.on ((Below.refl _ w1).alloc (Nat.le_refl _) (.cells #[.pointer (some ⟨g, 0, none⟩)] 23))
  have bN2 := bN.alloc (.cells #[.pointer (some ⟨g, 0, none⟩)] 23)
  have hb2 : Below w.heap.size w (w1.alloc (.cells #[.pointer (some ⟨g, 0, none⟩)] 23)) := hb1.alloc (by omega) _
  have hsz2 : (w1.alloc (.cells #[.pointer (some ⟨g, 0, none⟩)] 23)).heap.size = w.heap.size + 2 := by simp [hsz]
  rw [hsz]
  generalize w1.alloc (.cells #[.pointer (some ⟨g, 0, none⟩)] 23) = W0 at *
  clear bN hb1 hS1 H
  have Hb2 : Hid (Below w.heap.size w W0) := hb2
  gi_wp2_with (fail)
  have hst := gaps_stops 5 (by omega) (w.heap.size + 1) g tb h T W0 hB2 hS2
  refine wpIn_rangeFunc_ownH rfl (by decide) (gf := 26) (lb := #[.pointer (some ⟨w.heap.size + 1, 0, none⟩)]) rfl trivial (enters_of Try.func26 (by kernel_rfl) rfl)
    hst (fun h k => Kq.trans h k) (fun W l o o' _ h ho _ => Kq.book W l o o' h ho) (Below.refl _ _) (fun _ => rfl)
    (fun pre W => Boxed W w.heap.size 3 (.int .i64 (roomS (qs pre) : Int)) ∧ Below w.heap.size w W)
    (fun _ _ _ => False)
    (OwnFrom.and (Own.from (boxed_own w.heap.size 3 (fun pre : List Q => .int .i64 (roomS (qs pre) : Int))) _) (ownFrom_below (Nat.le_refl _) (by omega)))
    (fun _ _ _ _ _ hs _ _ => hs)
    ⟨bN2, hb2⟩
    (fun x a' W => ∃ Bx, W.heap[Bx]? = some (.cells #[.int .i64 (x.f : Int), .int .i64 (x.m : Int)] 34 (0, 0)) ∧ a' = { tmps := #[Value.pointer (some { block := g, off := 0 }), undef, Value.int IntKind.i64 0, Value.pointer (some { block := w.heap.size, off := 0 }), .pointer (some ⟨Bx, 0, none⟩), Value.pointer (some { block := g, off := 0 }), Value.func (Fn.func 26) #[] #[Value.pointer (some { block := w.heap.size + 1, off := 0 })], .agg #[.int .i64 (x.f : Int), .int .i64 (x.m : Int)], undef, undef, undef, undef, undef], defers := [] })
    (fun x a' _ X Y row hs hg hr => by
      obtain ⟨Bx, h1, h2⟩ := hs
      refine ⟨Bx, (hg.block Bx (Array.getElem?_eq_some_iff.1 h1).1 (fun e => ?_)).trans h1, h2⟩
      obtain ⟨_, o, ho, hc⟩ := hr Bx e.symm
      rw [h1] at ho
      cases ho
      cases hc)
    ?assign ?body ?done ?stop
  case assign =>
    rintro l pre x W K ⟨hv, hB⟩ hK
    gi_wp2
    exact hK _ _ ((KeepsOthers.alloc _ _).from _) (Kq.grow (World.grownBy_alloc W _ none)) ⟨hv.alloc _, hB.alloc hB.size _⟩ ⟨W.heap.size, heap_alloc_new W _, rfl⟩
  case body =>
    rintro l pre x a' W _ _ ⟨hv, hB⟩ ⟨Bx, hP, rfl⟩ hlt
    have hc := hv.cell
    have hfz := hv.frozen
    have x1 : W.cell? ⟨Bx, 1, none⟩ = some (.int .i64 (x.m : Int)) := (cell_of_row W _ 1 _ 34 (0, 0) hP).trans rfl
    have hbd : roomS (qs pre) ≤ 16777216 := (Nat.le_trans (room_qs pre) (by omega))
    have hm := x.hm
    have HV : Hid (Boxed W w.heap.size 3 (.int .i64 (roomS (qs pre) : Int))) := hv
    have HBl : Hid (Below w.heap.size w W) := hB
    have HE : Hid ((roomS (qs (pre ++ [x])) : Int) = (roomS (qs pre) : Int) + (x.m : Int)) := by show _ = _; rw [room_snoc]; omega
    have HR : Hid (∀ y : Int, y = (roomS (qs pre) : Int) + (x.m : Int) → (KeepsFrom W0.heap.size W (W.setCell ⟨w.heap.size, 0, none⟩ (.int .i64 y)) ∧ Kq (w.heap.size + 1) g tb W (W.setCell ⟨w.heap.size, 0, none⟩ (.int .i64 y)) ∧ Boxed (W.setCell ⟨w.heap.size, 0, none⟩ (.int .i64 y)) w.heap.size 3 (.int .i64 (roomS (qs (pre ++ [x])) : Int)) ∧ Below w.heap.size w (W.setCell ⟨w.heap.size, 0, none⟩ (.int .i64 y)))) := by
      rintro y rfl
      refine ⟨(KeepsOthers.from ⟨by simp [World.setCell], fun k o hk ho => ?_⟩ _), Kq.set (by omega), ?_, HBl.out.setCell (p := ⟨w.heap.size, 0, none⟩) (Nat.le_refl _) _⟩
      · refine (Below.heap_setCell W ⟨w.heap.size, 0, none⟩ _ k (fun e => ?_)).trans hk
        simp only at e
        rw [e, show W.heap[w.heap.size]? = _ from HV.out] at hk
        cases hk
        cases ho
      · rw [HE.out]; exact HV.out.set _
    clear hv hB HE
    generalize roomS (qs pre) = r at hc hbd HR
    gi_wp2
    exact HR.out _ (by first | rfl | go_num | (simp; done))
  case done =>
    rintro D ys W hD hq ⟨hv, hB⟩ hK
    have hc := hv.cell
    rw [hq] at hc
    have HBl : Hid (Below w.heap.size w W) := hB
    clear hv hB hq
    gi_wp2
    refine ⟨by simp, .inl ⟨_, _, rfl, run_takeDeferred hK, ?_⟩⟩
    exact ⟨_, results_tmp rfl _ _ _, rfl, HBl.out.trans (belowK_b (w := w) (Nat.le_refl _) W D _ _ (by omega) hK rfl rfl)⟩
  case stop =>
    rintro D c pre W _ _ h _
    exact h.elim

set_option maxRecDepth 100000 in
set_option maxHeartbeats 2000000 in
theorem large_c (g tb h : Nat) (T : List Bool) (w : World) (H : PS w g tb h T) :
    Calls Try.prog 13 #[.pointer (some ⟨g, 0, none⟩)] w fun e w' => e = .returned (.int .i64 (largeS (spansS h T) : Int)) ∧ Below w.heap.size w w' := by
  have hg : g < w.heap.size := (Array.getElem?_eq_some_iff.1 H.head).1
  have ht : tb < w.heap.size := (Array.getElem?_eq_some_iff.1 H.row).1
  refine (callsIn_wide (n := 6)).1 ?_
  refine callsIn_of_wp_marks Try.func13 rfl trivial ?_ rfl
  simp only [Try.ntmps13, List.size_toArray, List.length_cons, List.length_nil, Nat.reduceAdd, Nat.reduceSub, Array.replicate_succ, Array.replicate_zero, List.push_toArray, List.append_toArray, List.nil_append, List.cons_append]
  gi_wp2_with (fail)
  have bN : Boxed (w.alloc (.cells #[.int .i64 0] 3)) w.heap.size 3 (.int .i64 0) := Boxed.new w 3 _
  have hb1 : Below w.heap.size w (w.alloc (.cells #[.int .i64 0] 3)) := (Below.refl _ _).alloc (Nat.le_refl _) _
  have hS1 := H.on hb1
  have hsz : (w.alloc (.cells #[.int .i64 0] 3)).heap.size = w.heap.size + 1 := by simp
  generalize w.alloc (.cells #[.int .i64 0] 3) = w1 at *
  refine ⟨trivial, ?_⟩
  refine (callsIn_wide.2 (gaps_c g w1)).mono ?_
  rintro e w2 ⟨rfl, rfl⟩
  have hB2 : (w1.alloc (.cells #[.pointer (some ⟨g, 0, none⟩)] 23)).heap[w.heap.size + 1]? = some (.cells #[.pointer (some ⟨g, 0, none⟩)] 23 (0, 0)) := by rw [← hsz]; exact heap_alloc_new w1 _
  have hS2 := hS1.on ((Below.refl _ w1).alloc (Nat.le_refl _) (.cells #[.pointer (some ⟨g, 0, none⟩)] 23))
  have bN2 := bN.alloc (.cells #[.pointer (some ⟨g, 0, none⟩)] 23)
  have hb2 : Below w.heap.size w (w1.alloc (.cells #[.pointer (some ⟨g, 0, none⟩)] 23)) := hb1.alloc (by omega) _
  have hsz2 : (w1.alloc (.cells #[.pointer (some ⟨g, 0, none⟩)] 23)).heap.size = w.heap.size + 2 := by simp [hsz]
  rw [hsz]
  generalize w1.alloc (.cells #[.pointer (some ⟨g, 0, none⟩)] 23) = W0 at *
  clear bN hb1 hS1 H
  have Hb2 : Hid (Below w.heap.size w W0) := hb2
  gi_wp2_with (fail)
  have hst := gaps_stops 5 (by omega) (w.heap.size + 1) g tb h T W0 hB2 hS2
  refine wpIn_rangeFunc_ownH rfl (by decide) (gf := 26) (lb := #[.pointer (some ⟨w.heap.size + 1, 0, none⟩)]) rfl trivial (enters_of Try.func26 (by kernel_rfl) rfl)
    hst (fun h k => Kq.trans h k) (fun W l o o' _ h ho _ => Kq.book W l o o' h ho) (Below.refl _ _) (fun _ => rfl)
    (fun pre W => Boxed W w.heap.size 3 (.int .i64 (largeS (qs pre) : Int)) ∧ Below w.heap.size w W)
    (fun _ _ _ => False)
    (OwnFrom.and (Own.from (boxed_own w.heap.size 3 (fun pre : List Q => .int .i64 (largeS (qs pre) : Int))) _) (ownFrom_below (Nat.le_refl _) (by omega)))
    (fun _ _ _ _ _ hs _ _ => hs)
    ⟨bN2, hb2⟩
    (fun x a' W => ∃ Bx, W.heap[Bx]? = some (.cells #[.int .i64 (x.f : Int), .int .i64 (x.m : Int)] 34 (0, 0)) ∧ a' = { tmps := #[Value.pointer (some { block := g, off := 0 }), undef, Value.int IntKind.i64 0, Value.pointer (some { block := w.heap.size, off := 0 }), .pointer (some ⟨Bx, 0, none⟩), Value.pointer (some { block := g, off := 0 }), Value.func (Fn.func 26) #[] #[Value.pointer (some { block := w.heap.size + 1, off := 0 })], .agg #[.int .i64 (x.f : Int), .int .i64 (x.m : Int)], undef, undef, undef, undef, undef], defers := [] })
    (fun x a' _ X Y row hs hg hr => by
      obtain ⟨Bx, h1, h2⟩ := hs
      refine ⟨Bx, (hg.block Bx (Array.getElem?_eq_some_iff.1 h1).1 (fun e => ?_)).trans h1, h2⟩
      obtain ⟨_, o, ho, hc⟩ := hr Bx e.symm
      rw [h1] at ho
      cases ho
      cases hc)
    ?assign ?body ?done ?stop
  case assign =>
    rintro l pre x W K ⟨hv, hB⟩ hK
    gi_wp2
    exact hK _ _ ((KeepsOthers.alloc _ _).from _) (Kq.grow (World.grownBy_alloc W _ none)) ⟨hv.alloc _, hB.alloc hB.size _⟩ ⟨W.heap.size, heap_alloc_new W _, rfl⟩
  case body =>
    rintro l pre x a' W _ _ ⟨hv, hB⟩ ⟨Bx, hP, rfl⟩ hlt
    have hc := hv.cell
    have hfz := hv.frozen
    have x1 : W.cell? ⟨Bx, 1, none⟩ = some (.int .i64 (x.m : Int)) := (cell_of_row W _ 1 _ 34 (0, 0) hP).trans rfl
    have hbd : largeS (qs pre) ≤ 4096 := large_qs pre
    have hm := x.hm
    have HV : Hid (Boxed W w.heap.size 3 (.int .i64 (largeS (qs pre) : Int))) := hv
    have HBl : Hid (Below w.heap.size w W) := hB
    have HE : Hid ((largeS (qs (pre ++ [x])) : Int) = max (largeS (qs pre) : Int) (x.m : Int)) := by show _ = _; rw [large_snoc]; omega
    have HR : Hid (∀ y : Int, y = max (largeS (qs pre) : Int) (x.m : Int) → (KeepsFrom W0.heap.size W (W.setCell ⟨w.heap.size, 0, none⟩ (.int .i64 y)) ∧ Kq (w.heap.size + 1) g tb W (W.setCell ⟨w.heap.size, 0, none⟩ (.int .i64 y)) ∧ Boxed (W.setCell ⟨w.heap.size, 0, none⟩ (.int .i64 y)) w.heap.size 3 (.int .i64 (largeS (qs (pre ++ [x])) : Int)) ∧ Below w.heap.size w (W.setCell ⟨w.heap.size, 0, none⟩ (.int .i64 y)))) := by
      rintro y rfl
      refine ⟨(KeepsOthers.from ⟨by simp [World.setCell], fun k o hk ho => ?_⟩ _), Kq.set (by omega), ?_, HBl.out.setCell (p := ⟨w.heap.size, 0, none⟩) (Nat.le_refl _) _⟩
      · refine (Below.heap_setCell W ⟨w.heap.size, 0, none⟩ _ k (fun e => ?_)).trans hk
        simp only at e
        rw [e, show W.heap[w.heap.size]? = _ from HV.out] at hk
        cases hk
        cases ho
      · rw [HE.out]; exact HV.out.set _
    clear hv hB HE
    generalize largeS (qs pre) = r at hc hbd HR
    gi_wp2
    exact HR.out _ (by first | rfl | go_num | (simp; done))
  case done =>
    rintro D ys W hD hq ⟨hv, hB⟩ hK
    have hc := hv.cell
    rw [hq] at hc
    have HBl : Hid (Below w.heap.size w W) := hB
    clear hv hB hq
    gi_wp2
    refine ⟨by simp, .inl ⟨_, _, rfl, run_takeDeferred hK, ?_⟩⟩
    exact ⟨_, results_tmp rfl _ _ _, rfl, HBl.out.trans (belowK_b (w := w) (Nat.le_refl _) W D _ _ (by omega) hK rfl rfl)⟩
  case stop =>
    rintro D c pre W _ _ h _
    exact h.elim
end Go.Proofs.Ytffhnecdmdmmkaa
