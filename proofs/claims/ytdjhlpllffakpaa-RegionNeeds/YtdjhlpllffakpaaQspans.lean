/-
  The program's space: Spans, a loop over the free spans that appends each.
-/
import Derived.Test.YtdjhlpllffakpaaQroom
import Derived.Maps.AppendAt
set_option maxRecDepth 20000
namespace Go.Proofs.Ytdjhlpllffakpaa.Q
open Go.RowKit Go.Shelf

attribute [local go_sem] Oper.semAt_some

theorem cell_two_new (W : World) (T : TypeId) (u v : Value) : ∀ (j : Nat) (x : Value), [u, v][j]? = some x → (W.alloc (.cells #[u, v] T)).cell? (Addr.add ⟨W.heap.size, 0, none⟩ j) = some x := by
  intro j x h
  have e := cell_of_row (W.alloc (.cells #[u, v] T)) W.heap.size j _ T (0, 0) (heap_alloc_new W _)
  match j with
  | 0 => simpa [Addr.add] using e.trans h
  | 1 => simpa [Addr.add] using e.trans h
  | j + 2 => simp at h
theorem row_block {W : World} {lo n k : Nat} {e : TypeId} {v : Value} {xs : List Value} (h : W.ownsRow lo e n v k xs) : ∀ r, v.ownBlock = some r → lo ≤ r ∧ ∃ cs, W.heap[r]? = some (.cells cs e (0, 0)) := by
  intro r hr
  rcases h.2 with ⟨rfl, _⟩ | ⟨g', cap, cur, rfl, hlo, hb, _⟩
  · simp [Value.ownBlock] at hr
  · obtain rfl : g' = r := by simpa [Value.ownBlock] using hr
    exact ⟨hlo, _, hb⟩

set_option maxRecDepth 100000 in
set_option maxHeartbeats 2000000 in
theorem spans_c (g tb h : Nat) (T : List Bool) (w : World) (H : PS w g tb h T) :
    Calls Try.prog 40 #[.pointer (some ⟨g, 0, none⟩)] w fun e w' => ∃ (a : Option Addr) (c : Nat), e = .returned (.slice a (spansS h T).length c) ∧ Below w.heap.size w w' ∧ OwnSp w' w.heap.size a c (spansS h T) := by
  have hg : g < w.heap.size := (Array.getElem?_eq_some_iff.1 H.head).1
  have ht : tb < w.heap.size := (Array.getElem?_eq_some_iff.1 H.row).1
  obtain ⟨i0, hi, hz0, hz1, hz2⟩ := info_parts info41
  refine (callsIn_wide (n := 6)).1 ?_
  refine callsIn_of_wp_marks Try.func40 rfl trivial ?_ rfl
  simp only [Try.ntmps40, List.size_toArray, List.length_cons, List.length_nil, Nat.reduceAdd, Nat.reduceSub, Array.replicate_succ, Array.replicate_zero, List.push_toArray, List.append_toArray, List.nil_append, List.cons_append]
  gi_wp2_with (fail)
  have bN : Boxed (w.alloc (.cells #[.slice none 0 0] 32)) w.heap.size 32 (.slice none 0 0) := Boxed.new w 32 _
  have hb1 : Below w.heap.size w (w.alloc (.cells #[.slice none 0 0] 32)) := (Below.refl _ _).alloc (Nat.le_refl _) _
  have hS1 := H.on hb1
  have hsz : (w.alloc (.cells #[.slice none 0 0] 32)).heap.size = w.heap.size + 1 := by simp
  generalize w.alloc (.cells #[.slice none 0 0] 32) = w1 at *
  refine ⟨trivial, ?_⟩
  refine (callsIn_wide.2 (gaps_c g w1)).mono ?_
  rintro e w2 ⟨rfl, rfl⟩
  have hB2 : (w1.alloc (.cells #[.pointer (some ⟨g, 0, none⟩)] 85)).heap[w.heap.size + 1]? = some (.cells #[.pointer (some ⟨g, 0, none⟩)] 85 (0, 0)) := by rw [← hsz]; exact heap_alloc_new w1 _
  have hS2 := hS1.on ((Below.refl _ w1).alloc (Nat.le_refl _) (.cells #[.pointer (some ⟨g, 0, none⟩)] 85))
  have bN2 := bN.alloc (.cells #[.pointer (some ⟨g, 0, none⟩)] 85)
  have hb2 : Below w.heap.size w (w1.alloc (.cells #[.pointer (some ⟨g, 0, none⟩)] 85)) := hb1.alloc (by omega) _
  have hsz2 : (w1.alloc (.cells #[.pointer (some ⟨g, 0, none⟩)] 85)).heap.size = w.heap.size + 2 := by simp [hsz]
  rw [hsz]
  generalize w1.alloc (.cells #[.pointer (some ⟨g, 0, none⟩)] 85) = W0 at *
  clear bN hb1 hS1 H
  gi_wp2_with (fail)
  have hst := gaps_stops 5 (by omega) (w.heap.size + 1) g tb h T W0 hB2 hS2
  refine wpIn_rangeFunc_ownH rfl (by decide) (gf := 53) (lb := #[.pointer (some ⟨w.heap.size + 1, 0, none⟩)]) rfl trivial (enters_of Try.func53 (by kernel_rfl) rfl)
    hst (fun h k => Kq.trans h k) (fun W l o o' _ h ho _ => Kq.book W l o o' h ho) (Below.refl _ _) (fun _ => rfl)
    (fun pre W => (∃ v, Boxed W w.heap.size 32 v ∧ W.ownsRow w.heap.size 41 2 v pre.length (spCells (qs pre)) ∧ True) ∧ Boxed W (w.heap.size + 1) 85 (.pointer (some ⟨g, 0, none⟩)) ∧ Below w.heap.size w W)
    (fun _ _ _ => False)
    (OwnFrom.and (Own.from (holdsRow_own w.heap.size w.heap.size 32 41 2 (fun pre : List Q => pre.length) (fun pre => spCells (qs pre)) (fun _ _ => True)) _) (OwnFrom.and (Own.from (boxed_own (w.heap.size + 1) 85 (fun _ : List Q => .pointer (some ⟨g, 0, none⟩))) _) (ownFrom_below (Nat.le_refl _) (by omega))))
    (fun _ _ _ _ _ hs _ _ => hs)
    ⟨⟨_, bN2, World.ownsRow_nil _ _ _ _, trivial⟩, hB2, hb2⟩
    (fun x a' W => ∃ Bx, W.heap[Bx]? = some (.cells #[.int .i64 (x.f : Int), .int .i64 (x.m : Int)] 41 (0, 0)) ∧ a' = { tmps := #[Value.pointer (some { block := g, off := 0 }), undef, Value.slice none 0 0, Value.pointer (some { block := w.heap.size, off := 0 }), .pointer (some ⟨Bx, 0, none⟩), Value.pointer (some { block := g, off := 0 }), Value.func (Fn.func 53) #[] #[Value.pointer (some { block := w.heap.size + 1, off := 0 })], .agg #[.int .i64 (x.f : Int), .int .i64 (x.m : Int)], undef, undef, undef, undef, undef], defers := [] })
    (fun x a' _ X Y row hs hg hr => by
      obtain ⟨Bx, h1, h2⟩ := hs
      refine ⟨Bx, (hg.block Bx (Array.getElem?_eq_some_iff.1 h1).1 (fun e => ?_)).trans h1, h2⟩
      obtain ⟨_, o, ho, hc⟩ := hr Bx e.symm
      rw [h1] at ho
      cases ho
      cases hc)
    ?assign ?body ?done ?stop
  case assign =>
    rintro l pre x W K ⟨⟨v, hv, hrow, _⟩, hb, hB⟩ hK
    gi_wp2
    exact hK _ _ ((KeepsOthers.alloc _ _).from _) (Kq.grow (World.grownBy_alloc W _ none)) ⟨⟨v, hv.alloc _, hrow.alloc _, trivial⟩, hb.alloc _, hB.alloc hB.size _⟩ ⟨W.heap.size, heap_alloc_new W _, rfl⟩
  case body =>
    rintro l pre x a' W _ _ ⟨⟨v, hv, hrow, _⟩, hb, hB⟩ ⟨Bx, hP, rfl⟩ hlt
    have hc := hv.cell
    have x0 : W.cell? ⟨Bx, 0, none⟩ = some (.int .i64 (x.f : Int)) := (cell_of_row W _ 0 _ 41 (0, 0) hP).trans rfl
    have x1 : W.cell? ⟨Bx, 1, none⟩ = some (.int .i64 (x.m : Int)) := (cell_of_row W _ 1 _ 41 (0, 0) hP).trans rfl
    gi_wp2_with (gi_at_builtin; refine wpListIn_append_own _ rfl _ _ 32 rfl w.heap.size 41 i0 (.agg #[.int .i64 0, .int .i64 0]) 2 16 Try.underlying32 hi hz0 hz1 hz2 rfl (by decide) _ _ _ rfl (hrow.alloc _) ⟨W.heap.size, 0, none⟩ 1 1 [.int .i64 (x.f : Int), .int .i64 (x.m : Int)] rfl rfl (cell_two_new _ _ _ _) (by simp [Value.oneCell']) (by simp [maxLen]; omega) (by omega) (by have := hB.size; simp; omega) ?_; intro v' w3 hown' hgrow _; obtain ⟨g', cap', rfl⟩ := ownsRow_succ hown'; obtain ⟨hv1, hv2, hr2, hk2, hb2'⟩ := hv.appended (by decide) hrow hB.size (by omega) hown' hgrow; have hc1 := hv1.cell; have hf1 := hv1.frozen)
    refine ⟨hk2.from _, ((Kq.grow (World.grownBy_alloc W _ none)).trans (Kq.row hgrow (fun r hr => ?_))).trans (Kq.set (by omega)), ⟨_, hv2, ?_, trivial⟩, ?_, hB.trans hb2'⟩
    · obtain ⟨h1, cs, h2⟩ := row_block (hrow.alloc (.cells #[.int .i64 (x.f : Int), .int .i64 (x.m : Int)] 41)) r hr
      refine ⟨fun e => ?_, by omega, by omega⟩
      rw [e, show (W.alloc _).heap[w.heap.size + 1]? = _ from hb.alloc _] at h2
      cases h2
    · rw [qs_snoc, spCells_snoc, List.length_append]
      exact hr2
    · exact ((hb.alloc _).kept hgrow (Boxed.not_row hb (by decide) hrow)).other (by omega) _
  case done =>
    rintro D ys W hD hq ⟨⟨v, hv, hrow, _⟩, hb, hB⟩ hK
    have hc := hv.cell
    gi_wp2
    refine ⟨by simp, .inl ⟨_, _, rfl, run_takeDeferred hK, ?_⟩⟩
    have hlen : ys.length = (spansS h T).length := by rw [← hq, qs_len]
    rw [hq, hlen] at hrow
    have hR := ownsRow_putObj hrow (.deferred none) hK rfl
    have hBF := hB.trans (belowK_b (w := w) (Nat.le_refl _) W D _ (.deferred none) (by omega) hK rfl rfl)
    refine ⟨_, results_tmp rfl _ _ _, ?_⟩
    rcases hR.2 with ⟨rfl, h0⟩ | ⟨g', cap, cur, rfl, _⟩
    · refine ⟨none, 0, ?_, hBF, ?_⟩
      · rw [h0]; rfl
      · unfold OwnSp; rw [h0]; rw [h0] at hR; exact hR
    · exact ⟨_, cap, rfl, hBF, hR⟩
  case stop =>
    rintro D c pre W _ _ h _
    exact h.elim
end Go.Proofs.Ytdjhlpllffakpaa.Q
