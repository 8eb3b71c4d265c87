/-
  Rows of chunks that are gathered by append.
-/
import Derived.Test.YtpfhgkgkbefigaaCpw
set_option maxRecDepth 20000
namespace Go.Proofs.Ytpfhgkgkbefigaa
open Go.RowKit Go.Maps

/-- The cells of chunks. -/
def acells (l : List (Int × Int)) : List Value := l.flatMap fun p => [.int .i64 p.1, .int .i64 p.2]
theorem acells_len (l : List (Int × Int)) : (acells l).length = l.length * 2 := by
  induction l with
  | nil => rfl
  | cons p l ih =>
    show ([_, _] ++ acells l).length = _
    rw [List.length_append, ih, List.length_cons]
    simp
    omega
theorem acells_append (a b : List (Int × Int)) : acells (a ++ b) = acells a ++ acells b := by simp [acells]
theorem acells_at : ∀ (l : List (Int × Int)) (k : Nat) (h : k < l.length), (acells l)[k * 2]? = some (.int .i64 l[k].1) ∧ (acells l)[k * 2 + 1]? = some (.int .i64 l[k].2)
  | p :: l, 0, _ => ⟨rfl, rfl⟩
  | p :: l, k + 1, h => by
    have ih := acells_at l k (by simpa using h)
    show ([_, _] ++ acells l)[(k + 1) * 2]? = _ ∧ ([_, _] ++ acells l)[(k + 1) * 2 + 1]? = _
    rw [show (k + 1) * 2 = 2 + k * 2 by omega, show 2 + k * 2 + 1 = 2 + (k * 2 + 1) by omega]
    simp only [List.getElem_cons_succ]
    refine ⟨?_, ?_⟩
    · rw [List.getElem?_append_right (by simp)]; simpa using ih.1
    · rw [List.getElem?_append_right (by simp)]; simpa using ih.2
/-- A row of chunks at B or above. -/
def ARow (B : Nat) (w : World) (av : Option Addr) (cv : Nat) (l : List (Int × Int)) : Prop := w.ownsRow B 31 2 (.slice av l.length cv) l.length (acells l)
section
variable {B : Nat} {w w' : World} {av : Option Addr} {cv : Nat} {l : List (Int × Int)}
theorem ARow.nil (B : Nat) (w : World) : ARow B w none 0 [] := ⟨rfl, .inl ⟨rfl, rfl⟩⟩
theorem ARow.blk {g : Nat} (h : ARow B w (some ⟨g, 0, none⟩) cv l) : ∃ cur, w.heap[g]? = some (.cells cur 31 (0, 0)) ∧ B ≤ g := by
  rcases h.2 with ⟨e2, _⟩ | ⟨g', _, cur, e2, hB, hg', _⟩
  · simp at e2
  · simp only [Value.slice.injEq, Option.some.injEq, Addr.mk.injEq] at e2
    rw [e2.1.1]
    exact ⟨cur, hg', hB⟩
theorem ARow.form (h : ARow B w av cv l) : (av = none ∧ l = []) ∨ ∃ g, av = some ⟨g, 0, none⟩ := by
  rcases h.2 with ⟨e2, e3⟩ | ⟨g', _, cur, e2, hB, hg', _⟩
  · simp only [Value.slice.injEq] at e2
    exact .inl ⟨e2.1, List.eq_nil_of_length_eq_zero e3⟩
  · simp only [Value.slice.injEq] at e2
    exact .inr ⟨g', e2.1⟩
theorem ARow.own (h : ARow B w av cv l) {g : Nat} (e : Value.ownBlock (.slice av l.length cv) = some g) : av = some ⟨g, 0, none⟩ := by
  rcases h.form with ⟨rfl, _⟩ | ⟨g', rfl⟩
  · simp [Value.ownBlock] at e
  · simp [Value.ownBlock] at e
    rw [e]
theorem ARow.same (h : ARow B w av cv l) (e : ∀ g, av = some ⟨g, 0, none⟩ → w'.heap[g]? = w.heap[g]?) : ARow B w' av cv l := by
  refine ⟨h.1, ?_⟩
  rcases h.2 with h1 | ⟨g, cap', cur, hv, hb, hg, r⟩
  · exact .inl h1
  · refine .inr ⟨g, cap', cur, hv, hb, ?_, r⟩
    simp only [Value.slice.injEq] at hv
    rw [e g hv.1]
    exact hg
theorem ARow.below (h : ARow B w av cv l) (hb : Below w.heap.size w w') : ARow B w' av cv l := h.same (fun g e => by
  subst e
  obtain ⟨cur, hg, _⟩ := h.blk
  exact hb.block g (Array.getElem?_eq_some_iff.1 hg).1)
theorem ARow.keep {T : Obj → Bool} {B' : Nat} (h : ARow B w av cv l) (hk : KeepT T B' w w') (hT : ∀ cs fz, T (.cells cs 31 fz) = false) : ARow B w' av cv l := h.same (fun g e => by
  subst e
  obtain ⟨cur, hg, _⟩ := h.blk
  exact (hk.typ g _ hg (hT _ _)).trans hg.symm)
theorem ARow.base {B' : Nat} (h : ARow B w av cv l) (hB : B' ≤ B) : ARow B' w av cv l := by
  refine ⟨h.1, ?_⟩
  rcases h.2 with h1 | ⟨g, cap', cur, hv, hb, r⟩
  · exact .inl h1
  · exact .inr ⟨g, cap', cur, hv, Nat.le_trans hB hb, r⟩
theorem ARow.cell {g : Nat} (h : ARow B w (some ⟨g, 0, none⟩) cv l) {k : Nat} (hk : k < l.length) : w.cell? ⟨g, k * 2, none⟩ = some (.int .i64 l[k].1) ∧ w.cell? ⟨g, k * 2 + 1, none⟩ = some (.int .i64 l[k].2) := by
  have ha := acells_at l k hk
  have hc := h.cells (g := g) rfl
  have h1 := hc _ _ ha.1
  have h2 := hc _ _ ha.2
  rw [Addr.add_lit, Nat.zero_add] at h1 h2
  exact ⟨h1, h2⟩
end
theorem info31 : (Try.prog.info? 31).map (fun i => (i.zero, i.size, i.bytes)) = some (some (.agg #[.int .i64 0, .int .i64 0]), 2, 16) := by kernel_rfl
/-- append of one chunk. -/
theorem wpList_append_at {w : World} {ops : Array Oper} {rest : List Oper} {o : Oper} {a : Act} {Q : Exit → Act → World → Prop} (hgd : o.guard = none) (s x : Operand)
    (ho : o.op = .call { callee := .builtin .append, args := #[s, x], argTypes := #[40, 40] }) (B : Nat) (av : Option Addr) (cv : Nat) (l : List (Int × Int)) (hs : a.eval s = .slice av l.length cv) (hown : ARow B w av cv l)
    (b' sc : Nat) (X Z : Int) (hx : a.eval x = .slice (some ⟨b', 0, none⟩) 1 sc) (hX : w.heap[b']? = some (.cells #[.int .i64 X, .int .i64 Z] 31 (0, 0))) (hle : l.length + 1 ≤ 3000000) (hB : B ≤ w.heap.size)
    (h : ∀ a' c' w', ARow B w' a' c' (l ++ [(X, Z)]) → w.grownBy w' (Value.ownBlock (.slice av l.length cv)) → wpList Try.prog ops Q rest (a.put o.dst (.slice a' (l.length + 1) c')) w') : wpList Try.prog ops Q (o :: rest) a w := by
  obtain ⟨i, hi, hz0, hz1, hz2⟩ := info_parts info31
  refine wpList_append_own w hgd s x 40 ho B 31 i _ 2 16 Try.underlying40 hi hz0 hz1 hz2 rfl (by decide) _ _ _ hs hown ⟨b', 0, none⟩ 1 sc [.int .i64 X, .int .i64 Z] hx rfl ?_ (by intro u hu; simp at hu; rcases hu with rfl | rfl <;> rfl) (by unfold maxLen; omega) (by omega) hB ?_
  · intro j u hj
    rw [Addr.add_lit, Nat.zero_add, cell_of_row w b' j _ 31 (0, 0) hX]
    simpa using hj
  · intro v' w' h1 h2 _
    have e : ∃ a' c', v' = .slice a' (l.length + 1) c' := by
      rcases h1.2 with ⟨hv, hn⟩ | ⟨g, cap, _, hv, _⟩
      · omega
      · exact ⟨_, _, hv⟩
    obtain ⟨a', c', rfl⟩ := e
    refine h a' c' w' ?_ h2
    unfold ARow
    rw [acells_append, List.length_append, List.length_singleton]
    exact h1
/-- What is a row of chunks. -/
def is31 : Obj → Bool
  | .cells _ t _ => t == 31
  | _ => false
theorem ARow.grown {B B' : Nat} {w w' : World} {av : Option Addr} {cv : Nat} {l : List (Int × Int)} (h : ARow B w av cv l) (hg : w.grownBy w' (Value.ownBlock (.slice av l.length cv))) (hB : B' ≤ B) : KeepT is31 B' w w' := by
  refine ⟨hg.os, hg.tape, hg.output, hg.size, fun k hk hs => hg.block k hs (fun e => ?_), fun k o ho ht => (hg.block k (Array.getElem?_eq_some_iff.1 ho).1 (fun e => ?_)).trans ho⟩
  · have := h.own e.symm
    subst this
    obtain ⟨cur, _, hb⟩ := h.blk
    omega
  · have := h.own e.symm
    subst this
    obtain ⟨cur, hc, hb⟩ := h.blk
    rw [ho] at hc
    cases hc
    cases ht
theorem KeepT.grown_new {T : Obj → Bool} {B : Nat} {w w1 w2 : World} {row : Option Nat} (h : KeepT T B w w1) (hg : w1.grownBy w2 row) (hr : ∀ g, row = some g → w.heap.size ≤ g) : KeepT T B w w2 := by
  have blk : ∀ k, k < w.heap.size → w2.heap[k]? = w1.heap[k]? := fun k hk => hg.block k (Nat.lt_of_lt_of_le hk h.size) (fun e => by have := hr k e.symm; omega)
  exact ⟨hg.os.trans h.os, hg.tape.trans h.tape, hg.output.trans h.output, Nat.le_trans h.size hg.size, fun k hk hs => (blk k hs).trans (h.low k hk hs), fun k o ho ht => (blk k (Array.getElem?_eq_some_iff.1 ho).1).trans (h.typ k o ho ht)⟩
end Go.Proofs.Ytpfhgkgkbefigaa
