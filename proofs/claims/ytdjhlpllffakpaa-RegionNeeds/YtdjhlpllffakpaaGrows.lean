/-
  Rows of ints and of spans, slots in memory; bytes as strings.
-/
import Derived.Test.YtdjhlpllffakpaaGwrites
set_option maxRecDepth 20000
namespace Go.Proofs.Ytdjhlpllffakpaa
open Go.RowKit

/-! ### rows of ints -/
def ivals (xs : List Int) : Array Value := (xs.map (Value.int .i64)).toArray
def IRow (w : World) (b : Nat) (xs : List Int) : Prop := w.heap[b]? = some (.cells (ivals xs) 3 (0, 0))
theorem IRow.at {w : World} {b : Nat} {xs : List Int} (H : IRow w b xs) {i : Nat} (hi : i < xs.length) : w.cell? ⟨b, i, none⟩ = some (.int .i64 (xs.getD i 0)) := by
  rw [cell_of_row w b i _ 3 (0, 0) H, List.getD_eq_getElem?_getD, List.getElem?_eq_getElem hi]
  simp [ivals, hi]
theorem IRow.free {w : World} {b : Nat} {xs : List Int} (H : IRow w b xs) (i : Nat) : w.frozen? ⟨b, i, none⟩ = false := frozen_of_row w _ _ _ 3 H
theorem IRow.set {w : World} {b : Nat} {xs : List Int} (H : IRow w b xs) (i : Nat) (x : Int) : IRow (w.setCell ⟨b, i, none⟩ (.int .i64 x)) b (xs.set i x) := by
  unfold IRow
  rw [heap_setCell_same w b i _ 3 _ H]
  simp [ivals]
theorem IRow.lt {w : World} {b : Nat} {xs : List Int} (H : IRow w b xs) : b < w.heap.size := (Array.getElem?_eq_some_iff.1 H).1
theorem IRow.on {w w' : World} {b : Nat} {xs : List Int} (H : IRow w b xs) (hb : Below w.heap.size w w') : IRow w' b xs := (hb.block b H.lt).trans H
theorem info3 : (Try.prog.info? 3).map (fun i => (i.zero, i.size, i.bytes)) = some (some (.int .i64 0), 1, 8) := by kernel_rfl
theorem made_ints (n : Nat) : madeCells #[.int .i64 0] n = ivals (List.replicate n 0) := by
  apply Array.ext
  · simp [madeCells, ivals]
  · intro i h1 h2
    simp [madeCells, ivals]
    rw [Nat.mod_one]
    rfl
theorem wpList_make_ints (w : World) {ops : Array Oper} {rest : List Oper} {o : Oper} {a : Act} {Q : Exit → Act → World → Prop}
    (hg : o.guard = none) (l c : Operand) (hop : o.op = Op.makeSlice 33 l c) (L : Int) (n : Nat) (hl : a.eval l = .int .i64 L) (hc : a.eval c = .int .i64 L) (hL : L = (n : Int)) (hn : n ≤ 1000000000)
    (hK : ∀ w', Hid (IRow w' w.heap.size (List.replicate n 0)) → Below w.heap.size w w' → wpList Try.prog ops Q rest (a.put o.dst (.slice (some ⟨w.heap.size, 0, none⟩) n n)) w') :
    wpList Try.prog ops Q (o :: rest) a w := by
  obtain ⟨i, hi, hz0, hz1, hz2⟩ := info_parts info3
  refine wpList_make_full w hg l c 33 hop w.heap.size 3 i (.int .i64 0) 1 Try.underlying33 hi hz0 hz1 .i64 .i64 L L n hl hc hL hL (by rw [hz2]; omega) (by unfold maxLen; omega) (Nat.le_refl _) ?_
  intro w' hown hgrow
  refine hK w' ?_ ((Below.refl _ _).grown hgrow (Nat.le_refl _) (by simp))
  have := own_full hown
  show IRow _ _ _
  unfold IRow
  rw [this, Nat.mul_one]
  show some (Obj.cells (madeCells #[Value.int .i64 0] n) 3 (0, 0)) = _
  rw [made_ints]
/-! ### spans of one's own -/
def OwnSp (w : World) (lo : Nat) (a : Option Addr) (c : Nat) (l : List Sp) : Prop := w.ownsRow lo 41 2 (.slice a l.length c) l.length (spCells l)
theorem info41 : (Try.prog.info? 41).map (fun i => (i.zero, i.size, i.bytes)) = some (some (.agg #[.int .i64 0, .int .i64 0]), 2, 16) := by kernel_rfl
theorem spCells_append (l m : List Sp) : spCells (l ++ m) = spCells l ++ spCells m := by unfold spCells; rw [List.flatMap_append]
theorem spCells_one (l : List Sp) : ∀ u ∈ spCells l, u.oneCell' = true := by
  intro u hu
  unfold spCells at hu
  obtain ⟨x, _, hx⟩ := List.mem_flatMap.1 hu
  simp only [spc, List.mem_cons, List.not_mem_nil, or_false] at hx
  rcases hx with rfl | rfl <;> rfl
theorem OwnSp.at {w : World} {lo : Nat} {a : Option Addr} {c : Nat} {l : List Sp} (h : OwnSp w lo a c l) : SpsAt w a l := by
  rcases h.2 with ⟨_, h0⟩ | ⟨g, cap, cur, hv, _, _⟩
  · exact .inl (List.eq_nil_of_length_eq_zero h0)
  · simp only [Value.slice.injEq] at hv
    refine .inr ⟨g, 0, hv.1, fun j u hj => ?_⟩
    obtain ⟨hj', _⟩ := List.getElem?_eq_some_iff.1 hj
    rw [spCells_len] at hj'
    have h' : w.ownsRow lo 41 2 (.slice (some ⟨g, 0, none⟩) l.length c) l.length (spCells l) := by rw [← hv.1]; exact h
    have := World.ownsRow.cellAt h' j hj'
    rw [Nat.zero_add, this, hj]
/-- Spans are appended to spans of one's own. -/
theorem wpList_append_sps {w : World} {ops : Array Oper} {rest : List Oper} {o : Oper} {a : Act} {Q : Exit → Act → World → Prop} (hgd : o.guard = none) (s x : Operand)
    (ho : o.op = .call { callee := .builtin .append, args := #[s, x], argTypes := #[32, 32] }) (B : Nat) (av : Option Addr) (n cv : Nat) (L : List Sp) (hn : L.length = n) (hs : a.eval s = .slice av n cv) (hown : OwnSp w B av cv L)
    (sp : Option Addr) (m sc : Nat) (M : List Sp) (hm : M.length = m) (hx : a.eval x = .slice sp m sc) (hX : SpsAt w sp M) (hnil : sp = none → sc = 0) (hle : n + m ≤ 100000) (w0 : World) (hb : Below B w0 w) (hB : B ≤ w.heap.size)
    (h : ∀ a' c' w', Hid (OwnSp w' B a' c' (L ++ M)) → Below B w0 w' → B ≤ w'.heap.size → wpList Try.prog ops Q rest (a.put o.dst (.slice a' (n + m) c')) w') : wpList Try.prog ops Q (o :: rest) a w := by
  obtain ⟨i, hi, hz0, hz1, hz2⟩ := info_parts info41
  subst hn hm
  cases sp with
  | none =>
    obtain rfl := hnil rfl
    have hM : M = [] := by
      rcases hX with e | ⟨b, off, e, _⟩
      · exact e
      · cases e
    subst hM
    refine wpList_append_own_none hgd s x 32 ho B 41 i 2 Try.underlying32 hi _ _ _ hs hown hx ?_
    have := h av cv w (show OwnSp _ _ _ _ _ by simpa using hown) hb hB
    simpa using this
  | some ad =>
    refine wpList_append_own w hgd s x 32 ho B 41 i (.agg #[.int .i64 0, .int .i64 0]) 2 16 Try.underlying32 hi hz0 hz1 hz2 rfl (by decide) _ _ _ hs hown ad M.length sc (spCells M) hx (spCells_len M) ?_ (spCells_one M) (by unfold maxLen; omega) (by omega) hB ?_
    · intro j u hj
      rcases hX with rfl | ⟨b, off, e, hc⟩
      · simp [spCells] at hj
      · obtain rfl := Option.some.inj e
        rw [Addr.add_mid]
        exact hc j u hj
    · intro v' w' h1 h2 _
      have hb' : Below B w0 w' := hb.grown h2 hB (fun k hk => (World.ownsRow.lt hown k hk).1)
      have hB' : B ≤ w'.heap.size := Nat.le_trans hB h2.size
      have e : ∃ a' c', v' = .slice a' (L.length + M.length) c' := by
        rcases h1.2 with ⟨hv, hn⟩ | ⟨g, cap, _, hv, _⟩
        · exact ⟨none, 0, by rw [hv, hn]⟩
        · exact ⟨_, _, hv⟩
      obtain ⟨a', c', rfl⟩ := e
      refine h a' c' w' ?_ hb' hB'
      show OwnSp _ _ _ _ _
      unfold OwnSp
      rw [List.length_append, spCells_append]
      exact h1
/-! ### slots -/
structure Sl where
  a : Option Addr
  n : Nat
  c : Nat
  b : List Int
structure SlAt (w : World) (b off k : Nat) (o : Sl) : Prop where
  c0 : w.cell? ⟨b, off + k, none⟩ = some (.slice o.a o.n o.c)
  by_ : Bytes w o.a o.n o.b
  sz : o.n ≤ 140737488351232
def SlsAt (w : World) (a : Option Addr) (l : List Sl) : Prop := ∀ k (h : k < l.length), ∃ b off, a = some ⟨b, off, none⟩ ∧ SlAt w b off k l[k]
theorem SlAt.on {w w' : World} {b off k : Nat} {o : Sl} (H : SlAt w b off k o) (hb : Below w.heap.size w w') : SlAt w' b off k o := ⟨cell_below H.c0 hb, H.by_.on hb, H.sz⟩
theorem SlsAt.on {w w' : World} {a : Option Addr} {l : List Sl} (H : SlsAt w a l) (hb : Below w.heap.size w w') : SlsAt w' a l := fun k h => by
  obtain ⟨b, off, e, h1⟩ := H k h
  exact ⟨b, off, e, h1.on hb⟩
/-- Bytes as a string. -/
theorem conv_b {w : World} {a : Option Addr} {n cap : Nat} {bs : List Int} (h : Bytes w a n bs) : (convert 25 9 (.slice a n cap)).run Try.prog w = .ok (.string (strOfNums bs)) w := by
  refine conv_c ⟨h.n, fun k hk => ?_, fun k => ?_⟩
  · obtain ⟨b, off, z, e, hc, _, _, hk', hz⟩ := h.get k hk
    refine ⟨b, off, e, World.block_lt_of_cell? w _ hc, ?_⟩
    rw [hc, hz, List.getD_eq_getElem?_getD, List.getElem?_eq_getElem hk']
    rfl
  · rw [List.getD_eq_getElem?_getD]
    cases hx : bs[k]? with
    | none => simp
    | some z => exact h.fit z (List.mem_of_getElem? hx)
end Go.Proofs.Ytdjhlpllffakpaa
