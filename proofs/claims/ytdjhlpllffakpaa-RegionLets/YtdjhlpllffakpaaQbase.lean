/-
  What the walks of the program's space share.
-/
import Derived.Test.YtdjhlpllffakpaaProg
import Derived.WalkKit
import Derived.WalkLawsBesides
import Derived.WalkSpells
import Derived.Below
import Derived.Deep.MidRow
import Derived.Deep.OwnRows
import Derived.Deep.WholeRow
import Derived.Laws.AppendOwnNone
import Derived.Lib.Walk
import Derived.BigQuiet
import Derived.Test.YtdjhlpllffakpaaSmath
import Derived.Laws.OwnMore
import Derived.Deep.AppendLies
set_option maxRecDepth 20000
namespace Go.Proofs.Ytdjhlpllffakpaa.Q
open Go.RowKit


theorem ret_int {k : IntKind} {a b : Int} (h : a = b) : Ending.returned (.int k a) = .returned (.int k b) := by rw [h]
theorem ret_bool {a b : Bool} (h : a = b) : Ending.returned (.bool a) = .returned (.bool b) := by rw [h]
def I64 (x : Int) : Prop := -9223372036854775808 ≤ x ∧ x ≤ 9223372036854775807
/-- Just block g is another one. -/
structure Only (g : Nat) (w w' : World) : Prop where
  os : w'.os = w.os
  tape : w'.tape = w.tape
  output : w'.output = w.output
  size : w'.heap.size = w.heap.size
  block : ∀ k, k ≠ g → w'.heap[k]? = w.heap[k]?
theorem Only.refl (g : Nat) (w : World) : Only g w w := ⟨rfl, rfl, rfl, rfl, fun _ _ => rfl⟩
theorem Only.set {g : Nat} {a w : World} (h : Only g a w) (k : Nat) (v : Value) : Only g a (w.setCell ⟨g, k, none⟩ v) :=
  ⟨h.os, h.tape, h.output, by rw [← h.size]; simp [World.setCell], fun j hj => (Below.heap_setCell w ⟨g, k, none⟩ v j hj).trans (h.block j hj)⟩
theorem Only.below {g B : Nat} {w w' : World} (h : Only g w w') (hB : B ≤ g) : Below B w w' :=
  ⟨h.os, h.tape, h.output, Nat.le_of_eq h.size.symm, fun k hk => h.block k (by omega)⟩
theorem Only.drewN {g : Nat} {a w : World} (h : Only g a w) (n : Nat) : Only g a (w.drewN n) := ⟨h.os, h.tape, h.output, h.size, h.block⟩
/-- Just blocks of F, and new ones, are others. -/
structure Chg (F : Nat → Prop) (w w' : World) : Prop where
  os : w'.os = w.os
  tape : w'.tape = w.tape
  output : w'.output = w.output
  size : w.heap.size ≤ w'.heap.size
  block : ∀ k, k < w.heap.size → ¬ F k → w'.heap[k]? = w.heap[k]?
theorem Chg.refl (F : Nat → Prop) (w : World) : Chg F w w := ⟨rfl, rfl, rfl, Nat.le_refl _, fun _ _ _ => rfl⟩
theorem Chg.trans {F G : Nat → Prop} {a b c : World} (h : Chg F a b) (k : Chg G b c) (hG : ∀ j, G j → F j ∨ a.heap.size ≤ j) : Chg F a c :=
  ⟨k.os.trans h.os, k.tape.trans h.tape, k.output.trans h.output, Nat.le_trans h.size k.size, fun j hj hf => by
    rw [k.block j (Nat.lt_of_lt_of_le hj h.size) (fun hg => (hG j hg).elim hf (fun h1 => by omega))]
    exact h.block j hj hf⟩
theorem Chg.of_below {F : Nat → Prop} {w w' : World} (h : Below w.heap.size w w') : Chg F w w' := ⟨h.os, h.tape, h.output, h.size, fun k hk _ => h.block k hk⟩
theorem Chg.below {F : Nat → Prop} {w w' : World} {B : Nat} (h : Chg F w w') (hF : ∀ k, F k → B ≤ k) (hB : B ≤ w.heap.size) : Below B w w' :=
  ⟨h.os, h.tape, h.output, h.size, fun k hk => h.block k (by omega) (fun hf => by have := hF k hf; omega)⟩

theorem cell_on {w w' : World} {b j : Nat} {v : Value} (hb : Below w.heap.size w w') (hv : w.cell? ⟨b, j, none⟩ = some v) : w'.cell? ⟨b, j, none⟩ = some v := by
  rw [← hv]
  exact World.cell?_of_block (a := ⟨b, j, none⟩) (hb.block b (World.block_lt_of_cell? w _ hv))
/-- May a span be, and are all of it so? -/
def mayB (h : Nat) (T : List Bool) (f m : Int) (b : Bool) : Bool := decide (1 ≤ m ∧ (h : Int) ≤ f ∧ f < (T.length : Int) ∧ m ≤ (T.length : Int) - f) && allS T f.toNat m.toNat b
/-- A row of bools. -/
def bvals (T : List Bool) : Array Value := (T.map Value.bool).toArray
/-- The document's space. -/
structure RS (w : World) (g tb h : Nat) (T : List Bool) : Prop where
  head : w.heap[g]? = some (.cells #[.int .i64 (h : Int), .slice (some ⟨tb, 0, none⟩) T.length T.length] 50 (0, 0))
  row : w.heap[tb]? = some (.cells (bvals T) 4 (0, 0))
  ne : tb ≠ g
  le : h ≤ T.length
  few : T.length ≤ 4096
theorem RS.cells {w : World} {g tb h : Nat} {T : List Bool} (H : RS w g tb h T) : w.cell? ⟨g, 0, none⟩ = some (.int .i64 (h : Int)) ∧ w.cell? ⟨g, 1, none⟩ = some (.slice (some ⟨tb, 0, none⟩) T.length T.length) := by
  refine ⟨?_, ?_⟩
  · rw [cell_of_row w g 0 _ 50 (0, 0) H.head]; rfl
  · rw [cell_of_row w g 1 _ 50 (0, 0) H.head]; rfl
theorem RS.at {w : World} {g tb h : Nat} {T : List Bool} (H : RS w g tb h T) {i : Nat} (hi : i < T.length) : w.cell? ⟨tb, i, none⟩ = some (.bool (T.getD i false)) := by
  rw [cell_of_row w tb i _ 4 (0, 0) H.row, List.getD_eq_getElem?_getD, List.getElem?_eq_getElem hi]
  simp [bvals, hi]
theorem RS.on {w w' : World} {g tb h : Nat} {T : List Bool} (H : RS w g tb h T) (hb : Below w.heap.size w w') : RS w' g tb h T :=
  ⟨(hb.block g (Array.getElem?_eq_some_iff.1 H.head).1).trans H.head, (hb.block tb (Array.getElem?_eq_some_iff.1 H.row).1).trans H.row, H.ne, H.le, H.few⟩
theorem RS.set {w : World} {g tb h : Nat} {T : List Bool} (H : RS w g tb h T) (i : Nat) (b : Bool) : RS (w.setCell ⟨tb, i, none⟩ (.bool b)) g tb h (T.set i b) := by
  refine ⟨?_, ?_, H.ne, by rw [List.length_set]; exact H.le, by rw [List.length_set]; exact H.few⟩
  · rw [List.length_set]
    exact (Below.heap_setCell w ⟨tb, i, none⟩ _ g (Ne.symm H.ne)).trans H.head
  · rw [heap_setCell_same w tb i _ 4 _ H.row]
    simp [bvals]



theorem mayB_no {h : Nat} {T : List Bool} {f m : Int} {b : Bool} (H : ¬ (1 ≤ m ∧ (h : Int) ≤ f ∧ f < (T.length : Int) ∧ m ≤ (T.length : Int) - f)) : mayB h T f m b = false := by unfold mayB; rw [decide_eq_false H]; rfl


/-- Behind Mark (b false, c true) and Free (b true, c false). -/
def doS (h : Nat) (T : List Bool) (f m : Int) (b c : Bool) : List Bool := if mayB h T f m b then setS T f.toNat m.toNat c else T
def erS (h : Nat) (T : List Bool) (f m : Int) (b : Bool) : Int := if mayB h T f m b then 0 else 1
theorem doS_len (h : Nat) (T : List Bool) (f m : Int) (b c : Bool) : (doS h T f m b c).length = T.length := by
  unfold doS
  split
  · rename_i hx
    unfold mayB at hx
    rw [Bool.and_eq_true, decide_eq_true_iff] at hx
    exact setS_len (by omega) c
  · rfl
/-- What Mark and Free of the document answer. -/
def RDoSay (g tb h : Nat) (T : List Bool) (f m : Int) (b c : Bool) (w : World) (e : Ending) (w' : World) : Prop := e = .returned (.int .i64 (erS h T f m b)) ∧ RS w' g tb h (doS h T f m b c) ∧ Chg (fun k => k = tb) w w'


/-- What Take answers, and the numbers behind it. -/
def tkS (h : Nat) (T : List Bool) (n : Int) : Int × Int × List Bool := if n < 1 then (0, 1, T) else match takeS h T n.toNat with | some i => ((i : Int), 0, setS T i n.toNat true) | none => (0, 7, T)
theorem mayB_take {h : Nat} {T : List Bool} {i : Nat} {n : Int} (hn : 1 ≤ n) (h1 : h ≤ i) (h2 : i < T.length) : mayB h T (i : Int) n false = (decide (i + n.toNat ≤ T.length) && allS T i n.toNat false) := by
  unfold mayB
  congr 1
  by_cases hx : i + n.toNat ≤ T.length
  · rw [decide_eq_true hx, decide_eq_true (by omega)]
  · rw [decide_eq_false hx, decide_eq_false (by omega)]
theorem tkS_some {h : Nat} {T : List Bool} {i : Nat} {n : Int} (hn : 1 ≤ n) (h1 : h ≤ i) (h2 : i < T.length) (hp : mayB h T (i : Int) n false = true) (hl : ∀ j, h ≤ j → j < i → mayB h T (j : Int) n false = false) : tkS h T n = ((i : Int), 0, setS T i n.toNat true) := by
  unfold tkS takeS
  rw [if_neg (by omega), find_range' _ _ _ i h1 (by omega) (by rw [← mayB_take hn h1 h2]; exact hp) (fun j h3 h4 => by rw [← mayB_take hn h3 (by omega)]; exact hl j h3 h4)]
theorem tkS_none {h : Nat} {T : List Bool} {n : Int} (hn : 1 ≤ n) (hh : h ≤ T.length) (hl : ∀ j, h ≤ j → j < T.length → mayB h T (j : Int) n false = false) : tkS h T n = (0, 7, T) := by
  unfold tkS takeS
  rw [if_neg (by omega), find_none _ _ _ (fun j h3 h4 => by rw [← mayB_take hn h3 (by omega)]; exact hl j h3 (by omega))]
def RTakeSay (g tb h : Nat) (T : List Bool) (n : Int) (w : World) (e : Ending) (w' : World) : Prop := e = .returned (.tuple #[.int .i64 (tkS h T n).1, .int .i64 (tkS h T n).2.1]) ∧ RS w' g tb h (tkS h T n).2.2 ∧ Chg (fun k => k = tb) w w'
theorem Chg.same {tb : Nat} {a b c : World} (h : Chg (fun k => k = tb) a b) (k : Chg (fun k => k = tb) b c) : Chg (fun k => k = tb) a c := h.trans k (fun _ hj => Or.inl hj)
/-- What New of the document answers. -/
def RNewSay (n h : Int) (w : World) (e : Ending) (w' : World) : Prop := Below w.heap.size w w' ∧ ((h < 0 ∨ n < h ∨ 4096 < n) ∧ e = .returned (.tuple #[.pointer none, .int .i64 1]) ∨ ¬ (h < 0 ∨ n < h ∨ 4096 < n) ∧ ∃ g tb, w.heap.size ≤ g ∧ w.heap.size ≤ tb ∧ e = .returned (.tuple #[.pointer (some ⟨g, 0, none⟩), .int .i64 0]) ∧ RS w' g tb h.toNat (List.replicate n.toNat false))
theorem info4 : (Try.prog.info? 4).map (fun i => (i.zero, i.size, i.bytes)) = some (some (.bool false), 1, 1) := by kernel_rfl
theorem own_full {w : World} {base g N : Nat} {e : TypeId} {xs : List Value} (h : w.ownsRow base e 1 (.slice (some ⟨g, 0, none⟩) N N) N xs) : w.heap[g]? = some (.cells xs.toArray e (0, 0)) := by
  rcases h.2 with ⟨h', _⟩ | ⟨g', cap, cur, hv, _, hh, _, _, hs, ht⟩
  · simp at h'
  · simp only [Value.slice.injEq, Option.some.injEq, Addr.mk.injEq, and_true, true_and] at hv
    obtain ⟨rfl, rfl⟩ := hv
    rw [hh]
    have e1 : cur.toList = xs := by
      rw [List.take_of_length_le (by simp; omega)] at ht
      exact ht
    rw [← e1]


def spc (x : Sp) : List Value := [.int .i64 (x.1 : Int), .int .i64 (x.2 : Int)]
def spCells (l : List Sp) : List Value := l.flatMap spc
theorem spCells_snoc (l : List Sp) (x : Sp) : spCells (l ++ [x]) = spCells l ++ spc x := by
  unfold spCells
  rw [List.flatMap_append]
  simp
theorem spCells_len (l : List Sp) : (spCells l).length = l.length * 2 := by
  induction l with
  | nil => rfl
  | cons x r ih =>
    show (spc x ++ spCells r).length = _
    rw [List.length_append, ih, List.length_cons]
    simp only [spc, List.length_cons, List.length_nil]
    omega
theorem spCells_at : ∀ (l : List Sp) (k : Nat) (h : k < l.length), (spCells l)[k * 2]? = some (.int .i64 (l[k].1 : Int)) ∧ (spCells l)[k * 2 + 1]? = some (.int .i64 (l[k].2 : Int))
  | [], k, h => absurd h (Nat.not_lt_zero _)
  | x :: r, 0, _ => ⟨rfl, rfl⟩
  | x :: r, k + 1, h => by
    have ih := spCells_at r k (by simpa using h)
    have e : spCells (x :: r) = spc x ++ spCells r := rfl
    rw [e, List.getElem?_append_right (by simp [spc]; omega), List.getElem?_append_right (by simp [spc]; omega), show (k + 1) * 2 - (spc x).length = k * 2 by simp [spc]; omega, show (k + 1) * 2 + 1 - (spc x).length = k * 2 + 1 by simp [spc]; omega]
    simpa using ih
/-- Spans in a row of one's own. -/
def OwnSp (w : World) (lo : Nat) (a : Option Addr) (c : Nat) (l : List Sp) : Prop := w.ownsRow lo 41 2 (.slice a l.length c) l.length (spCells l)
theorem info41 : (Try.prog.info? 41).map (fun i => (i.zero, i.size, i.bytes)) = some (some (.agg #[.int .i64 0, .int .i64 0]), 2, 16) := by kernel_rfl
theorem spTo_len (h : Nat) (T : List Bool) : ∀ j, (spTo h T j).length ≤ j
  | 0 => Nat.le_refl _
  | j + 1 => by
    have ih := spTo_len h T j
    rw [spTo]
    split
    · omega
    · unfold addS
      split
      · rename_i hl
        split
        · have := last_split hl
          have h2 := congrArg List.length this
          simp only [List.length_append, List.length_cons, List.length_nil] at h2 ⊢
          omega
        · simp only [List.length_append, List.length_cons, List.length_nil]
          omega
      · simp only [List.length_cons, List.length_nil]
        omega
/-- One more span is appended. -/
theorem wpList_append_sp {w : World} {ops : Array Oper} {rest : List Oper} {o : Oper} {a : Act} {Q : Exit → Act → World → Prop} (hgd : o.guard = none) (s x : Operand)
    (ho : o.op = .call { callee := .builtin .append, args := #[s, x], argTypes := #[32, 32] }) (B : Nat) (av : Option Addr) (n cv : Nat) (L : List Sp) (hn : L.length = n) (hs : a.eval s = .slice av n cv) (hown : OwnSp w B av cv L)
    (ad : Addr) (y : Sp) (hx : a.eval x = .slice (some ad) 1 1) (hnews : ∀ j u, (spc y)[j]? = some u → w.cell? (ad.add j) = some u) (hle : n ≤ 10000) (w0 : World) (hb : Below B w0 w) (hB : B ≤ w.heap.size)
    (h : ∀ a' c' w', Hid (OwnSp w' B a' c' (L ++ [y])) → Below B w0 w' → wpList Try.prog ops Q rest (a.put o.dst (.slice a' (n + 1) c')) w') : wpList Try.prog ops Q (o :: rest) a w := by
  obtain ⟨i, hi, hz0, hz1, hz2⟩ := info_parts info41
  subst hn
  refine wpList_append_own w hgd s x 32 ho B 41 i _ 2 16 Try.underlying32 hi hz0 hz1 hz2 rfl (by decide) _ _ _ hs hown ad 1 1 (spc y) hx rfl hnews (by simp [spc, Value.oneCell']) (by unfold maxLen; omega) (by omega) hB ?_
  intro v' w' h1 h2 _
  have hb' : Below B w0 w' := hb.grown h2 hB (fun k hk => (World.ownsRow.lt hown k hk).1)
  have e : ∃ a' c', v' = .slice a' (L.length + 1) c' := by
    rcases h1.2 with ⟨hv, hn⟩ | ⟨g, cap, _, hv, _⟩
    · omega
    · exact ⟨_, _, hv⟩
  obtain ⟨a', c', rfl⟩ := e
  refine h a' c' w' ?_ hb'
  show OwnSp _ _ _ _ _
  unfold OwnSp
  rw [List.length_append, spCells_snoc]
  exact h1
def RSpansSay (h : Nat) (T : List Bool) (w : World) (e : Ending) (w' : World) : Prop := Below w.heap.size w w' ∧ ∃ a c, e = .returned (.slice a (spansS h T).length c) ∧ OwnSp w' w.heap.size a c (spansS h T)


theorem OwnSp.at {w : World} {lo : Nat} {a : Option Addr} {c : Nat} {l : List Sp} (h : OwnSp w lo a c l) {k : Nat} (hk : k < l.length) : ∃ gb, a = some ⟨gb, 0, none⟩ ∧ lo ≤ gb ∧ gb < w.heap.size ∧ w.cell? ⟨gb, k * 2, none⟩ = some (.int .i64 (l[k].1 : Int)) ∧ w.cell? ⟨gb, k * 2 + 1, none⟩ = some (.int .i64 (l[k].2 : Int)) := by
  unfold OwnSp at h
  obtain ⟨gb, rfl⟩ : ∃ gb, a = some ⟨gb, 0, none⟩ := by
    rcases h.2 with ⟨_, h0⟩ | ⟨gb, _, _, hv, _⟩
    · omega
    · simp only [Value.slice.injEq] at hv
      exact ⟨gb, hv.1⟩
  have hcl := spCells_at l k hk
  have hlt := h.lt gb rfl
  exact ⟨gb, rfl, hlt.1, hlt.2, by rw [h.cellAt (k * 2) (by omega)]; exact hcl.1, by rw [h.cellAt (k * 2 + 1) (by omega)]; exact hcl.2⟩
theorem sp_bd {h : Nat} {T : List Bool} (hh : h ≤ T.length) (hf : T.length ≤ 4096) : (spansS h T).length ≤ 4096 ∧ (∀ x ∈ spansS h T, x.1 ≤ 4096 ∧ x.2 ≤ 4096) ∧ roomS (spansS h T) ≤ 4096 := by
  refine ⟨?_, fun x hx => ?_, ?_⟩
  · have := spTo_len h T (T.length - h)
    unfold spansS
    omega
  · have := (spans_is hh).ins x hx
    omega
  · rw [room_is hh]
    have := List.count_le_length (a := false) (l := T.drop h)
    rw [List.length_drop] at this
    omega
theorem room_next {l : List Sp} {k : Nat} (h : k < l.length) : roomS (l.take (k + 1)) = roomS (l.take k) + l[k].2 := by
  rw [List.take_succ_eq_append_getElem h]
  simp only [roomS, List.map_append, List.map_cons, List.map_nil, List.sum_append, List.sum_cons, List.sum_nil]
  omega
theorem room_le (l : List Sp) (k : Nat) : roomS (l.take k) ≤ roomS l := by
  conv => rhs; rw [← List.take_append_drop k l]
  simp only [roomS, List.map_append, List.sum_append]
  omega
theorem large_next {l : List Sp} {k : Nat} (h : k < l.length) : largeS (l.take (k + 1)) = max (largeS (l.take k)) l[k].2 := by
  rw [List.take_succ_eq_append_getElem h]
  unfold largeS
  rw [List.foldl_append]
  rfl


theorem ownsRow_same {w w' : World} {B : Nat} {e : TypeId} {sz n c : Nat} {a : Option Addr} {xs : List Value} (h : w.ownsRow B e sz (.slice a n c) n xs) (he : ∀ b, a = some ⟨b, 0, none⟩ → w'.heap[b]? = w.heap[b]?) : w'.ownsRow B e sz (.slice a n c) n xs := by
  refine ⟨h.1, ?_⟩
  rcases h.2 with h2 | ⟨b, cap, cur, hv, hb, hh, r⟩
  · exact Or.inl h2
  · have ea : a = some ⟨b, 0, none⟩ := by simp only [Value.slice.injEq] at hv; exact hv.1
    exact Or.inr ⟨b, cap, cur, hv, hb, (he b ea).trans hh, r⟩
/-- A footprint, grown by what is new. -/
def Gr (F : Nat → Prop) (w w' : World) : Nat → Prop := fun k => F k ∨ (w.heap.size ≤ k ∧ k < w'.heap.size)
theorem Gr.trans {F : Nat → Prop} {a b c : World} (hab : a.heap.size ≤ b.heap.size) (hbc : b.heap.size ≤ c.heap.size) : ∀ k, Gr (Gr F a b) b c k → Gr F a c k := fun k hk => by
  rcases hk with (h | h) | h
  · exact Or.inl h
  · exact Or.inr ⟨h.1, by omega⟩
  · exact Or.inr ⟨by omega, h.2⟩
theorem Gr.lt {F : Nat → Prop} {a b : World} (hF : ∀ k, F k → k < a.heap.size) (hs : a.heap.size ≤ b.heap.size) : ∀ k, Gr F a b k → k < b.heap.size := fun k hk => by
  rcases hk with h | h
  · have := hF k h; omega
  · exact h.2
theorem Chg.gr {F : Nat → Prop} {a b c : World} (h : Chg F a b) (k : Chg (Gr F a b) b c) : Chg F a c := h.trans k (fun _ hj => hj.imp id (fun h => h.1))
def badNew (n h : Int) : Prop := h < 0 ∨ n < h ∨ 4096 < n
/-- What was there and is not F's is as it was, and is not F's behind it. -/
structure Stp (F : Nat → Prop) (w : World) (F' : Nat → Prop) (w' : World) : Prop where
  size : w.heap.size ≤ w'.heap.size
  block : ∀ b, b < w.heap.size → ¬ F b → w'.heap[b]? = w.heap[b]? ∧ ¬ F' b
theorem Stp.trans {F F' F'' : Nat → Prop} {a b c : World} (h : Stp F a F' b) (k : Stp F' b F'' c) : Stp F a F'' c :=
  ⟨Nat.le_trans h.size k.size, fun x hx hf => by
    have h1 := h.block x hx hf
    have h2 := k.block x (Nat.lt_of_lt_of_le hx h.size) h1.2
    exact ⟨h2.1.trans h1.1, h2.2⟩⟩
theorem Stp.below {F : Nat → Prop} {w w' : World} (hb : Below w.heap.size w w') : Stp F w F w' := ⟨hb.size, fun b hb' hf => ⟨hb.block b hb', hf⟩⟩
theorem OwnSp.stp {F F' : Nat → Prop} {w w' : World} {lo : Nat} {a : Option Addr} {c : Nat} {l : List Sp} (h : OwnSp w lo a c l) (hS : Stp F w F' w') (hf : ∀ gb, a = some ⟨gb, 0, none⟩ → ¬ F gb) : OwnSp w' lo a c l ∧ ∀ gb, a = some ⟨gb, 0, none⟩ → ¬ F' gb := by
  have hlt : ∀ gb, a = some ⟨gb, 0, none⟩ → gb < w.heap.size := fun gb e => (World.ownsRow.lt h gb (by rw [e]; rfl)).2
  refine ⟨ownsRow_same h (fun b e => (hS.block b (hlt b e) (hf b e)).1), fun gb e => (hS.block gb (hlt gb e) (hf gb e)).2⟩
theorem RS.stp {F F' : Nat → Prop} {w w' : World} {g tb h : Nat} {T : List Bool} (H : RS w g tb h T) (hS : Stp F w F' w') (hg : ¬ F g) (ht : ¬ F tb) : RS w' g tb h T ∧ ¬ F' g ∧ ¬ F' tb := by
  have h1 := hS.block g (Array.getElem?_eq_some_iff.1 H.head).1 hg
  have h2 := hS.block tb (Array.getElem?_eq_some_iff.1 H.row).1 ht
  exact ⟨⟨h1.1.trans H.head, h2.1.trans H.row, H.ne, H.le, H.few⟩, h1.2, h2.2⟩
section
end


end Go.Proofs.Ytdjhlpllffakpaa.Q
