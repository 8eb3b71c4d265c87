/-
  The disk's plain calls, and changes of memory within a footprint.
-/
import Derived.Test.YtdjhlpllffakpaaHeld
import Derived.Test.YtdjhlpllffakpaaDisk
import Derived.BigQuiet
import Derived.OwnWalk
import Derived.Deep.Cut
import Derived.Deep.AppendLies
set_option maxRecDepth 20000
namespace Go.Proofs.Ytdjhlpllffakpaa
open Go.RowKit

/-- Just blocks of F, and new ones, are others. -/
structure Chg (F : Nat → Prop) (w w' : World) : Prop where
  os : w'.os = w.os
  tape : w'.tape = w.tape
  output : w'.output = w.output
  size : w.heap.size ≤ w'.heap.size
  block : ∀ k, k < w.heap.size → ¬ F k → w'.heap[k]? = w.heap[k]?
theorem Chg.refl (F : Nat → Prop) (w : World) : Chg F w w := ⟨rfl, rfl, rfl, Nat.le_refl _, fun _ _ _ => rfl⟩
theorem Chg.trans {F G : Nat → Prop} {a b c : World} (h : Chg F a b) (k : Chg G b c) (hG : ∀ j, G j → F j ∨ a.heap.size ≤ j) : Chg F a c :=
  ⟨k.os.trans h.os, k.tape.trans h.tape, k.output.trans h.output, Nat.le_trans h.size k.size, fun j hj hf => by
    rw [k.block j (Nat.lt_of_lt_of_le hj h.size) (fun hg => (hG j hg).elim hf (fun h1 => by omega))]
    exact h.block j hj hf⟩
theorem Chg.of_below {F : Nat → Prop} {w w' : World} (h : Below w.heap.size w w') : Chg F w w' := ⟨h.os, h.tape, h.output, h.size, fun k hk _ => h.block k hk⟩
theorem Chg.below {F : Nat → Prop} {w w' : World} {B : Nat} (h : Chg F w w') (hF : ∀ k, F k → B ≤ k) (hB : B ≤ w.heap.size) : Below B w w' :=
  ⟨h.os, h.tape, h.output, h.size, fun k hk => h.block k (by omega) (fun hf => by have := hF k hf; omega)⟩

/-- No block ahead of j is that one. -/
def NoneTo (l : List Bk) (f : Fl) (i : Int) (j : Nat) : Prop := ∀ m (hm : m < l.length), m < j → ¬ (l[m].f = f ∧ l[m].i = i)
theorem put_new : ∀ (l : List Bk) (f : Fl) (i : Int) (bs : List Int), NoneTo l f i l.length → put l f i bs = l ++ [⟨f, i, bs⟩] ∧ has l f i = none
  | [], _, _, _, _ => ⟨rfl, rfl⟩
  | b :: r, f, i, bs, h => by
    have h0 : ¬ (b.f = f ∧ b.i = i) := h 0 (by simp) (by simp)
    have ih := put_new r f i bs (fun m hm hj => h (m + 1) (by simpa using hm) (by simp; exact hm))
    rw [put, has, if_neg h0, if_neg h0, ih.1]
    exact ⟨rfl, ih.2⟩
theorem put_at : ∀ (l : List Bk) (f : Fl) (i : Int) (bs : List Int) (j : Nat) (hj : j < l.length), NoneTo l f i j → l[j].f = f ∧ l[j].i = i → put l f i bs = l.set j ⟨f, i, bs⟩ ∧ has l f i = some l[j].b
  | b :: r, f, i, bs, 0, _, _, e => by
    have e' : b.f = f ∧ b.i = i := e
    rw [put, has, if_pos e', if_pos e']
    exact ⟨rfl, rfl⟩
  | b :: r, f, i, bs, j + 1, hj, h, e => by
    have h0 : ¬ (b.f = f ∧ b.i = i) := h 0 (by simp) (by simp)
    have ih := put_at r f i bs j (by simpa using hj) (fun m hm hm2 => h (m + 1) (by simpa using hm) (by omega)) (by simpa using e)
    rw [put, has, if_neg h0, if_neg h0, ih.1]
    exact ⟨rfl, by simpa using ih.2⟩
theorem Bytes.same {w w' : World} {b off n : Nat} {xs : List Int} (h : Bytes w (some ⟨b, off, none⟩) n xs) (e : w'.heap[b]? = w.heap[b]?) : Bytes w' (some ⟨b, off, none⟩) n xs := by
  refine ⟨h.n, ?_, h.fit⟩
  rcases h.cells with e0 | ⟨b', o', e1, hc⟩
  · exact Or.inl e0
  · cases e1
    refine Or.inr ⟨_, _, rfl, fun k hk => ?_⟩
    have := hc k hk
    unfold World.cell? at this ⊢
    rw [e]
    exact this
theorem ownsRow_same {w w' : World} {B : Nat} {e : TypeId} {sz n c : Nat} {a : Option Addr} {xs : List Value} (h : w.ownsRow B e sz (.slice a n c) n xs) (he : ∀ b, a = some ⟨b, 0, none⟩ → w'.heap[b]? = w.heap[b]?) : w'.ownsRow B e sz (.slice a n c) n xs := by
  refine ⟨h.1, ?_⟩
  rcases h.2 with h2 | ⟨b, cap, cur, hv, hb, hh, r⟩
  · exact Or.inl h2
  · have ea : a = some ⟨b, 0, none⟩ := by simp only [Value.slice.injEq] at hv; exact hv.1
    exact Or.inr ⟨b, cap, cur, hv, hb, (he b ea).trans hh, r⟩
theorem Only.chg {F : Nat → Prop} {g : Nat} {w w' : World} (h : Only g w w') (hg : F g) : Chg F w w' := ⟨h.os, h.tape, h.output, Nat.le_of_eq h.size.symm, fun k _ hf => h.block k (fun e => hf (e ▸ hg))⟩
theorem lenOf_last (p : List (Fl × Int)) (q : Fl × Int) (f : Fl) : lenOf (p ++ [q]) f = if q.1 = f then max (q.2 + 1) (lenOf p f) else lenOf p f := by
  induction p with
  | nil => rfl
  | cons a r ih =>
    rw [List.cons_append, lenOf, ih, lenOf]
    split <;> split <;> omega
/-- One more than the greatest of the file's blocks among the first j. -/
def lenTo (l : List Bk) (f : Fl) (j : Nat) : Int := lenOf (at_ (l.take j)) f
theorem lenTo_succ (l : List Bk) (f : Fl) (j : Nat) (hj : j < l.length) : lenTo l f (j + 1) = if l[j].f = f then max (l[j].i + 1) (lenTo l f j) else lenTo l f j := by
  unfold lenTo
  rw [List.take_add_one, List.getElem?_eq_getElem hj]
  unfold at_
  rw [List.map_append]
  exact lenOf_last _ (l[j].f, l[j].i) f

theorem box_new (w : World) (f1 f2 f3 : Int) : Below w.heap.size w (w.alloc (.cells #[.int .i64 f1, .int .i64 f2, .int .i64 f3] 29)) ∧ (w.alloc (.cells #[.int .i64 f1, .int .i64 f2, .int .i64 f3] 29)).cell? ⟨w.heap.size, 0, none⟩ = some (.int .i64 f1) ∧ (w.alloc (.cells #[.int .i64 f1, .int .i64 f2, .int .i64 f3] 29)).cell? ⟨w.heap.size, 1, none⟩ = some (.int .i64 f2) ∧ (w.alloc (.cells #[.int .i64 f1, .int .i64 f2, .int .i64 f3] 29)).cell? ⟨w.heap.size, 2, none⟩ = some (.int .i64 f3) := by
  have h := heap_alloc_new w (.cells #[.int .i64 f1, .int .i64 f2, .int .i64 f3] 29)
  refine ⟨(Below.refl _ _).alloc (Nat.le_refl _) _, ?_, ?_, ?_⟩
  · rw [cell_of_row _ _ 0 _ 29 (0, 0) h]; rfl
  · rw [cell_of_row _ _ 1 _ 29 (0, 0) h]; rfl
  · rw [cell_of_row _ _ 2 _ 29 (0, 0) h]; rfl
theorem Bytes.none (w : World) : Bytes w none 0 [] := ⟨rfl, Or.inl rfl, fun z hz => absurd hz (by simp)⟩
theorem read_arg (S : St) (f : Fl) (i : Int) (h : ¬ (0 ≤ i ∧ i < 4096)) : S.read f i = (1, []) := by rw [St.read, if_neg h]
theorem read_down (S : St) (f : Fl) (i : Int) (h : 0 ≤ i ∧ i < 4096) (ho : S.out = true) : S.read f i = (8, []) := by rw [St.read, if_pos h, if_pos ho]
theorem read_ok (S : St) (f : Fl) (i : Int) (h : 0 ≤ i ∧ i < 4096) (ho : S.out = false) : S.read f i = (0, (has S.l f i).getD (List.replicate 32 0)) := by rw [St.read, if_pos h, ho]; rfl

theorem bytes_lt {w : World} {p : Nat} {bs : List Int} (h : Bytes w (some ⟨p, 0, none⟩) 32 bs) : p < w.heap.size := by
  obtain ⟨b, off, z, e, hc, _⟩ := h.get 0 (by omega)
  cases e
  exact World.block_lt_of_cell? w _ hc
theorem heap_alloc_old (w : World) (o : Obj) {k : Nat} (hk : k < w.heap.size) : (w.alloc o).heap[k]? = w.heap[k]? := ((Below.refl w.heap.size w).alloc (Nat.le_refl _) o).block k hk

theorem write_arg (S : St) (f : Fl) (i : Int) (bs : List Int) (h : ¬ argOk i bs.length) : S.write f i bs = (1, S) := by rw [St.write, if_neg h]
theorem write_down (S : St) (f : Fl) (i : Int) (bs : List Int) (h : argOk i bs.length) (ho : S.out = true) : S.write f i bs = (8, S) := by rw [St.write, if_pos h, if_pos ho]
theorem write_ok (S : St) (f : Fl) (i : Int) (bs : List Int) (h : argOk i bs.length) (ho : S.out = false) : S.write f i bs = (0, S.wrote f i bs) := by rw [St.write, if_pos h, ho]; rfl

/-- append of bytes onto none, as a step of a region that draws its order. -/
theorem step_bytes {w : World} {ops : Array Oper} {o : Oper} {a : Act} {K : Act → World → Prop} {Q : Exit → Act → World → Prop} {E : Prop} (hgd : o.guard = none) (x : Operand)
    (ho : o.op = .call { callee := .builtin .append, args := #[.const (.slice none 0 0), x], argTypes := #[25, 25] }) (sp : Option Addr) (m sc : Nat) (xs : List Int) (hx : a.eval x = .slice sp m sc) (hX : Bytes w sp m xs) (hm : 0 < m) (hle : m ≤ 140737488355328)
    (h : ∀ cp w', Bytes w' (some ⟨w.heap.size, 0, none⟩) m xs → Below w.heap.size w w' → w.heap.size < w'.heap.size → K (a.put o.dst (.slice (some ⟨w.heap.size, 0, none⟩) m cp)) w') :
    if Region.wanted o (yielded ops a.tmps) = true then Oper.wp Try.prog o a w K Q else E := by
  have hn := hX.n
  obtain ⟨i, hi, hz0, hz1, hz2⟩ := info_parts Try.info5
  obtain ⟨b, off, rfl, hc⟩ : ∃ b off, sp = some ⟨b, off, none⟩ ∧ ∀ k (h : k < xs.length), w.cell? ⟨b, off + k, none⟩ = some (.int .u8 xs[k]) := by
    rcases hX.cells with e | h
    · subst e; simp at hn; omega
    · exact h
  refine step_append_lies w hgd (.const (.slice none 0 0)) x 25 ho w.heap.size 5 i (.int .u8 0) 1 1 Try.underlying25 hi hz0 hz1 hz2 rfl (by decide) (.slice none 0 0) 0 [] rfl (World.ownsRow_nil _ _ _ _) ⟨b, off, none⟩ m sc (xs.map (Value.int .u8)) hx (by simp [hn]) ?_ (ints_oneCell _ _) hm (by unfold maxLen; omega) (by omega) (Nat.le_refl _) _ rfl ?_
  · intro j u hj
    obtain ⟨hj', hv⟩ := List.getElem?_eq_some_iff.1 hj
    rw [List.length_map] at hj'
    rw [Addr.add_lit, hc j hj', ← hv]
    simp
  · intro p cp w' hown hgr hat hlt
    obtain rfl : p = w.heap.size := by
      rcases hat with h1 | h1
      · cases h1
      · exact h1
    have hown' : Own w' w.heap.size (some ⟨w.heap.size, 0, none⟩) cp xs := by
      unfold Own
      rw [hn]
      simpa using hown
    have := h cp w' (hown'.bytes hX.fit _ hn) ⟨hgr.os, hgr.tape, hgr.output, hgr.size, fun k hk => hgr.block k hk (by simp [Value.ownBlock])⟩ hlt
    simpa using this

end Go.Proofs.Ytdjhlpllffakpaa
