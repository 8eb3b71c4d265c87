/-
  The document's Files: a file comes into files that rise: the list, and memory.
-/
import Derived.Test.YtjkeejbfipmidaaFlist
import Derived.Test.YtjkeejbfipmidaaRwrite
namespace Go.Proofs.Ytjkeejbfipmidaa
open Go.RowKit

theorem ins_at : ∀ (l : List Fl) (f : Fl) (k : Nat), k ≤ l.length → (∀ m (hm : m < l.length), m < k → ltF l[m] f = true) → (∀ hk : k < l.length, ltF l[k] f = false) → ins f l = if l[k]? = some f then l else l.take k ++ f :: l.drop k
  | [], f, 0, _, _, _ => by simp [ins]
  | g :: r, f, 0, _, _, h => by
    have h0 : ltF g f = false := h (by simp)
    unfold ins
    rw [h0]
    by_cases e : g = f
    · simp [e]
    · simp [e]
  | g :: r, f, k + 1, hk, h, h' => by
    have h0 : ltF g f = true := h 0 (by simp) (by omega)
    have ih := ins_at r f k (by simpa using hk) (fun m hm hmk => h (m + 1) (by simpa using hm) (by omega)) (fun hk => h' (by simpa using hk))
    unfold ins
    rw [h0, if_pos rfl, ih, List.getElem?_cons_succ]
    split
    · rfl
    · rfl
/-- The cells of files. -/
def fcells : List Fl → List Value
  | [] => []
  | f :: r => .int .i64 f.1 :: .int .i64 f.2.1 :: .int .i64 f.2.2 :: fcells r
theorem fcells_len : ∀ l : List Fl, (fcells l).length = l.length * 3
  | [] => rfl
  | f :: r => by rw [fcells, List.length_cons, List.length_cons, List.length_cons, fcells_len r, List.length_cons]; omega
theorem fcells_append : ∀ a b : List Fl, fcells (a ++ b) = fcells a ++ fcells b
  | [], b => rfl
  | f :: r, b => by rw [List.cons_append, fcells, fcells_append r b]; rfl
theorem fcells_take : ∀ (l : List Fl) (k : Nat), (fcells l).take (k * 3) = fcells (l.take k)
  | [], k => by simp [fcells]
  | f :: r, 0 => by simp [fcells]
  | f :: r, k + 1 => by
    rw [show (k + 1) * 3 = k * 3 + 1 + 1 + 1 by omega, fcells, List.take_succ_cons, List.take_succ_cons, List.take_succ_cons, List.take_succ_cons, fcells_take r k]; rfl
theorem fcells_at : ∀ (l : List Fl) (k : Nat) (h : k < l.length), (fcells l)[k * 3]? = some (.int .i64 l[k].1) ∧ (fcells l)[k * 3 + 1]? = some (.int .i64 l[k].2.1) ∧ (fcells l)[k * 3 + 2]? = some (.int .i64 l[k].2.2)
  | f :: r, 0, _ => ⟨rfl, rfl, rfl⟩
  | f :: r, k + 1, h => by
    have ih := fcells_at r k (by simpa using h)
    rw [show (k + 1) * 3 = k * 3 + 1 + 1 + 1 by omega, show k * 3 + 1 + 1 + 1 + 1 = k * 3 + 1 + 1 + 1 + 1 by rfl, fcells]
    exact ih
theorem fcells_one : ∀ (l : List Fl), ∀ u ∈ fcells l, u.oneCell' = true
  | [], u, h => by cases h
  | f :: r, u, h => by
    rw [fcells] at h
    simp only [List.mem_cons] at h
    rcases h with rfl | rfl | rfl | h
    · rfl
    · rfl
    · rfl
    · exact fcells_one r u h
/-- A row of files that the call has gathered. -/
def FRow (w : World) (B : Nat) (a : Option Addr) (n c : Nat) (fs : List Fl) : Prop := w.ownsRow B 38 3 (.slice a n c) n (fcells fs)
theorem FRow.nil (w : World) (B : Nat) : FRow w B none 0 0 [] := World.ownsRow_nil w B 38 3
theorem FRow.len {w : World} {B : Nat} {a : Option Addr} {n c : Nat} {fs : List Fl} (h : FRow w B a n c fs) : fs.length = n := by
  have := h.1
  rw [fcells_len] at this
  omega
theorem FRow.form {w : World} {B : Nat} {a : Option Addr} {n c : Nat} {fs : List Fl} (h : FRow w B a n c fs) : (a = none ∧ n = 0 ∧ c = 0) ∨ ∃ g, a = some ⟨g, 0, none⟩ ∧ B ≤ g ∧ g < w.heap.size ∧ n ≤ c := by
  rcases h.2 with ⟨hv, h0⟩ | ⟨g, cap, cur, hv, hB, hh, hc, _⟩
  · rw [Value.slice.injEq] at hv; exact Or.inl ⟨hv.1, h0, hv.2.2⟩
  · rw [Value.slice.injEq] at hv; exact Or.inr ⟨g, hv.1, hB, (Array.getElem?_eq_some_iff.1 hh).1, by rw [hv.2.2]; exact hc⟩
theorem FRow.fls {w : World} {B : Nat} {a : Option Addr} {n c : Nat} {fs : List Fl} (h : FRow w B a n c fs) : Fls w a n fs := by
  refine ⟨h.len, fun k hk => ?_⟩
  rcases h.form with ⟨_, h0, _⟩ | ⟨g, rfl, _⟩
  · rw [h.len] at hk; omega
  · obtain ⟨c0, c1, c2⟩ := fcells_at fs k hk
    have hn := h.len
    refine ⟨g, 0, rfl, ?_, ?_, ?_⟩
    · rw [Nat.zero_add, World.ownsRow.cellAt h _ (by omega)]; exact c0
    · rw [Nat.zero_add, World.ownsRow.cellAt h _ (by omega)]; exact c1
    · rw [Nat.zero_add, World.ownsRow.cellAt h _ (by omega)]; exact c2
theorem FRow.cut {w : World} {B : Nat} {a : Option Addr} {n c : Nat} {fs : List Fl} (h : FRow w B a n c fs) {k : Nat} (hk : k ≤ n) : FRow w B a k c (fs.take k) := by
  have hn := h.len
  refine ⟨by rw [fcells_len, List.length_take]; omega, ?_⟩
  rcases h.2 with ⟨hv, h0⟩ | ⟨g, cap, cur, hv, hB, hh, hc, hm, hs, ht⟩
  · rw [Value.slice.injEq] at hv
    left
    rw [hv.1, hv.2.2, show k = 0 by omega]
    exact ⟨rfl, rfl⟩
  · rw [Value.slice.injEq] at hv
    refine Or.inr ⟨g, cap, cur, by rw [hv.1, hv.2.2], hB, hh, by omega, hm, hs, ?_⟩
    rw [← fcells_take, ← ht, List.take_take, Nat.min_eq_left (by omega)]
theorem FRow.later {w w' : World} {B : Nat} {a : Option Addr} {n c : Nat} {fs : List Fl} (h : FRow w B a n c fs) (hb : Below w.heap.size w w') : FRow w' B a n c fs :=
  ownsRow_same h (fun b e => hb.block b (by
    rcases h.form with ⟨e2, _⟩ | ⟨g, e2, _, hg, _⟩
    · rw [e2] at e; cases e
    · rw [e2] at e; cases e; exact hg))
theorem FRow.base {w : World} {B B' : Nat} {a : Option Addr} {n c : Nat} {fs : List Fl} (h : FRow w B a n c fs) (hB : B' ≤ B) : FRow w B' a n c fs := by
  refine ⟨h.1, ?_⟩
  rcases h.2 with h2 | ⟨g, cap, cur, hv, hg, r⟩
  · exact .inl h2
  · exact .inr ⟨g, cap, cur, hv, by omega, r⟩
theorem Fls.drop {w : World} {b n c o k : Nat} {fs : List Fl} (h : Fls w (some ⟨b, 0, none⟩) n fs) (hk : k ≤ n) (hc : n ≤ c) (ho : k = c ∨ o = k * 3) : Fls w (some ⟨b, o, none⟩) (n - k) (fs.drop k) := by
  have hn := h.n
  refine ⟨by rw [List.length_drop]; omega, fun m hm => ?_⟩
  rw [List.length_drop] at hm
  rcases ho with e | rfl
  · omega
  · obtain ⟨b', off, e, c0, c1, c2⟩ := h.cells (k + m) (by omega)
    cases e
    rw [Nat.zero_add, show (k + m) * 3 = k * 3 + m * 3 by omega] at c0 c1 c2
    rw [List.getElem_drop]
    exact ⟨b, k * 3, rfl, c0, c1, c2⟩
theorem info38 : (Try.prog.info? 38).map (fun i => (i.zero, i.size, i.bytes)) = some (some (.agg #[.int .i64 0, .int .i64 0, .int .i64 0]), 3, 24) := by kernel_rfl
theorem sizeOf38 (w : World) : (sizeOf 38).run Try.prog w = .ok 3 w := by kernel_rfl
theorem slice_to50 (a : Option Addr) (n c k : Nat) (ha : a = none ∨ ∃ b, a = some ⟨b, 0, none⟩) (h : k ≤ c) : ∀ w, (Instr.sliceAt 50 (.slice a n c) none (some (.int .i64 (k : Int))) none).run Try.prog w = .ok (.slice a k c) w := fun w => by
  rw [run_sliceAt_slice w 50 _ _ _ _ (by kernel_rfl), run_slice_h w 50 a n c (by kernel_rfl) .i64 k (by omega) (by omega), show Try.prog.elem 50 = 38 by kernel_rfl, sizeOf38, Result.andThen_ok, Int.toNat_natCast]
  unfold sliced
  rw [Nat.sub_zero, Nat.sub_zero]
  rcases ha with rfl | ⟨b, rfl⟩
  · split <;> rfl
  · split <;> rfl
theorem slice_from50 (a : Option Addr) (n c k : Nat) (ha : a = none ∨ ∃ b, a = some ⟨b, 0, none⟩) (h : k ≤ n) : ∃ A : Option Addr, (∀ w, (Instr.sliceAt 50 (.slice a n c) (some (.int .i64 (k : Int))) none none).run Try.prog w = .ok (.slice A (n - k) (c - k)) w) ∧
    ((a = none ∧ A = none) ∨ ∃ b o, a = some ⟨b, 0, none⟩ ∧ A = some ⟨b, o, none⟩ ∧ (k = c ∨ o = k * 3)) := by
  refine ⟨if c = k then a else a.map (·.add (k * 3)), fun w => ?_, ?_⟩
  · rw [run_sliceAt_slice w 50 _ _ _ _ (by kernel_rfl), run_slice_l w 50 a n c (by kernel_rfl) .i64 k (by omega) (by omega), show Try.prog.elem 50 = 38 by kernel_rfl, sizeOf38, Result.andThen_ok, Int.toNat_natCast]
    rfl
  · rcases ha with rfl | ⟨b, rfl⟩
    · exact Or.inl ⟨rfl, by split <;> rfl⟩
    · right
      by_cases e : c = k
      · exact ⟨b, 0, rfl, by rw [if_pos e], Or.inl e.symm⟩
      · exact ⟨b, k * 3, rfl, by rw [if_neg e]; show some ((⟨b, 0, none⟩ : Addr).add (k * 3)) = _; rw [Addr.add_lit]; simp, Or.inr rfl⟩
/-- append of files to what the call has gathered. -/
theorem wpList_append_fls {w : World} {ops : Array Oper} {rest : List Oper} {o : Oper} {a : Act} {Q : Exit → Act → World → Prop} (hgd : o.guard = none) (s x : Operand)
    (ho : o.op = .call { callee := .builtin .append, args := #[s, x], argTypes := #[50, 50] }) (B : Nat) (av : Option Addr) (n cv : Nat) (ys : List Fl) (hs : a.eval s = .slice av n cv) (hown : FRow w B av n cv ys)
    (sp : Option Addr) (m sc : Nat) (xs : List Fl) (hx : a.eval x = .slice sp m sc) (hX : Fls w sp m xs) (hnil : sp = none → m = 0 ∧ sc = 0) (hsp : ∀ p, sp = some p → ∃ b o, p = ⟨b, o, none⟩) (hle : n + m ≤ 1000000) (w0 : World) (hb : Below B w0 w) (hB : B ≤ w.heap.size)
    (h : ∀ a' c' w', Hid (FRow w' B a' (n + m) c' (ys ++ xs)) → Below B w0 w' → B ≤ w'.heap.size → wpList Try.prog ops Q rest (a.put o.dst (.slice a' (n + m) c')) w') : wpList Try.prog ops Q (o :: rest) a w := by
  have hm := hX.n
  obtain ⟨i, hi, hz0, hz1, hz2⟩ := info_parts info38
  cases sp with
  | none =>
    obtain ⟨rfl, rfl⟩ := hnil rfl
    obtain rfl := List.eq_nil_of_length_eq_zero hm
    refine wpList_append_own_none hgd s x 50 ho B 38 i 3 Try.underlying50 hi _ _ _ hs hown hx ?_
    have := h av cv w (show FRow _ _ _ _ _ _ by simpa using hown) hb hB
    simpa using this
  | some ad =>
    obtain ⟨b, off, rfl⟩ := hsp _ rfl
    refine wpList_append_own w hgd s x 50 ho B 38 i _ 3 24 Try.underlying50 hi hz0 hz1 hz2 rfl (by decide) _ _ _ hs hown ⟨b, off, none⟩ m sc (fcells xs) hx (by rw [fcells_len, hm]) ?_ (fcells_one _) (by unfold maxLen; omega) (by omega) hB ?_
    · intro j u hj
      obtain ⟨hj', _⟩ := List.getElem?_eq_some_iff.1 hj
      rw [fcells_len] at hj'
      obtain ⟨q, hq⟩ : ∃ q, j = q * 3 ∨ j = q * 3 + 1 ∨ j = q * 3 + 2 := ⟨j / 3, by omega⟩
      have hk : q < xs.length := by omega
      obtain ⟨b', off', e, c0, c1, c2⟩ := hX.cells q hk
      cases e
      obtain ⟨d0, d1, d2⟩ := fcells_at xs q hk
      rw [Addr.add_lit]
      rcases hq with rfl | rfl | rfl
      · rw [d0] at hj; rw [← hj]; exact c0
      · rw [d1] at hj; rw [← hj, ← Nat.add_assoc]; exact c1
      · rw [d2] at hj; rw [← hj, ← Nat.add_assoc]; exact c2
    · intro v' w' h1 h2 _
      have hb' : Below B w0 w' := hb.grown h2 hB (fun k hk => (hown.lt k hk).1)
      have hB' : B ≤ w'.heap.size := Nat.le_trans hB h2.size
      have e : ∃ a' c', v' = .slice a' (n + m) c' := by
        rcases h1.2 with ⟨hv, hn⟩ | ⟨g, cap, _, hv, _⟩
        · exact ⟨none, 0, by rw [hv, hn]⟩
        · exact ⟨_, _, hv⟩
      obtain ⟨a', c', rfl⟩ := e
      refine h a' c' w' ?_ hb' hB'
      show FRow _ _ _ _ _ _
      unfold FRow
      rw [fcells_append]
      exact h1
end Go.Proofs.Ytjkeejbfipmidaa
