/-
  Rows of chunks and of tasks that one has made oneself; the document's Near.
-/
import Derived.Test.YtokjbjfpgjincaaLmay
import Derived.Laws.OwnMore
import Derived.Deep.AppendLies
set_option maxRecDepth 20000
namespace Go.Proofs.Ytokjbjfpgjincaa
open Go.RowKit

/-! ### chunks -/
def atc (p : Int × Int) : List Value := [.int .i64 p.1, .int .i64 p.2]
def atCells (l : List (Int × Int)) : List Value := l.flatMap atc
theorem atCells_snoc (l : List (Int × Int)) (x : Int × Int) : atCells (l ++ [x]) = atCells l ++ atc x := by
  unfold atCells
  rw [List.flatMap_append]
  simp
theorem atCells_at : ∀ (l : List (Int × Int)) (k : Nat) (h : k < l.length), (atCells l)[k * 2]? = some (.int .i64 l[k].1) ∧ (atCells l)[k * 2 + 1]? = some (.int .i64 l[k].2)
  | [], k, h => absurd h (Nat.not_lt_zero _)
  | x :: r, 0, _ => ⟨rfl, rfl⟩
  | x :: r, k + 1, h => by
    have ih := atCells_at r k (by simpa using h)
    have e : atCells (x :: r) = atc x ++ atCells r := rfl
    rw [e, List.getElem?_append_right (by simp [atc]; omega), List.getElem?_append_right (by simp [atc]; omega), show (k + 1) * 2 - (atc x).length = k * 2 by simp [atc]; omega, show (k + 1) * 2 + 1 - (atc x).length = k * 2 + 1 by simp [atc]; omega]
    simpa using ih
def OwnA (w : World) (lo : Nat) (a : Option Addr) (c : Nat) (l : List (Int × Int)) : Prop := w.ownsRow lo 31 2 (.slice a l.length c) l.length (atCells l)
theorem info31 : (Try.prog.info? 31).map (fun i => (i.zero, i.size, i.bytes)) = some (some (.agg #[.int .i64 0, .int .i64 0]), 2, 16) := by kernel_rfl
theorem wpList_append_at {w : World} {ops : Array Oper} {rest : List Oper} {o : Oper} {a : Act} {Q : Exit → Act → World → Prop} (hgd : o.guard = none) (s x : Operand)
    (ho : o.op = .call { callee := .builtin .append, args := #[s, x], argTypes := #[46, 46] }) (B : Nat) (av : Option Addr) (n cv : Nat) (L : List (Int × Int)) (hn : L.length = n) (hs : a.eval s = .slice av n cv) (hown : OwnA w B av cv L)
    (ad : Addr) (y : Int × Int) (hx : a.eval x = .slice (some ad) 1 1) (hnews : ∀ j u, (atc y)[j]? = some u → w.cell? (ad.add j) = some u) (hle : n ≤ 10000) (w0 : World) (hb : Below B w0 w) (hB : B ≤ w.heap.size)
    (h : ∀ a' c' w', Hid (OwnA w' B a' c' (L ++ [y])) → Below B w0 w' → wpList Try.prog ops Q rest (a.put o.dst (.slice a' (n + 1) c')) w') : wpList Try.prog ops Q (o :: rest) a w := by
  obtain ⟨i, hi, hz0, hz1, hz2⟩ := info_parts info31
  subst hn
  refine wpList_append_own w hgd s x 46 ho B 31 i _ 2 16 Try.underlying46 hi hz0 hz1 hz2 rfl (by decide) _ _ _ hs hown ad 1 1 (atc y) hx rfl hnews (by simp [atc, Value.oneCell']) (by unfold maxLen; omega) (by omega) hB ?_
  intro v' w' h1 h2 _
  have hb' : Below B w0 w' := hb.grown h2 hB (fun k hk => (World.ownsRow.lt hown k hk).1)
  have e : ∃ a' c', v' = .slice a' (L.length + 1) c' := by
    rcases h1.2 with ⟨hv, hn⟩ | ⟨g, cap, _, hv, _⟩
    · omega
    · exact ⟨_, _, hv⟩
  obtain ⟨a', c', rfl⟩ := e
  refine h a' c' w' ?_ hb'
  show OwnA _ _ _ _ _
  unfold OwnA
  rw [List.length_append, atCells_snoc]
  exact h1
structure AtIn (w : World) (b off k : Nat) (p : Int × Int) : Prop where
  c0 : w.cell? ⟨b, off + k * 2, none⟩ = some (.int .i64 p.1)
  c1 : w.cell? ⟨b, off + k * 2 + 1, none⟩ = some (.int .i64 p.2)
def AtsAt (w : World) (a : Option Addr) (xs : List (Int × Int)) : Prop := xs = [] ∨ ∃ b off, a = some ⟨b, off, none⟩ ∧ ∀ k (h : k < xs.length), AtIn w b off k xs[k]
theorem AtIn.on {w w' : World} {b off k : Nat} {t : Int × Int} (h : AtIn w b off k t) (hb : Below w.heap.size w w') : AtIn w' b off k t := ⟨cell_below h.c0 hb, cell_below h.c1 hb⟩
theorem AtsAt.on {w w' : World} {a : Option Addr} {ts : List (Int × Int)} (h : AtsAt w a ts) (hb : Below w.heap.size w w') : AtsAt w' a ts := by
  rcases h with h | ⟨b, off, e, hc⟩
  · exact .inl h
  · exact .inr ⟨b, off, e, fun k hk => (hc k hk).on hb⟩
theorem ownsRow_cell {W : World} {b e size k cap : Nat} {g : Nat} {xs : List Value} (h : W.ownsRow b e size (.slice (some ⟨g, 0, none⟩) k cap) k xs) (j : Nat) (hj : j < k * size) : W.cell? ⟨g, j, none⟩ = xs[j]? := by
  rcases h.2 with ⟨h0, _⟩ | ⟨g', cap', cur, hv, _, hh, _, _, _, ht⟩
  · simp at h0
  · simp only [Value.slice.injEq, Option.some.injEq, Addr.mk.injEq, and_true, true_and] at hv
    obtain ⟨rfl, rfl⟩ := hv
    rw [cell_of_row W g j cur e (0, 0) hh, ← ht, List.getElem?_take, if_pos hj]
    simp
theorem OwnA.ats {w : World} {lo c : Nat} {a : Option Addr} {l : List (Int × Int)} (h : OwnA w lo a c l) : AtsAt w a l := by
  cases l with
  | nil => exact .inl rfl
  | cons x r =>
    unfold OwnA at h
    obtain ⟨g, rfl⟩ : ∃ g, a = some ⟨g, 0, none⟩ := by
      rcases h.2 with ⟨_, h0⟩ | ⟨g, cap, cur, hv, _⟩
      · simp at h0
      · simp only [Value.slice.injEq] at hv
        exact ⟨g, hv.1⟩
    refine .inr ⟨g, 0, rfl, fun k hk => ⟨?_, ?_⟩⟩
    · rw [Nat.zero_add, ownsRow_cell h _ (by omega)]
      exact (atCells_at _ k hk).1
    · rw [Nat.zero_add, ownsRow_cell h _ (by omega)]
      exact (atCells_at _ k hk).2
/-! ### tasks -/
def tkc (t : Tk) : List Value := [.int .i64 t.1, .int .i64 t.2.1, .int .i64 t.2.2]
def tkCells (l : List Tk) : List Value := l.flatMap tkc
theorem tkCells_snoc (l : List Tk) (x : Tk) : tkCells (l ++ [x]) = tkCells l ++ tkc x := by
  unfold tkCells
  rw [List.flatMap_append]
  simp
theorem tkCells_at : ∀ (l : List Tk) (k : Nat) (h : k < l.length), (tkCells l)[k * 3]? = some (.int .i64 l[k].1) ∧ (tkCells l)[k * 3 + 1]? = some (.int .i64 l[k].2.1) ∧ (tkCells l)[k * 3 + 2]? = some (.int .i64 l[k].2.2)
  | [], k, h => absurd h (Nat.not_lt_zero _)
  | x :: r, 0, _ => ⟨rfl, rfl, rfl⟩
  | x :: r, k + 1, h => by
    have ih := tkCells_at r k (by simpa using h)
    have e : tkCells (x :: r) = tkc x ++ tkCells r := rfl
    rw [e, List.getElem?_append_right (by simp [tkc]; omega), List.getElem?_append_right (by simp [tkc]; omega), List.getElem?_append_right (by simp [tkc]; omega), show (k + 1) * 3 - (tkc x).length = k * 3 by simp [tkc]; omega, show (k + 1) * 3 + 1 - (tkc x).length = k * 3 + 1 by simp [tkc]; omega, show (k + 1) * 3 + 2 - (tkc x).length = k * 3 + 2 by simp [tkc]; omega]
    simpa using ih
/-- What is no row of tasks is as it was. -/
def Kp (w w' : World) : Prop := ∀ (b : Nat) (cs : Array Value) (t : TypeId) (fr : Nat × Nat), w.heap[b]? = some (.cells cs t fr) → t ≠ 37 → w'.heap[b]? = some (.cells cs t fr)
theorem Kp.refl (w : World) : Kp w w := fun _ _ _ _ h _ => h
theorem Kp.trans {a b c : World} (h : Kp a b) (h' : Kp b c) : Kp a c := fun i cs t fr hi ht => h' i cs t fr (h i cs t fr hi ht) ht
theorem Kp.of_below {w w' : World} (h : Below w.heap.size w w') : Kp w w' := fun b _ _ _ hb _ => (h.block b (Array.getElem?_eq_some_iff.1 hb).1).trans hb
theorem Kp.ownA {w w' : World} {lo c : Nat} {a : Option Addr} {l : List (Int × Int)} (k : Kp w w') (h : OwnA w lo a c l) : OwnA w' lo a c l := by
  refine ⟨h.1, ?_⟩
  rcases h.2 with h0 | ⟨g, cap, cur, hv, hb, hh, hr⟩
  · exact .inl h0
  · exact .inr ⟨g, cap, cur, hv, hb, k g cur 31 (0, 0) hh (by decide), hr⟩
theorem kp_grown {W W' : World} {lo n k : Nat} {v : Value} {xs : List Value} (h : W.ownsRow lo 37 n v k xs) (hg : W.grownBy W' v.ownBlock) : Kp W W' := fun b cs t fr hb ht => by
  refine (hg.block b (Array.getElem?_eq_some_iff.1 hb).1 (fun e' => ?_)).trans hb
  rcases h.2 with ⟨rfl, _⟩ | ⟨g, cap, cur, rfl, _, hh, _⟩
  · simp [Value.ownBlock] at e'
  · have e : g = b := by simpa [Value.ownBlock] using e'.symm
    subst e
    rw [hb] at hh
    cases hh
    exact ht rfl
def OwnT (w : World) (lo : Nat) (a : Option Addr) (c : Nat) (l : List Tk) : Prop := w.ownsRow lo 37 3 (.slice a l.length c) l.length (tkCells l)
theorem info37 : (Try.prog.info? 37).map (fun i => (i.zero, i.size, i.bytes)) = some (some (.agg #[.int .i64 0, .int .i64 0, .int .i64 0]), 3, 24) := by kernel_rfl
theorem wp_append_tk {w : World} {o : Oper} {a : Act} {K : Act → World → Prop} {Q : Exit → Act → World → Prop} (s x : Operand)
    (ho : o.op = .call { callee := .builtin .append, args := #[s, x], argTypes := #[33, 33] }) (B : Nat) (av : Option Addr) (n cv : Nat) (L : List Tk) (hn : L.length = n) (hs : a.eval s = .slice av n cv) (hown : OwnT w B av cv L)
    (ad : Addr) (y : Tk) (hx : a.eval x = .slice (some ad) 1 1) (hnews : ∀ j u, (tkc y)[j]? = some u → w.cell? (ad.add j) = some u) (hle : n ≤ 1000000) (w0 : World) (hb : Below B w0 w) (hB : B ≤ w.heap.size)
    (h : ∀ a' c' w', Hid (OwnT w' B a' c' (L ++ [y])) → Below B w0 w' → Kp w w' → K (a.put o.dst (.slice a' (n + 1) c')) w') : o.wp Try.prog a w K Q := by
  obtain ⟨i, hi, hz0, hz1, hz2⟩ := info_parts info37
  subst hn
  refine wp_append_own w s x 33 ho B 37 i _ 3 24 Try.underlying33 hi hz0 hz1 hz2 rfl (by decide) _ _ _ hs hown ad 1 1 (tkc y) hx rfl hnews (by simp [tkc, Value.oneCell']) (by unfold maxLen; omega) (by omega) hB ?_
  intro v' w' h1 h2 _
  have hb' : Below B w0 w' := hb.grown h2 hB (fun k hk => (World.ownsRow.lt hown k hk).1)
  have e : ∃ a' c', v' = .slice a' (L.length + 1) c' := by
    rcases h1.2 with ⟨hv, hn⟩ | ⟨g, cap, _, hv, _⟩
    · omega
    · exact ⟨_, _, hv⟩
  obtain ⟨a', c', rfl⟩ := e
  refine h a' c' w' ?_ hb' (kp_grown hown h2)
  show OwnT _ _ _ _ _
  unfold OwnT
  rw [List.length_append, tkCells_snoc]
  exact h1
theorem wpList_append_tk {w : World} {ops : Array Oper} {rest : List Oper} {o : Oper} {a : Act} {Q : Exit → Act → World → Prop} (hgd : o.guard = none) (s x : Operand)
    (ho : o.op = .call { callee := .builtin .append, args := #[s, x], argTypes := #[33, 33] }) (B : Nat) (av : Option Addr) (n cv : Nat) (L : List Tk) (hn : L.length = n) (hs : a.eval s = .slice av n cv) (hown : OwnT w B av cv L)
    (ad : Addr) (y : Tk) (hx : a.eval x = .slice (some ad) 1 1) (hnews : ∀ j u, (tkc y)[j]? = some u → w.cell? (ad.add j) = some u) (hle : n ≤ 1000000) (w0 : World) (hb : Below B w0 w) (hB : B ≤ w.heap.size)
    (h : ∀ a' c' w', Hid (OwnT w' B a' c' (L ++ [y])) → Below B w0 w' → Kp w w' → wpList Try.prog ops Q rest (a.put o.dst (.slice a' (n + 1) c')) w') : wpList Try.prog ops Q (o :: rest) a w :=
  wpList_plain hgd fun _ hK => wp_append_tk s x ho B av n cv L hn hs hown ad y hx hnews hle w0 hb hB fun a' c' w' h1 h2 h3 => hK _ _ (h a' c' w' h1 h2 h3)
theorem OwnT.tks {w : World} {lo c : Nat} {a : Option Addr} {l : List Tk} (h : OwnT w lo a c l) : TksAt w a l := by
  cases l with
  | nil => exact .inl rfl
  | cons x r =>
    unfold OwnT at h
    obtain ⟨g, rfl⟩ : ∃ g, a = some ⟨g, 0, none⟩ := by
      rcases h.2 with ⟨_, h0⟩ | ⟨g, cap, cur, hv, _⟩
      · simp at h0
      · simp only [Value.slice.injEq] at hv
        exact ⟨g, hv.1⟩
    refine .inr ⟨g, 0, rfl, fun k hk => ⟨?_, ?_, ?_⟩⟩
    · rw [Nat.zero_add, ownsRow_cell h _ (by omega)]
      exact (tkCells_at _ k hk).1
    · rw [Nat.zero_add, ownsRow_cell h _ (by omega)]
      exact (tkCells_at _ k hk).2.1
    · rw [Nat.zero_add, ownsRow_cell h _ (by omega)]
      exact (tkCells_at _ k hk).2.2
theorem cell_two_new (W : World) (T : TypeId) (u v : Value) : ∀ (j : Nat) (x : Value), [u, v][j]? = some x → (W.alloc (.cells #[u, v] T)).cell? (Addr.add ⟨W.heap.size, 0, none⟩ j) = some x := by
  intro j x h
  have e := cell_of_row (W.alloc (.cells #[u, v] T)) W.heap.size j _ T (0, 0) (heap_alloc_new W _)
  match j with
  | 0 => simpa [Addr.add] using e.trans h
  | 1 => simpa [Addr.add] using e.trans h
  | j + 2 => simp at h
theorem cell_three_new (W : World) (T : TypeId) (u v y : Value) : ∀ (j : Nat) (x : Value), [u, v, y][j]? = some x → (W.alloc (.cells #[u, v, y] T)).cell? (Addr.add ⟨W.heap.size, 0, none⟩ j) = some x := by
  intro j x h
  have e := cell_of_row (W.alloc (.cells #[u, v, y] T)) W.heap.size j _ T (0, 0) (heap_alloc_new W _)
  match j with
  | 0 => simpa [Addr.add] using e.trans h
  | 1 => simpa [Addr.add] using e.trans h
  | 2 => simpa [Addr.add] using e.trans h
  | j + 3 => simp at h
theorem ownsRow_on {W W' : World} {b e size k : Nat} {v : Value} {xs : List Value} (h : W.ownsRow b e size v k xs) (hB : Below W.heap.size W W') : W'.ownsRow b e size v k xs := by
  refine ⟨h.1, ?_⟩
  rcases h.2 with h0 | ⟨g, cap, cur, hv, hb, hh, hr⟩
  · exact .inl h0
  · exact .inr ⟨g, cap, cur, hv, hb, (hB.block g (Array.getElem?_eq_some_iff.1 hh).1).trans hh, hr⟩
theorem ownsRow_base {W : World} {b b' e size k : Nat} {v : Value} {xs : List Value} (h : W.ownsRow b e size v k xs) (hb : b' ≤ b) : W.ownsRow b' e size v k xs := by
  refine ⟨h.1, ?_⟩
  rcases h.2 with h0 | ⟨g, cap, cur, hv, hg, hr⟩
  · exact .inl h0
  · exact .inr ⟨g, cap, cur, hv, Nat.le_trans hb hg, hr⟩
/-! ### the document's Near -/
def nrU (x z r : Int) (S n : Nat) : List (Int × Int) := (List.range n).map fun k => (x - r + ((k % S : Nat) : Int), z - r + ((k / S : Nat) : Int))
theorem nrU_len (x z r : Int) (S n : Nat) : (nrU x z r S n).length = n := by simp [nrU]
theorem nrU_succ (x z r : Int) (S M I : Nat) (hI : I < S) : nrU x z r S (M * S + (I + 1)) = nrU x z r S (M * S + I) ++ [(x - r + (I : Int), z - r + (M : Int))] := by
  unfold nrU
  rw [show M * S + (I + 1) = (M * S + I) + 1 by omega, List.range_succ, List.map_append, List.map_singleton]
  have e1 : (M * S + I) % S = I := by rw [Nat.mul_comm, Nat.mul_add_mod]; exact Nat.mod_eq_of_lt hI
  have e2 : (M * S + I) / S = M := by rw [Nat.mul_comm, Nat.mul_add_div (by omega), Nat.div_eq_of_lt hI]; omega
  rw [e1, e2]
set_option maxHeartbeats 1000000 in
theorem rnear_c (x z r : Int) (w : World) (hx : Far 2199023255560 x) (hz : Far 2199023255560 z) (hr : I64 r) :
    Calls Try.prog 29 #[.agg #[.int .i64 x, .int .i64 z], .int .i64 r] w fun e w' => Below w.heap.size w w' ∧ ∃ a c, e = .returned (.slice a (nrL x z r).length c) ∧ OwnA w' w.heap.size a c (nrL x z r) ∧ (nrL x z r).length ≤ 289 := by
  obtain ⟨Post, hPost⟩ : ∃ Post : Ending → World → Prop, Post = fun e w' => Below w.heap.size w w' ∧ ∃ a c, e = .returned (.slice a (nrL x z r).length c) ∧ OwnA w' w.heap.size a c (nrL x z r) ∧ (nrL x z r).length ≤ 289 := ⟨_, rfl⟩
  rw [← hPost]
  have HP : Hid (∀ a m c w', Below w.heap.size w w' → m = (nrL x z r).length → OwnA w' w.heap.size a c (nrL x z r) → m ≤ 289 → Post (.returned (.slice a m c)) w') := fun a m c w' h1 h2 h3 h4 => by rw [hPost]; subst h2; exact ⟨h1, a, c, rfl, h3, h4⟩
  clear hPost
  obtain ⟨hx1, hx2⟩ := hx
  obtain ⟨hz1, hz2⟩ := hz
  obtain ⟨hr1, hr2⟩ := hr
  have Hb0 : Hid (Below w.heap.size w (w.alloc (.cells #[.int .i64 x, .int .i64 z] 31))) := (Below.refl _ _).alloc (Nat.le_refl _) _
  by_cases h0 : r < 0
  · have e : nrL x z r = [] := by unfold nrL; rw [if_neg (by omega)]
    have R := HP.out none 0 0 _ Hb0.out (by rw [e]; rfl) (by rw [e]; exact World.ownsRow_nil _ _ _ _) (by omega)
    clear HP e
    go_enter Try.func29, Try.ntmps29
    go_wp2
    exact R
  · by_cases h8 : 8 < r
    · have e : nrL x z r = [] := by unfold nrL; rw [if_neg (by omega)]
      have R := HP.out none 0 0 _ Hb0.out (by rw [e]; rfl) (by rw [e]; exact World.ownsRow_nil _ _ _ _) (by omega)
      clear HP e
      go_enter Try.func29, Try.ntmps29
      go_wp2
      exact R
    · obtain ⟨S, hS0⟩ : ∃ S, S = (2 * r + 1).toNat := ⟨_, rfl⟩
      have hS : (S : Int) = 2 * r + 1 := by omega
      have hS17 : S ≤ 17 := by omega
      have HL : Hid (nrL x z r = nrU x z r S (S * S)) := by show _ = _; unfold nrL nrU; rw [if_pos (by omega), ← hS0]
      clear hS0
      have HSS : Hid (S * S ≤ 289) := Nat.mul_le_mul hS17 hS17
      have hX0 := heap_alloc_new w (.cells #[.int .i64 x, .int .i64 z] 31)
      have HX0 : Hid ((w.alloc (.cells #[.int .i64 x, .int .i64 z] 31)).heap[w.heap.size]? = some (.cells #[.int .i64 x, .int .i64 z] 31 (0, 0))) := hX0
      clear hX0
      go_enter Try.func29, Try.ntmps29
      go_wp2
      have hsz : (w.alloc (.cells #[.int .i64 x, .int .i64 z] 31)).heap.size = w.heap.size + 1 := by simp
      generalize w.alloc (.cells #[.int .i64 x, .int .i64 z] 31) = w0 at *
      have hneg : IntKind.i64.wrap (-r) = -r := by rw [IntKind.wrap_i64]; omega
      go_loopw [5, 6] (fun v y wr => ∃ (M : Nat) (a : Option Addr) (c n : Nat), y = .int .i64 (-r + M) ∧ M ≤ S ∧ v = .slice a n c ∧ Hid (n = M * S) ∧ Hid (OwnA wr (w.heap.size + 1) a c (nrU x z r S n)) ∧ Hid (Below (w.heap.size + 1) w0 wr)) (fun _ y _ => (r + 1 - intOf y).toNat)
      case atStart => exact ⟨0, none, 0, 0, by go_num, by omega, rfl, (Nat.zero_mul S).symm, World.ownsRow_nil _ _ _ _, Below.refl _ _⟩
      case round =>
        obtain ⟨M, a, c, n, rfl, hM, rfl, HN, HO, HB⟩ := hrel
        by_cases hm : M = S
        · have hm' : ¬ -r + (M : Int) ≤ r := by omega
          have eN : n = S * S := by rw [HN.out, hm]
          have hO : OwnA wr (w.heap.size + 1) a c (nrU x z r S (S * S)) := by have := HO.out; rwa [eN] at this
          have R := HP.out a n c wr (Hb0.out.trans (HB.out.mono (by omega))) (by rw [HL.out, nrU_len, eN]) (by rw [HL.out]; exact ownsRow_base hO (by omega)) (by rw [eN]; exact HSS.out)
          clear HP HN HO HB hO eN HL
          go_wp2
          exact R
        · have hm' : -r + (M : Int) ≤ r := by omega
          have hm3 : M < S := by omega
          clear HP
          go_wp2
          go_loopw [5, 7] (fun v y wr => ∃ (I : Nat) (a : Option Addr) (c n : Nat), y = .int .i64 (-r + I) ∧ I ≤ S ∧ v = .slice a n c ∧ Hid (n = M * S + I) ∧ Hid (OwnA wr (w.heap.size + 1) a c (nrU x z r S n)) ∧ Hid (Below (w.heap.size + 1) w0 wr)) (fun _ y _ => (r + 1 - intOf y).toNat)
          case atStart => exact ⟨0, a, c, n, by go_num, by omega, rfl, HN.out, HO, HB⟩
          case round =>
            clear HN HO HB
            obtain ⟨I, a, c, n, rfl, hI, rfl, HN, HO, HB⟩ := hrel
            by_cases hi4 : I = S
            · have hi' : ¬ -r + (I : Int) ≤ r := by omega
              have HN2 : Hid (n = (M + 1) * S) := by show _ = _; rw [HN.out, hi4, Nat.add_mul]; omega
              clear HN
              go_wp2
              go_roundw
              case rel => exact ⟨M + 1, a, c, n, by go_num, by omega, rfl, HN2, HO, HB⟩
              case measure => simp [intOf]; omega
            · have hi' : -r + (I : Int) ≤ r := by omega
              have hi3 : I < S := by omega
              have hX := (HB.out.block w.heap.size (by omega)).trans HX0.out
              have y0 : wr.cell? ⟨w.heap.size, 0, none⟩ = some (.int .i64 x) := (cell_of_row wr _ 0 _ 31 (0, 0) hX).trans rfl
              have y1 : wr.cell? ⟨w.heap.size, 1, none⟩ = some (.int .i64 z) := (cell_of_row wr _ 1 _ 31 (0, 0) hX).trans rfl
              have s1 : IntKind.i64.wrap (x + (-r + (I : Int))) = x - r + (I : Int) := by rw [IntKind.wrap_i64]; omega
              have s2 : IntKind.i64.wrap (z + (-r + (M : Int))) = z - r + (M : Int) := by rw [IntKind.wrap_i64]; omega
              have hlt : n ≤ 289 := by
                rw [HN.out]
                have : M * S + S ≤ S * S := by have := Nat.mul_le_mul_right S (show M + 1 ≤ S by omega); rw [Nat.add_mul] at this; omega
                have := HSS.out
                omega
              have Hu : Hid (nrU x z r S (n + 1) = nrU x z r S n ++ [(x - r + (I : Int), z - r + (M : Int))]) := by
                show _ = _
                rw [HN.out]
                exact nrU_succ x z r S M I hi3
              have hwz : w.heap.size + 1 ≤ wr.heap.size := by have := HB.out.size; omega
              have HO2 : Hid (OwnA (wr.alloc (.cells #[.int .i64 (x - r + (I : Int)), .int .i64 (z - r + (M : Int))] 31)) (w.heap.size + 1) a c (nrU x z r S n)) := HO.out.alloc _
              have HB2 : Hid (Below (w.heap.size + 1) w0 (wr.alloc (.cells #[.int .i64 (x - r + (I : Int)), .int .i64 (z - r + (M : Int))] 31))) := HB.out.alloc hwz _
              have HN2 : Hid (n + 1 = M * S + (I + 1)) := by show _ = _; rw [HN.out]; omega
              clear HN HO HB hX
              go_wp2_with (at_builtin; refine wpList_append_at rfl _ _ rfl (w.heap.size + 1) a n c (nrU x z r S n) (nrU_len _ _ _ _ _) rfl HO2.out ⟨wr.heap.size, 0, none⟩ (x - r + (I : Int), z - r + (M : Int)) rfl (cell_two_new _ _ _ _) (by omega) w0 HB2.out (by simp; omega) ?_; intro a' c' w3 HO3 hb3)
              have HO4 : Hid (OwnA w3 (w.heap.size + 1) a' c' (nrU x z r S (n + 1))) := by have := HO3.out; rw [← Hu.out] at this; exact this
              have HB4 : Hid (Below (w.heap.size + 1) w0 w3) := hb3
              clear HO3 hb3 HO2 HB2 Hu
              go_wp2
              go_roundw
              case rel => exact ⟨I + 1, a', c', n + 1, by go_num, by omega, rfl, HN2, HO4, HB4⟩
              case measure => simp [intOf]; omega
end Go.Proofs.Ytokjbjfpgjincaa
