/-
  A ladder one of whose stages reads more; rows of reads that one has made oneself.
-/
import Derived.Test.YtokjbjfpgjincabLpre
set_option maxRecDepth 20000
namespace Go.Proofs.Ytokjbjfpgjincab
open Go.RowKit

/-! ### plain -/
def more (l : Lad) (i : Nat) (x : Rd) : Lad := l.set i (l.getD i [] ++ [x])
theorem more_sub {l : Lad} {i : Nat} {x : Rd} (j : Nat) : ∀ y ∈ l.getD j [], y ∈ (more l i x).getD j [] := fun y hy => by
  have hj := of_read hy
  unfold more
  rw [List.getD_eq_getElem?_getD, List.getElem?_set]
  by_cases e : i = j
  · subst e
    rw [if_pos rfl, if_pos hj]
    exact List.mem_append_left _ hy
  · rw [if_neg e, ← List.getD_eq_getElem?_getD]
    exact hy
theorem more_len (l : Lad) (i : Nat) (x : Rd) : (more l i x).length = l.length := by unfold more; rw [List.length_set]
theorem rad_more {l : Lad} {i : Nat} {x : Rd} {k : Int} (h1 : mayB l = true) (h2 : mayB (more l i x) = true) (h0 : 0 ≤ k) (hk : k < (l.length : Int)) (s : Nat) : gt (radL l k) s ≤ gt (radL (more l i x) k) s := by
  have e1 : radL l k = spreadL l k.toNat := radL_ok ⟨may_iff.1 h1, h0, hk⟩
  have e2 : radL (more l i x) k = spreadL (more l i x) k.toNat := radL_ok ⟨may_iff.1 h2, h0, by rw [more_len]; exact hk⟩
  rw [e1, e2]
  exact (spread_is (may_iff.1 h1).f (by omega)).least (spread_is (may_iff.1 h2).f (by rw [more_len]; omega)) (fun j _ y hy => more_sub j y hy) (may_iff.1 h1).f s
theorem cap1_le {r q : Int} (h : r ≤ q) : cap1 r ≤ cap1 q := by
  unfold cap1
  by_cases h0 : 0 ≤ r
  · rw [if_pos h0, if_pos (by omega)]
    exact Int.mul_le_mul (by omega) (by omega) (by omega) (by omega)
  · rw [if_neg h0]
    split
    · exact Int.mul_nonneg (by omega) (by omega)
    · exact Int.le_refl _
theorem capS_le : ∀ (xs ys : List Int), xs.length = ys.length → (∀ s, gt xs s ≤ gt ys s) → capS xs ≤ capS ys
  | [], [], _, _ => Int.le_refl _
  | [], y :: ys, h, _ => by simp at h
  | x :: xs, [], h, _ => by simp at h
  | x :: xs, y :: ys, h, hs => by
    have ih := capS_le xs ys (by simpa using h) (fun s => hs (s + 1))
    have h0 : x ≤ y := hs 0
    have := cap1_le h0
    have e1 : capS (x :: xs) = cap1 x + capS xs := by simp [capS]
    have e2 : capS (y :: ys) = cap1 y + capS ys := by simp [capS]
    omega
/-! ### rows of reads -/
def rdc (x : Rd) : List Value := [.int .i64 x.1, .int .i64 x.2]
def rdCells (l : List Rd) : List Value := l.flatMap rdc
theorem rdCells_snoc (l : List Rd) (x : Rd) : rdCells (l ++ [x]) = rdCells l ++ rdc x := by
  unfold rdCells
  rw [List.flatMap_append]
  simp
theorem rdCells_len (l : List Rd) : (rdCells l).length = l.length * 2 := by
  induction l with
  | nil => rfl
  | cons x r ih =>
    show (rdc x ++ rdCells r).length = _
    rw [List.length_append, ih, List.length_cons]
    simp only [rdc, List.length_cons, List.length_nil]
    omega
theorem rdCells_at : ∀ (l : List Rd) (k : Nat) (h : k < l.length), (rdCells l)[k * 2]? = some (.int .i64 l[k].1) ∧ (rdCells l)[k * 2 + 1]? = some (.int .i64 l[k].2)
  | [], k, h => absurd h (Nat.not_lt_zero _)
  | x :: r, 0, _ => ⟨rfl, rfl⟩
  | x :: r, k + 1, h => by
    have ih := rdCells_at r k (by simpa using h)
    have e : rdCells (x :: r) = rdc x ++ rdCells r := rfl
    rw [e, List.getElem?_append_right (by simp [rdc]; omega), List.getElem?_append_right (by simp [rdc]; omega), show (k + 1) * 2 - (rdc x).length = k * 2 by simp [rdc]; omega, show (k + 1) * 2 + 1 - (rdc x).length = k * 2 + 1 by simp [rdc]; omega]
    simpa using ih
theorem rdCells_one (l : List Rd) : ∀ u ∈ rdCells l, u.oneCell' = true := fun u hu => by
  unfold rdCells at hu
  obtain ⟨x, _, hx⟩ := List.mem_flatMap.1 hu
  simp only [rdc, List.mem_cons, List.not_mem_nil, or_false] at hx
  rcases hx with rfl | rfl <;> rfl
def OwnR (w : World) (lo : Nat) (a : Option Addr) (c : Nat) (l : List Rd) : Prop := w.ownsRow lo 24 2 (.slice a l.length c) l.length (rdCells l)
theorem OwnR.rd {w : World} {lo c : Nat} {a : Option Addr} {l : List Rd} (h : OwnR w lo a c l) (hi : ∀ x ∈ l, I64 x.1 ∧ I64 x.2) : RdAt w a l := fun k hk => by
  unfold OwnR at h
  obtain ⟨g, rfl⟩ : ∃ g, a = some ⟨g, 0, none⟩ := by
    rcases h.2 with ⟨_, h0⟩ | ⟨g, cap, cur, hv, _⟩
    · omega
    · simp only [Value.slice.injEq] at hv
      exact ⟨g, hv.1⟩
  have H := hi l[k] (List.getElem_mem hk)
  refine ⟨g, 0, rfl, ?_, ?_, H.1, H.2⟩
  · rw [Nat.zero_add, ownsRow_cell h _ (by omega)]
    exact (rdCells_at _ k hk).1
  · rw [Nat.zero_add, ownsRow_cell h _ (by omega)]
    exact (rdCells_at _ k hk).2
theorem info24 : (Try.prog.info? 24).map (fun i => (i.zero, i.size, i.bytes)) = some (some (.agg #[.int .i64 0, .int .i64 0]), 2, 16) := by kernel_rfl
theorem wp_copy_rd {w : World} {o : Oper} {a : Act} {K : Act → World → Prop} {Q : Exit → Act → World → Prop} (x : Operand)
    (ho : o.op = .call { callee := .builtin .append, args := #[.const (.slice none 0 0), x], argTypes := #[26, 26] }) (sp : Option Addr) (m sc : Nat) (L : List Rd) (hm : L.length = m) (hx : a.eval x = .slice sp m sc) (hR : RdAt w sp L) (hnil : sp = none → sc = 0) (hle : m ≤ 8796093021952) (B : Nat) (w0 : World) (hb : Below B w0 w) (hB : B ≤ w.heap.size)
    (h : ∀ a' c' w', Hid (OwnR w' B a' c' L) → Below B w0 w' → K (a.put o.dst (.slice a' m c')) w') : o.wp Try.prog a w K Q := by
  obtain ⟨i, hi, hz0, hz1, hz2⟩ := info_parts info24
  cases sp with
  | none =>
    obtain rfl := hnil rfl
    have hL : L = [] := by
      cases L with
      | nil => rfl
      | cons y ys =>
        obtain ⟨_, _, e, _⟩ := hR 0 (by simp)
        cases e
    subst hL
    simp at hm
    subst hm
    have hrun := run_append_owned_none (P := Try.prog) (w := w) 0 26 o.type 24 i 2 Try.underlying26 hi (.slice none 0 0) 0 [] (World.ownsRow_nil _ _ _ _)
    have hev : a.eval (.const (.slice none 0 0)) = .slice none 0 0 := rfl
    unfold Oper.wp
    simp [execOp, ho, resolve, invoke, builtin, hx, hev, hrun, Result.andThen]
    exact h none 0 w (World.ownsRow_nil _ _ _ _) hb
  | some ad =>
    refine wp_append_own w (.const (.slice none 0 0)) x 26 ho B 24 i _ 2 16 Try.underlying26 hi hz0 hz1 hz2 rfl (by decide) (.slice none 0 0) 0 [] rfl (World.ownsRow_nil _ _ _ _) ad m sc (rdCells L) hx (by rw [rdCells_len, hm]) ?_ (rdCells_one L) (by unfold maxLen; omega) (by omega) hB ?_
    · intro j u hj
      obtain ⟨hj', hv⟩ := List.getElem?_eq_some_iff.1 hj
      rw [rdCells_len] at hj'
      have hk : j / 2 < L.length := by omega
      obtain ⟨b, off, e, h1⟩ := hR (j / 2) hk
      cases e
      have hjj : j = j / 2 * 2 ∨ j = j / 2 * 2 + 1 := by omega
      rw [Addr.add_lit]
      rcases hjj with e | e
      · rw [e] at hj
        have := (rdCells_at L (j / 2) hk).1
        rw [this] at hj
        cases hj
        have h0 := h1.c0
        rwa [← e] at h0
      · rw [e] at hj
        have := (rdCells_at L (j / 2) hk).2
        rw [this] at hj
        cases hj
        have h0 := h1.c1
        rwa [Nat.add_assoc, ← e] at h0
    · intro v' w' h1 h2 _
      have hb' : Below B w0 w' := hb.grown h2 hB (fun k hk => by cases hk)
      have e : ∃ a' c', v' = .slice a' (0 + m) c' := by
        rcases h1.2 with ⟨hv, hn⟩ | ⟨g, cap, _, hv, _⟩
        · exact ⟨none, 0, by rw [hv, hn]⟩
        · exact ⟨_, _, hv⟩
      obtain ⟨a', c', rfl⟩ := e
      have := h a' c' w' (by show OwnR _ _ _ _ _; unfold OwnR; rw [hm]; simpa using h1) hb'
      simpa using this
theorem wp_append_rd {w : World} {o : Oper} {a : Act} {K : Act → World → Prop} {Q : Exit → Act → World → Prop} (s x : Operand)
    (ho : o.op = .call { callee := .builtin .append, args := #[s, x], argTypes := #[26, 26] }) (B : Nat) (av : Option Addr) (n cv : Nat) (L : List Rd) (hn : L.length = n) (hs : a.eval s = .slice av n cv) (hown : OwnR w B av cv L)
    (ad : Addr) (y : Rd) (hx : a.eval x = .slice (some ad) 1 1) (hnews : ∀ j u, (rdc y)[j]? = some u → w.cell? (ad.add j) = some u) (hle : n ≤ 8796093021952) (w0 : World) (hb : Below B w0 w) (hB : B ≤ w.heap.size)
    (h : ∀ a' c' w', Hid (OwnR w' B a' c' (L ++ [y])) → Below B w0 w' → K (a.put o.dst (.slice a' (n + 1) c')) w') : o.wp Try.prog a w K Q := by
  obtain ⟨i, hi, hz0, hz1, hz2⟩ := info_parts info24
  subst hn
  refine wp_append_own w s x 26 ho B 24 i _ 2 16 Try.underlying26 hi hz0 hz1 hz2 rfl (by decide) _ _ _ hs hown ad 1 1 (rdc y) hx rfl hnews (by simp [rdc, Value.oneCell']) (by unfold maxLen; omega) (by omega) hB ?_
  intro v' w' h1 h2 _
  have hb' : Below B w0 w' := hb.grown h2 hB (fun k hk => (World.ownsRow.lt hown k hk).1)
  have e : ∃ a' c', v' = .slice a' (L.length + 1) c' := by
    rcases h1.2 with ⟨hv, hn⟩ | ⟨g, cap, _, hv, _⟩
    · omega
    · exact ⟨_, _, hv⟩
  obtain ⟨a', c', rfl⟩ := e
  refine h a' c' w' ?_ hb'
  show OwnR _ _ _ _ _
  unfold OwnR
  rw [List.length_append, rdCells_snoc]
  exact h1
/-- The row of stages, one of them set. -/
structure Row1 (w : World) (g n : Nat) (L : List Rn) : Prop where
  cell : ∀ i (h : i < L.length), w.cell? ⟨g, i, none⟩ = some (rgv L[i])
  free : ∀ i, w.frozen? ⟨g, i, none⟩ = false
  len : L.length = n
  lt : g < w.heap.size
theorem OwnG.row1 {w : World} {lo c : Nat} {a : Option Addr} {L : List Rn} (h : OwnG w lo a c L) (h0 : 0 < L.length) : ∃ g, a = some ⟨g, 0, none⟩ ∧ lo ≤ g ∧ Row1 w g L.length L := by
  unfold OwnG at h
  rcases h.2 with ⟨_, hn⟩ | ⟨g, cap, cur, hv, hlo, hh, _⟩
  · omega
  · simp only [Value.slice.injEq] at hv
    obtain ⟨rfl, _, rfl⟩ := hv
    refine ⟨g, rfl, hlo, fun i hi => ?_, fun i => frozen_of_row w _ _ _ 28 hh, rfl, (Array.getElem?_eq_some_iff.1 hh).1⟩
    rw [ownsRow_cell h _ (by omega), List.getElem?_map, List.getElem?_eq_getElem hi]
    rfl
theorem Row1.on {w w' : World} {g n : Nat} {L : List Rn} (h : Row1 w g n L) (hb : Below w.heap.size w w') : Row1 w' g n L := by
  have e : w'.heap[g]? = w.heap[g]? := hb.block g h.lt
  refine ⟨fun i hi => cell_below (h.cell i hi) hb, fun i => ?_, h.len, Nat.lt_of_lt_of_le h.lt hb.size⟩
  have := h.free i
  simp only [World.frozen?] at this ⊢
  rw [e]
  exact this
theorem Row1.set {w : World} {g n k : Nat} {v : Value} {L : List Rn} (h : Row1 w g n L) (hok : ∀ x ∈ L, RnOk (w.setCell ⟨g, k, none⟩ v) x) (hk : k < L.length) (y : Rn) (hy : RnOk (w.setCell ⟨g, k, none⟩ v) y) (hv : v = rgv y) : RgAt (w.setCell ⟨g, k, none⟩ v) (some ⟨g, 0, none⟩) (L.set k y) := fun i hi => by
  rw [List.length_set] at hi
  have hc0 := h.cell k hk
  by_cases e : k = i
  · subst e
    refine ⟨g, 0, rfl, ?_, ?_, ?_, ?_⟩
    · rw [List.getElem_set_self, Nat.zero_add, World.cell?_setCell_same _ _ _ hc0, hv]
      rfl
    · rw [List.getElem_set_self]; exact hy.rd
    · rw [List.getElem_set_self]; exact hy.nil
    · rw [List.getElem_set_self]; exact hy.sz
  · have H := hok L[i] (List.getElem_mem hi)
    refine ⟨g, 0, rfl, ?_, ?_, ?_, ?_⟩
    · rw [List.getElem_set_ne e, Nat.zero_add, World.cell?_setCell_other]
      · exact h.cell i hi
      · exact fun h => e (by cases h; rfl)
    · rw [List.getElem_set_ne e]; exact H.rd
    · rw [List.getElem_set_ne e]; exact H.nil
    · rw [List.getElem_set_ne e]; exact H.sz
theorem OwnR.far {w : World} {lo c g j : Nat} {a : Option Addr} {l : List Rd} {v : Value} (h : OwnR w lo a c l) (hg : g < lo) : OwnR (w.setCell ⟨g, j, none⟩ v) lo a c l := by
  refine ⟨h.1, ?_⟩
  rcases h.2 with h0 | ⟨b, cap, cur, hv, hb, hh, hr⟩
  · exact .inl h0
  · refine .inr ⟨b, cap, cur, hv, hb, ?_, hr⟩
    rw [Below.heap_setCell w ⟨g, j, none⟩ v b (fun e => by simp only at e; omega)]
    exact hh
theorem OwnR.some {w : World} {lo c : Nat} {a : Option Addr} {l : List Rd} (h : OwnR w lo a c l) (h0 : 0 < l.length) : a ≠ none := fun e => by
  subst e
  rcases h.2 with ⟨_, hn⟩ | ⟨b, cap, cur, hv, _⟩
  · omega
  · simp at hv
theorem RdAt.i64 {w : World} {a : Option Addr} {l : List Rd} (h : RdAt w a l) : ∀ x ∈ l, I64 x.1 ∧ I64 x.2 := fun x hx => by
  obtain ⟨i, hi, rfl⟩ := List.mem_iff_getElem.1 hx
  obtain ⟨_, _, _, h1⟩ := h i hi
  exact ⟨h1.i0, h1.i1⟩
theorem lad_more {L : List Rn} {k : Nat} (hk : k < L.length) (a : Option Addr) (c : Nat) (x : Rd) : lad (L.set k ⟨a, c, L[k].r ++ [x]⟩) = more (lad L) k x := by
  unfold more
  rw [lad_at L k hk]
  unfold lad
  rw [List.map_set]
end Go.Proofs.Ytokjbjfpgjincab
