/-
  LadderCloses: what is known on the way.
-/
import Derived.Test.YtokjbjfpgjincaaLtsks
set_option maxRecDepth 20000
namespace Go.Proofs.Ytokjbjfpgjincaa
open Go.RowKit

/-! ### rows of bools -/
def bvals (xs : List Bool) : Array Value := (xs.map Value.bool).toArray
def BRow (w : World) (b : Nat) (xs : List Bool) : Prop := w.heap[b]? = some (.cells (bvals xs) 4 (0, 0))
theorem BRow.at {w : World} {b : Nat} {xs : List Bool} (H : BRow w b xs) {i : Nat} (hi : i < xs.length) : w.cell? ⟨b, i, none⟩ = some (.bool (xs.getD i false)) := by
  rw [cell_of_row w b i _ 4 (0, 0) H, List.getD_eq_getElem?_getD, List.getElem?_eq_getElem hi]
  simp [bvals, hi]
theorem BRow.free {w : World} {b : Nat} {xs : List Bool} (H : BRow w b xs) (i : Nat) : w.frozen? ⟨b, i, none⟩ = false := frozen_of_row w _ _ _ 4 H
theorem BRow.set {w : World} {b : Nat} {xs : List Bool} (H : BRow w b xs) (i : Nat) (x : Bool) : BRow (w.setCell ⟨b, i, none⟩ (.bool x)) b (xs.set i x) := by
  unfold BRow
  rw [heap_setCell_same w b i _ 4 _ H]
  simp [bvals]
theorem BRow.lt {w : World} {b : Nat} {xs : List Bool} (H : BRow w b xs) : b < w.heap.size := (Array.getElem?_eq_some_iff.1 H).1
theorem BRow.on {w w' : World} {b : Nat} {xs : List Bool} (H : BRow w b xs) (hb : Below w.heap.size w w') : BRow w' b xs := (hb.block b H.lt).trans H
theorem info4 : (Try.prog.info? 4).map (fun i => (i.zero, i.size, i.bytes)) = some (some (.bool false), 1, 1) := by kernel_rfl
theorem made_bools (n : Nat) : madeCells #[.bool false] n = bvals (List.replicate n false) := by
  apply Array.ext
  · simp [madeCells, bvals]
  · intro i h1 h2
    simp [madeCells, bvals]
    rw [Nat.mod_one]
    rfl
theorem wpList_make_bools (w : World) {ops : Array Oper} {rest : List Oper} {o : Oper} {a : Act} {Q : Exit → Act → World → Prop}
    (hg : o.guard = none) (l c : Operand) (hop : o.op = Op.makeSlice 39 l c) (L : Int) (n : Nat) (hl : a.eval l = .int .i64 L) (hc : a.eval c = .int .i64 L) (hL : L = (n : Int)) (hn : n ≤ 1000000000)
    (hK : ∀ w', Hid (BRow w' w.heap.size (List.replicate n false)) → Below w.heap.size w w' → wpList Try.prog ops Q rest (a.put o.dst (.slice (some ⟨w.heap.size, 0, none⟩) n n)) w') :
    wpList Try.prog ops Q (o :: rest) a w := by
  obtain ⟨i, hi, hz0, hz1, hz2⟩ := info_parts info4
  refine wpList_make_full w hg l c 39 hop w.heap.size 4 i (.bool false) 1 Try.underlying39 hi hz0 hz1 .i64 .i64 L L n hl hc hL hL (by rw [hz2]; omega) (by unfold maxLen; omega) (Nat.le_refl _) ?_
  intro w' hown hgrow
  refine hK w' ?_ ((Below.refl _ _).grown hgrow (Nat.le_refl _) (by simp))
  have := own_full hown
  show BRow _ _ _
  unfold BRow
  rw [this, Nat.mul_one]
  show some (Obj.cells (madeCells #[Value.bool false] n) 4 (0, 0)) = _
  rw [made_bools]
/-- Tasks do not lie in a row of bools. -/
theorem TksAt.set {w : World} {a : Option Addr} {ts : List Tk} {ub m : Nat} {U : List Bool} (h : TksAt w a ts) (hB : BRow w ub U) : TksAt (w.setCell ⟨ub, m, none⟩ (.bool true)) a ts := by
  rcases h with h | ⟨b, off, e, hc⟩
  · exact .inl h
  · refine .inr ⟨b, off, e, fun k hk => ?_⟩
    have H := hc k hk
    have hne : b ≠ ub := fun e' => by
      have h0 := H.c0
      subst e'
      rw [cell_of_row w b _ _ 4 (0, 0) hB] at h0
      simp [bvals] at h0
    have key : ∀ j v, w.cell? ⟨b, j, none⟩ = some v → (w.setCell ⟨ub, m, none⟩ (.bool true)).cell? ⟨b, j, none⟩ = some v := fun j v hv => by
      have hb : (w.setCell ⟨ub, m, none⟩ (.bool true)).heap[b]? = w.heap[b]? := Below.heap_setCell w ⟨ub, m, none⟩ _ b hne
      simp only [World.cell?] at hv ⊢
      rw [hb]
      exact hv
    exact ⟨key _ _ H.c0, key _ _ H.c1, key _ _ H.c2⟩
theorem TksAt.at {w : World} {a : Option Addr} {ts : List Tk} (h : TksAt w a ts) {i : Nat} (hi : i < ts.length) : ∃ b off, a = some ⟨b, off, none⟩ ∧ ∀ k (h : k < ts.length), TkIn w b off k ts[k] := by
  rcases h with h | h
  · rw [h] at hi; simp at hi
  · exact h
structure Cw (w2 : World) (ub tn : Nat) (U : List Bool) (wr : World) : Prop where
  row : BRow wr ub U
  len : U.length = tn
  bel : Below w2.heap.size w2 wr
  ge : w2.heap.size ≤ ub
theorem Cw.on {w2 wr w' : World} {ub tn : Nat} {U : List Bool} (h : Cw w2 ub tn U wr) (hb : Below wr.heap.size wr w') : Cw w2 ub tn U w' := ⟨h.row.on hb, h.len, h.bel.trans (hb.mono h.bel.size), h.ge⟩
theorem Cw.set {w2 wr : World} {ub tn : Nat} {U : List Bool} (h : Cw w2 ub tn U wr) (j : Nat) : Cw w2 ub tn (U.set j true) (wr.setCell ⟨ub, j, none⟩ (.bool true)) := ⟨h.row.set j true, by rw [List.length_set]; exact h.len, h.bel.setCell (p := ⟨ub, j, none⟩) h.ge _, h.ge⟩
/-! ### what is used -/
def us (U : List Bool) (m : Nat) : Bool := U.getD m false
theorem us_keep {U : List Bool} {m : Nat} (j : Nat) (h : us U m = true) : us (U.set j true) m = true := by
  unfold us at h ⊢
  rw [List.getD_eq_getElem?_getD, List.getElem?_set]
  by_cases e : j = m
  · subst e
    rw [if_pos rfl]
    by_cases hj : j < U.length
    · rw [if_pos hj]; rfl
    · rw [List.getD_eq_getElem?_getD, List.getElem?_eq_none (by omega)] at h
      simp at h
  · rw [if_neg e, ← List.getD_eq_getElem?_getD]; exact h
theorem us_here {U : List Bool} {j : Nat} (h : j < U.length) : us (U.set j true) j = true := by
  unfold us
  rw [List.getD_eq_getElem?_getD, List.getElem?_set, if_pos rfl, if_pos h]
  rfl
def Us (l : Lad) (T : List Tk) (U : List Bool) (i : Nat) : Prop := ∀ m i' u, i' < i → T[m]? = some u → (∀ t, T[i']? = some t → u ∈ needsL l t) → i' < T.length → us U m = true
def Us2 (T : List Tk) (U : List Bool) (i q : Nat) (N : List Tk) : Prop := ∀ m p u, p < q → m < i → T[m]? = some u → N[p]? = some u → us U m = true
theorem Us.set {l : Lad} {T : List Tk} {U : List Bool} {i : Nat} (h : Us l T U i) (j : Nat) : Us l T (U.set j true) i := fun m i' u h1 h2 h3 h4 => us_keep j (h m i' u h1 h2 h3 h4)
theorem Us2.set {T : List Tk} {U : List Bool} {i q : Nat} {N : List Tk} (h : Us2 T U i q N) (j : Nat) : Us2 T (U.set j true) i q N := fun m p u h1 h2 h3 h4 => us_keep j (h m p u h1 h2 h3 h4)
theorem us_step {l : Lad} {k x z : Int} {U : List Bool} {i : Nat} (h : stOk l k) (hi : i < (tasksL l k x z).length) (h1 : Us l (tasksL l k x z) U i) (h2 : Us2 (tasksL l k x z) U i (needsL l (tasksL l k x z)[i]).length (needsL l (tasksL l k x z)[i])) : Us l (tasksL l k x z) U (i + 1) := by
  intro m i' u hi' hm hn hil
  by_cases e : i' = i
  · subst e
    have hu := hn _ (List.getElem?_eq_getElem hi)
    obtain ⟨m', hm', hlt, he⟩ := tasks_need h hi hu
    obtain ⟨hml, hme⟩ := List.getElem?_eq_some_iff.1 hm
    have emm : m' = m := by
      by_cases e2 : m' = m
      · exact e2
      · exact absurd (he.trans hme.symm) ((List.pairwise_iff_getElem.1 (tasks_once (l := l) (k := k) (x := x) (z := z)) |> fun H => by
          rcases Nat.lt_or_ge m' m with h3 | h3
          · exact H m' m hm' hml h3
          · exact fun e3 => H m m' hml hm' (by omega) e3.symm))
    subst emm
    obtain ⟨p, hp, hpe⟩ := List.mem_iff_getElem.1 hu
    exact h2 m' p u hp hlt hm (by rw [List.getElem?_eq_getElem hp, hpe])
  · exact h1 m i' u (by omega) hm hn hil
theorem us_all {l : Lad} {k x z : Int} {U : List Bool} {m : Nat} (h : stOk l k) (h1 : Us l (tasksL l k x z) U (tasksL l k x z).length) (hm : m + 1 < (tasksL l k x z).length) : us U m = true := by
  have hml : m < (tasksL l k x z).length := by omega
  obtain ⟨hl0, hlast⟩ := tasks_last (x := x) (z := z) h
  have hne : (tasksL l k x z)[m] ≠ (k, x, z) := fun e => by
    have := List.pairwise_iff_getElem.1 (tasks_once (l := l) (k := k) (x := x) (z := z)) m ((tasksL l k x z).length - 1) hml (by omega) (by omega)
    exact this (e.trans hlast.symm)
  obtain ⟨i, hi, hu⟩ := tasks_used h hml hne
  exact h1 m i _ hi (List.getElem?_eq_getElem hml) (fun t ht => by rw [List.getElem?_eq_getElem hi] at ht; cases ht; exact hu) hi
theorem tasks_far {l : Lad} {k x z : Int} (hx : Far 1099511627776 x) (hz : Far 1099511627776 z) {t : Tk} (h : t ∈ tasksL l k x z) : I64 t.1 ∧ Far 2199023255552 t.2.1 ∧ Far 2199023255552 t.2.2 := by
  obtain ⟨s, a, b⟩ := t
  unfold tasksL at h
  obtain ⟨j, hj, hab⟩ := tasksF_mem.1 h
  obtain ⟨⟨h0, h8⟩, c1, c2, c3, c4⟩ := nrL_mem.1 hab
  have hjl := gt_len h0
  obtain ⟨x1, x2⟩ := hx
  obtain ⟨z1, z2⟩ := hz
  have hlen : (radL l k).length ≤ 16 := by
    unfold radL
    split
    · rename_i hs
      rw [spreadL_len]
      exact (st_iff.1 hs).1.f.n
    · simp
  refine ⟨⟨?_, ?_⟩, ⟨?_, ?_⟩, ⟨?_, ?_⟩⟩ <;> simp only <;> omega
theorem stOk_of_task {l : Lad} {k x z : Int} (h : 0 < (tasksL l k x z).length) : stOk l k := by
  refine Classical.byContradiction (fun hn => ?_)
  unfold tasksL at h
  rw [radL_no hn] at h
  simp [tasksF] at h
end Go.Proofs.Ytokjbjfpgjincaa
