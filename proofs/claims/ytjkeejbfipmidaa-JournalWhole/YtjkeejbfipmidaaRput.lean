/-
  The document's disk: a block is written, new or again: what memory holds behind it.
-/
import Derived.Test.YtjkeejbfipmidaaRread
import Derived.Deep.AppendLies
namespace Go.Proofs.Ytjkeejbfipmidaa
open Go.RowKit

/-- One block's cells. -/
abbrev bkCells (f : Fl) (i : Int) (p : Nat × Nat) : List Value := [.int .i64 f.1, .int .i64 f.2.1, .int .i64 f.2.2, .int .i64 i, .slice (some ⟨p.1, 0, none⟩) 32 p.2]
theorem rowOf_snoc : ∀ (l : List Bk) (q : List (Nat × Nat)) (b : Bk) (p : Nat × Nat), l.length = q.length → rowOf (l ++ [b]) (q ++ [p]) = rowOf l q ++ bkCells b.f b.i p
  | [], [], b, p, _ => rfl
  | x :: l, y :: q, b, p, h => by
    show _ ++ rowOf (l ++ [b]) (q ++ [p]) = (_ ++ rowOf l q) ++ _
    rw [rowOf_snoc l q b p (by simpa using h), List.append_assoc]
theorem rowOf_set : ∀ (l : List Bk) (q : List (Nat × Nat)) (j : Nat) (hj : j < l.length) (bs : List Int) (p : Nat × Nat), l.length = q.length →
    rowOf (l.set j ⟨l[j].f, l[j].i, bs⟩) (q.set j p) = (rowOf l q).set (j * 5 + 4) (.slice (some ⟨p.1, 0, none⟩) 32 p.2)
  | x :: l, y :: q, 0, _, bs, p, _ => rfl
  | x :: l, y :: q, j + 1, hj, bs, p, h => by
    rw [List.set_cons_succ, List.set_cons_succ, rowOf, rowOf, show (j + 1) * 5 + 4 = 5 + (j * 5 + 4) by omega]
    have ih := rowOf_set l q j (by simpa using hj) bs p (by simpa using h)
    simp only [List.getElem_cons_succ]
    rw [ih]
    rw [List.set_append_right _ _ (by simp)]
    congr 2
    simp
theorem bytes_lt {w : World} {p : Nat} {bs : List Int} (h : Bytes w (some ⟨p, 0, none⟩) 32 bs) : p < w.heap.size := by
  obtain ⟨b, off, z, e, hc, _⟩ := h.get 0 (by omega)
  cases e
  exact World.block_lt_of_cell? w _ hc
theorem RD.rowb {F : Nat → Prop} {w : World} {g : Nat} {S : St} {a : Option Addr} {c : Nat} {q : List (Nat × Nat)} (h : RD F w g S a c q) : (a = none ∧ S.l.length = 0) ∨ ∃ b, a = some ⟨b, 0, none⟩ ∧ b < w.heap.size ∧ F b ∧ b ≠ g := by
  rcases h.row.2 with ⟨hv, h0⟩ | ⟨b, cap, cur, hv, _, hh, _⟩
  · rw [Value.slice.injEq] at hv; exact Or.inl ⟨hv.1, h0⟩
  · rw [Value.slice.injEq] at hv
    exact Or.inr ⟨b, hv.1, (Array.getElem?_eq_some_iff.1 hh).1, h.inF.2.1 b hv.1⟩
theorem heap_alloc_old (w : World) (o : Obj) {k : Nat} (hk : k < w.heap.size) : (w.alloc o).heap[k]? = w.heap[k]? := ((Below.refl w.heap.size w).alloc (Nat.le_refl _) o).block k hk

theorem RD.grown {F : Nat → Prop} {w1 : World} {g : Nat} {S : St} {a : Option Addr} {c : Nat} {q : List (Nat × Nat)} (h : RD F w1 g S a c q) {w2 w4 : World} {p cp : Nat} {f : Fl} {i : Int} {bs : List Int}
    (hb2 : Below w1.heap.size w1 w2) (hp : w1.heap.size ≤ p) (hB : Bytes w2 (some ⟨p, 0, none⟩) 32 bs) {ob : Obj} {b' cap : Nat}
    (hown : w4.ownsRow 0 72 5 (.slice (some ⟨b', 0, none⟩) (S.l.length + 1) cap) (S.l.length + 1) (rowOf S.l q ++ bkCells f i (p, cp)))
    (hgr : (w2.alloc ob).grownBy w4 (Value.ownBlock (.slice a S.l.length c))) (hat : Value.ownBlock (.slice a S.l.length c) = some b' ∨ b' = w2.heap.size + 1) (hlt : b' < w4.heap.size)
    (hok : argOk i bs.length) (hl : S.l.length < 1000000) :
    RD (fun k => F k ∨ (w1.heap.size ≤ k ∧ k < (w4.setCell ⟨g, 0, none⟩ (.slice (some ⟨b', 0, none⟩) (S.l.length + 1) cap)).heap.size)) (w4.setCell ⟨g, 0, none⟩ (.slice (some ⟨b', 0, none⟩) (S.l.length + 1) cap)) g { S with l := S.l ++ [⟨f, i, bs⟩] } (some ⟨b', 0, none⟩) cap (q ++ [(p, cp)]) ∧
    Chg F w1 (w4.setCell ⟨g, 0, none⟩ (.slice (some ⟨b', 0, none⟩) (S.l.length + 1) cap)) := by
  have hg := h.glt
  have hpl := bytes_lt hB
  have hs2 := hb2.size
  have hs4 := hgr.size
  rw [World.size_alloc] at hs4
  have hs5 : (w4.setCell ⟨g, 0, none⟩ (.slice (some ⟨b', 0, none⟩) (S.l.length + 1) cap)).heap.size = w4.heap.size := by simp [World.setCell]
  have ho : ∀ k, Value.ownBlock (.slice a S.l.length c) = some k → a = some ⟨k, 0, none⟩ ∧ k < w1.heap.size ∧ F k ∧ k ≠ g := fun k hk => by
    rcases h.rowb with ⟨e, _⟩ | ⟨b, e, h1, h2, h3⟩
    · rw [e] at hk; cases hk
    · rw [e] at hk ⊢
      cases hk
      exact ⟨rfl, h1, h2, h3⟩
  have hbg : b' ≠ g := by
    rcases hat with h1 | h1
    · exact (ho b' h1).2.2.2
    · omega
  have old : ∀ k, k < w2.heap.size → (k < w1.heap.size → Value.ownBlock (.slice a S.l.length c) ≠ some k) → w4.heap[k]? = w2.heap[k]? := fun k hk hne => by
    rw [hgr.block k (by rw [World.size_alloc]; omega) (fun e => hne (ho k e.symm).2.1 e.symm)]
    exact heap_alloc_old w2 ob hk
  have old1 : ∀ k, k < w1.heap.size → Value.ownBlock (.slice a S.l.length c) ≠ some k → w4.heap[k]? = w1.heap[k]? := fun k hk hne => by
    rw [old k (by omega) (fun _ => hne)]
    exact hb2.block k hk
  have hset : ∀ k, k ≠ g → (w4.setCell ⟨g, 0, none⟩ (.slice (some ⟨b', 0, none⟩) (S.l.length + 1) cap)).heap[k]? = w4.heap[k]? := fun k hk => Below.heap_setCell w4 ⟨g, 0, none⟩ _ k hk
  have hh4 : w4.heap[g]? = _ := (old1 g hg (fun e => (ho g e).2.2.2 rfl)).trans h.head
  have hgood : Good (S.l ++ [⟨f, i, bs⟩]) := fun b hb => by
    rcases List.mem_append.1 hb with hb | hb
    · exact h.ok b hb
    · obtain rfl := List.mem_singleton.1 hb
      exact ⟨hok.1, hok.2.1, hok.2.2⟩
  refine ⟨⟨?_, by simp [h.len], ?_, ?_, ⟨Or.inl h.inF.1, ?_, ?_⟩, hgood, h.arm, ⟨h.bds.1, h.bds.2.1, h.bds.2.2.1, h.bds.2.2.2.1, by simp; omega⟩⟩, ?_⟩
  · rw [heap_setCell_same w4 g 0 _ 62 _ hh4]
    simp
  · show World.ownsRow _ 0 72 5 (.slice _ (S.l ++ [_]).length cap) (S.l ++ [_]).length (rowOf (S.l ++ [_]) _)
    rw [List.length_append, List.length_singleton, rowOf_snoc _ _ _ _ h.len]
    exact ownsRow_same hown (fun b e => by cases e; exact hset b' hbg)
  · intro j hj hq
    by_cases hjl : j < S.l.length
    · have hq' : j < q.length := by rw [← h.len]; exact hjl
      have hb := h.bytes j hjl hq'
      have hin := h.inF.2.2 _ (List.getElem_mem hq')
      have e1 : (q ++ [(p, cp)])[j] = q[j] := List.getElem_append_left hq'
      have e2 : (S.l ++ [⟨f, i, bs⟩])[j] = S.l[j] := List.getElem_append_left hjl
      show Bytes _ (some ⟨(q ++ [(p, cp)])[j].1, 0, none⟩) 32 (S.l ++ [⟨f, i, bs⟩])[j].b
      rw [e1, e2]
      refine hb.same ?_
      rw [hset _ hin.2.1]
      exact old1 _ (bytes_lt hb) (fun e => hin.2.2 (ho _ e).1)
    · obtain rfl : j = S.l.length := by
        have : j < (S.l ++ [(⟨f, i, bs⟩ : Bk)]).length := hj
        simp at this
        omega
      have e1 : (q ++ [(p, cp)])[S.l.length] = (p, cp) := by simp [h.len]
      have e2 : (S.l ++ [(⟨f, i, bs⟩ : Bk)])[S.l.length] = ⟨f, i, bs⟩ := by simp
      show Bytes _ (some ⟨(q ++ [(p, cp)])[S.l.length].1, 0, none⟩) 32 (S.l ++ [(⟨f, i, bs⟩ : Bk)])[S.l.length].b
      rw [e1, e2]
      refine hB.same ?_
      rw [hset _ (by omega)]
      exact old p hpl (fun h1 => by omega)
  · intro k hk
    cases hk
    refine ⟨?_, hbg⟩
    rcases hat with h1 | h1
    · exact Or.inl (ho b' h1).2.2.1
    · exact Or.inr ⟨by omega, by rw [hs5]; exact hlt⟩
  · intro x hx
    rcases List.mem_append.1 hx with hx | hx
    · obtain ⟨j, hj, rfl⟩ := List.mem_iff_getElem.1 hx
      have hin := h.inF.2.2 _ hx
      refine ⟨Or.inl hin.1, hin.2.1, fun e => ?_⟩
      rcases hat with h1 | h1
      · exact hin.2.2 (by rw [(ho b' h1).1, e])
      · have hjl : j < S.l.length := by rw [h.len]; exact hj
        have := bytes_lt (h.bytes j hjl hj)
        cases e
        omega
    · obtain rfl := List.mem_singleton.1 hx
      refine ⟨Or.inr ⟨hp, by rw [hs5]; simp only; omega⟩, by simp only; omega, fun e => ?_⟩
      cases e
      rcases hat with h1 | h1
      · have := (ho _ h1).2.1; omega
      · omega
  · refine ⟨?_, ?_, ?_, by rw [hs5]; omega, fun k hk hF => ?_⟩
    · exact hgr.os.trans hb2.os
    · exact hgr.tape.trans hb2.tape
    · exact hgr.output.trans hb2.output
    · rw [hset k (fun e => hF (e ▸ h.inF.1))]
      exact old1 k hk (fun e => hF (ho k e).2.2.1)

theorem RD.again {F : Nat → Prop} {w1 : World} {g : Nat} {S : St} {b c : Nat} {q : List (Nat × Nat)} (h : RD F w1 g S (some ⟨b, 0, none⟩) c q) {w2 : World} {p cp : Nat} {bs : List Int} {j : Nat} (hj : j < S.l.length)
    (hb2 : Below w1.heap.size w1 w2) (hp : w1.heap.size ≤ p) (hB : Bytes w2 (some ⟨p, 0, none⟩) 32 bs) :
    RD (fun k => F k ∨ (w1.heap.size ≤ k ∧ k < (w2.setCell ⟨b, j * 5 + 4, none⟩ (.slice (some ⟨p, 0, none⟩) 32 cp)).heap.size)) (w2.setCell ⟨b, j * 5 + 4, none⟩ (.slice (some ⟨p, 0, none⟩) 32 cp)) g { S with l := S.l.set j ⟨S.l[j].f, S.l[j].i, bs⟩ } (some ⟨b, 0, none⟩) c (q.set j (p, cp)) ∧
    Chg F w1 (w2.setCell ⟨b, j * 5 + 4, none⟩ (.slice (some ⟨p, 0, none⟩) 32 cp)) := by
  have hg := h.glt
  have hpl := bytes_lt hB
  have hs2 := hb2.size
  have hs3 : (w2.setCell ⟨b, j * 5 + 4, none⟩ (.slice (some ⟨p, 0, none⟩) 32 cp)).heap.size = w2.heap.size := by simp [World.setCell]
  have hb : b < w1.heap.size ∧ F b ∧ b ≠ g := by
    rcases h.rowb with ⟨e, _⟩ | ⟨b', e, h1, h2, h3⟩
    · cases e
    · cases e; exact ⟨h1, h2, h3⟩
  have hset : ∀ k, k ≠ b → (w2.setCell ⟨b, j * 5 + 4, none⟩ (.slice (some ⟨p, 0, none⟩) 32 cp)).heap[k]? = w2.heap[k]? := fun k hk => Below.heap_setCell w2 ⟨b, _, none⟩ _ k hk
  have hlen : (S.l.set j ⟨S.l[j].f, S.l[j].i, bs⟩).length = S.l.length := List.length_set ..
  refine ⟨⟨?_, by simp [h.len], ?_, ?_, ⟨Or.inl h.inF.1, ?_, ?_⟩, ?_, h.arm, ⟨h.bds.1, h.bds.2.1, h.bds.2.2.1, h.bds.2.2.2.1, by simp only [hlen]; exact h.bds.2.2.2.2⟩⟩, ?_⟩
  · rw [hset g (fun e => hb.2.2 e.symm), hb2.block g hg, hlen]
    exact h.head
  · show World.ownsRow _ 0 72 5 (.slice _ (S.l.set j _).length c) (S.l.set j _).length (rowOf (S.l.set j _) _)
    rw [hlen, rowOf_set _ _ _ hj _ _ h.len]
    exact (World.ownsRow.stored (ownsRow_same h.row (fun b' e => by cases e; exact hb2.block b hb.1)) _ _).1
  · intro m hm hq
    have hml : m < S.l.length := by
      have : m < (S.l.set j ⟨S.l[j].f, S.l[j].i, bs⟩).length := hm
      rw [hlen] at this; exact this
    have hmq : m < q.length := by rw [← h.len]; exact hml
    show Bytes _ (some ⟨(q.set j (p, cp))[m].1, 0, none⟩) 32 (S.l.set j ⟨S.l[j].f, S.l[j].i, bs⟩)[m].b
    by_cases e : j = m
    · subst e
      rw [List.getElem_set_self, List.getElem_set_self]
      refine hB.same (hset p (by omega))
    · rw [List.getElem_set_ne e, List.getElem_set_ne e]
      have hbm := h.bytes m hml hmq
      have hin := h.inF.2.2 _ (List.getElem_mem hmq)
      refine hbm.same ?_
      rw [hset _ (fun e => hin.2.2 (by rw [e]))]
      exact hb2.block _ (bytes_lt hbm)
  · intro k hk
    cases hk
    exact ⟨Or.inl hb.2.1, hb.2.2⟩
  · intro x hx
    rcases List.mem_or_eq_of_mem_set hx with hx | rfl
    · have hin := h.inF.2.2 _ hx
      exact ⟨Or.inl hin.1, hin.2⟩
    · refine ⟨Or.inr ⟨hp, by rw [hs3]; exact hpl⟩, by simp only; omega, fun e => ?_⟩
      cases e
      omega
  · intro x hx
    rcases List.mem_or_eq_of_mem_set hx with hx | rfl
    · exact h.ok x hx
    · have := h.ok _ (List.getElem_mem hj)
      exact ⟨this.1, this.2.1, hB.n⟩
  · refine ⟨hb2.os, hb2.tape, hb2.output, by rw [hs3]; exact hs2, fun k hk hF => ?_⟩
    rw [hset k (fun e => hF (e ▸ hb.2.1))]
    exact hb2.block k hk
end Go.Proofs.Ytjkeejbfipmidaa
