/-
  copied: a group of the law's own.
-/
import Derived.Test.YtjkeejbfipmidaaDo
import Derived.Laws.OwnMore
set_option maxRecDepth 20000
namespace Go.Proofs.Ytjkeejbfipmidaa
open Go.RowKit

abbrev ptCells (p : Pt) : List Value := [.int .i64 p.f.1, .int .i64 p.f.2.1, .int .i64 p.f.2.2, .int .i64 p.i, .slice p.a p.n p.c]
def cpCells (l : List Pt) : List Value := l.flatMap ptCells
theorem cpCells_snoc (l : List Pt) (p : Pt) : cpCells (l ++ [p]) = cpCells l ++ ptCells p := by
  unfold cpCells
  rw [List.flatMap_append]
  simp
theorem cpCells_at : ∀ (l : List Pt) (k : Nat) (h : k < l.length), (∀ m, m < 5 → (cpCells l)[k * 5 + m]? = (ptCells l[k])[m]?)
  | [], k, h => absurd h (Nat.not_lt_zero _)
  | p :: r, 0, _ => fun m hm => by
    show (ptCells p ++ cpCells r)[0 * 5 + m]? = _
    rw [Nat.zero_mul, Nat.zero_add, List.getElem?_append_left (by simpa using hm)]
    rfl
  | p :: r, k + 1, h => fun m hm => by
    show (ptCells p ++ cpCells r)[(k + 1) * 5 + m]? = _
    rw [List.getElem?_append_right (by simp; omega), show (k + 1) * 5 + m - (ptCells p).length = k * 5 + m by simp; omega]
    exact cpCells_at r k (by simpa using h) m hm
/-- A block of the law's own. -/
structure PtOk (p : Pt) : Prop where
  n : p.b.length = p.n
  fit : ∀ z ∈ p.b, 0 ≤ z ∧ z ≤ 255
  bd : I64 p.i ∧ I64 p.f.1 ∧ I64 p.f.2.1 ∧ I64 p.f.2.2
  sz : p.n ≤ reachBytes
/-- A group of the law's own: its row, its blocks' bytes; all from lo on. -/
structure Cp (w : World) (lo : Nat) (a : Option Addr) (c : Nat) (l : List Pt) : Prop where
  row : w.ownsRow lo 41 5 (.slice a l.length c) l.length (cpCells l)
  own : ∀ k (h : k < l.length), Own w lo l[k].a l[k].c l[k].b ∧ PtOk l[k]
  apart : ∀ k (h : k < l.length) g, l[k].a = some ⟨g, 0, none⟩ → a ≠ some ⟨g, 0, none⟩
theorem Cp.nil (w : World) (lo : Nat) : Cp w lo none 0 [] := ⟨World.ownsRow_nil w lo 41 5, fun _ h => absurd h (Nat.not_lt_zero _), fun _ h => absurd h (Nat.not_lt_zero _)⟩
theorem Cp.rowb {w : World} {lo : Nat} {a : Option Addr} {c : Nat} {l : List Pt} (h : Cp w lo a c l) : (a = none ∧ l.length = 0) ∨ ∃ g, a = some ⟨g, 0, none⟩ ∧ lo ≤ g ∧ g < w.heap.size := by
  rcases h.row.2 with ⟨hv, hn⟩ | ⟨g, cap, cur, hv, hg, hh, _⟩
  · simp only [Value.slice.injEq] at hv
    exact Or.inl ⟨hv.1, hn⟩
  · simp only [Value.slice.injEq] at hv
    exact Or.inr ⟨g, hv.1, hg, (Array.getElem?_eq_some_iff.1 hh).1⟩
theorem own_same {w w' : World} {B : Nat} {a : Option Addr} {c : Nat} {ys : List Int} (h : Own w B a c ys) (he : ∀ g, a = some ⟨g, 0, none⟩ → w'.heap[g]? = w.heap[g]?) : Own w' B a c ys := ownsRow_same h he
theorem own_lt {w : World} {B : Nat} {a : Option Addr} {c : Nat} {ys : List Int} (h : Own w B a c ys) {g : Nat} (e : a = some ⟨g, 0, none⟩) : B ≤ g ∧ g < w.heap.size := by
  rcases h.parts with ⟨e2, _⟩ | ⟨g', e2, h1, h2, _⟩
  · rw [e] at e2; cases e2
  · rw [e] at e2; cases e2; exact ⟨h1, h2⟩
/-- What was there is as it was: so is the group. -/
theorem Cp.keep {w w' : World} {lo : Nat} {a : Option Addr} {c : Nat} {l : List Pt} (h : Cp w lo a c l) (he : ∀ k, lo ≤ k → k < w.heap.size → w'.heap[k]? = w.heap[k]?) : Cp w' lo a c l := by
  refine ⟨ownsRow_same h.row (fun b e => ?_), fun k hk => ⟨own_same (h.own k hk).1 (fun g e => ?_), (h.own k hk).2⟩, h.apart⟩
  · rcases h.rowb with ⟨e2, _⟩ | ⟨g, e2, h1, h2⟩
    · rw [e] at e2; cases e2
    · rw [e] at e2; cases e2; exact he _ h1 h2
  · have := own_lt (h.own k hk).1 e
    exact he g this.1 this.2
theorem Cp.snoc {w1 w2 w4 : World} {lo : Nat} {a : Option Addr} {c : Nat} {l : List Pt} (h : Cp w1 lo a c l) (hb2 : Below w1.heap.size w1 w2) (hlo : lo ≤ w1.heap.size) {p : Pt} (hO : Own w2 w1.heap.size p.a p.c p.b) (hok : PtOk p) {ob : Obj} {g cap : Nat}
    (hown : w4.ownsRow lo 41 5 (.slice (some ⟨g, 0, none⟩) (l.length + 1) cap) (l.length + 1) (cpCells l ++ ptCells p)) (hgr : (w2.alloc ob).grownBy w4 (Value.ownBlock (.slice a l.length c))) (hat : Value.ownBlock (.slice a l.length c) = some g ∨ g = w2.heap.size + 1) :
    Cp w4 lo (some ⟨g, 0, none⟩) cap (l ++ [p]) ∧ Below lo w1 w4 := by
  have hs2 := hb2.size
  have hs4 := hgr.size
  rw [World.size_alloc] at hs4
  have ho : ∀ k, Value.ownBlock (.slice a l.length c) = some k → a = some ⟨k, 0, none⟩ ∧ lo ≤ k ∧ k < w1.heap.size := fun k hk => by
    rcases h.rowb with ⟨e, _⟩ | ⟨b, e, h1, h2⟩
    · rw [e] at hk; cases hk
    · rw [e] at hk ⊢
      cases hk
      exact ⟨rfl, h1, h2⟩
  have far : ∀ k, k < w2.heap.size → a ≠ some ⟨k, 0, none⟩ → w4.heap[k]? = w2.heap[k]? := fun k hk hne => by
    rw [hgr.block k (by rw [World.size_alloc]; omega) (fun e => hne (ho k e.symm).1)]
    exact ((Below.refl w2.heap.size w2).alloc (Nat.le_refl _) ob).block k hk
  have old : ∀ k, k < w1.heap.size → a ≠ some ⟨k, 0, none⟩ → w4.heap[k]? = w1.heap[k]? := fun k hk hne => (far k (by omega) hne).trans (hb2.block k hk)
  have pnew : ∀ g', p.a = some ⟨g', 0, none⟩ → w1.heap.size ≤ g' ∧ g' < w2.heap.size ∧ a ≠ some ⟨g', 0, none⟩ := fun g' e => by
    have := own_lt hO e
    refine ⟨this.1, this.2, fun e2 => ?_⟩
    have := (ho g' (by rw [e2]; rfl)).2.2
    omega
  refine ⟨⟨?_, fun k hk => ?_, fun k hk g' => ?_⟩, ?_⟩
  · rw [List.length_append, List.length_singleton, cpCells_snoc]
    exact hown
  · by_cases e : k < l.length
    · rw [List.getElem_append_left e]
      refine ⟨own_same (h.own k e).1 (fun g' e' => old g' (own_lt (h.own k e).1 e').2 (h.apart k e g' e')), (h.own k e).2⟩
    · rw [List.getElem_append_right (by omega)]
      simp only [List.getElem_singleton]
      exact ⟨Own.base (own_same hO (fun g' e' => far g' (pnew g' e').2.1 (pnew g' e').2.2)) hlo, hok⟩
  · intro hk' e2
    have e2' : g = g' := by simpa using e2
    by_cases e : k < l.length
    · rw [List.getElem_append_left e] at hk'
      have h1 := own_lt (h.own k e).1 hk'
      rcases hat with h2 | h2
      · exact h.apart k e g' hk' (by rw [(ho g h2).1, e2'])
      · omega
    · rw [List.getElem_append_right (by omega)] at hk'
      simp only [List.getElem_singleton] at hk'
      have h1 := pnew g' hk'
      rcases hat with h2 | h2
      · exact h1.2.2 (by rw [(ho g h2).1, e2'])
      · omega
  · refine ⟨?_, ?_, ?_, by omega, fun k hk => old k (by omega) (fun e => by have := (ho k (by rw [e]; rfl)).2.1; omega)⟩
    · rw [hgr.os]; exact hb2.os
    · rw [hgr.tape]; exact hb2.tape
    · rw [hgr.output]; exact hb2.output
/-- The group as one that came in. -/
theorem Cp.puts {w : World} {lo : Nat} {a : Option Addr} {c : Nat} {l : List Pt} (h : Cp w lo a c l) : Puts w a l := fun k hk => by
  rcases h.rowb with ⟨_, e⟩ | ⟨g, rfl, _, _⟩
  · omega
  refine ⟨g, 0, rfl, ?_⟩
  have hc : ∀ m, m < 5 → w.cell? ⟨g, 0 + k * 5 + m, none⟩ = (ptCells l[k])[m]? := fun m hm => by
    rw [Nat.zero_add, ← cpCells_at l k hk m hm]
    exact World.ownsRow.cellAt h.row (k * 5 + m) (by omega)
  obtain ⟨hO, hP⟩ := h.own k hk
  refine ⟨hc 0 (by omega), hc 1 (by omega), hc 2 (by omega), hc 3 (by omega), hc 4 (by omega), hO.bytes hP.fit _ hP.n, fun e => ?_, ?_, hP.bd, hP.sz⟩
  · rcases hO.parts with ⟨_, h2, _⟩ | ⟨g', e2, _⟩
    · exact h2
    · rw [e] at e2; cases e2
  · rw [← hP.n]
    rcases hO.parts with ⟨_, _, h2⟩ | ⟨g', _, _, _, _, _, h2⟩
    · rw [h2]; simp
    · exact h2
/-- append of bytes onto none, few or many, as a step of a region that draws its order. -/
theorem step_bytes_any {w : World} {ops : Array Oper} {o : Oper} {a : Act} {K : Act → World → Prop} {Q : Exit → Act → World → Prop} {E : Prop} (hgd : o.guard = none) (x : Operand)
    (ho : o.op = .call { callee := .builtin .append, args := #[.const (.slice none 0 0), x], argTypes := #[39, 39] }) (sp : Option Addr) (m sc : Nat) (xs : List Int) (hx : a.eval x = .slice sp m sc) (hX : Bytes w sp m xs) (hnil : sp = none → sc = 0) (hle : m ≤ reachBytes)
    (h : ∀ p cp w', Own w' w.heap.size p cp xs → Below w.heap.size w w' → K (a.put o.dst (.slice p m cp)) w') :
    if Region.wanted o (yielded ops a.tmps) = true then Oper.wp Try.prog o a w K Q else E := by
  have hw : Region.wanted o (yielded ops a.tmps) = true := by simp [Region.wanted, hgd]
  rw [if_pos hw]
  have hm := hX.n
  obtain ⟨i, hi, hz0, hz1, hz2⟩ := info_parts Try.info5
  unfold reachBytes at hle
  cases sp with
  | none =>
    obtain rfl := hnil rfl
    have hxs : xs = [] := by
      rcases hX.cells with e | ⟨b, off, e, _⟩
      · exact e
      · cases e
    subst hxs
    simp at hm
    subst hm
    have hrun := run_append_owned_none (P := Try.prog) (w := w) 0 39 o.type 5 i 1 Try.underlying39 hi (.slice none 0 0) 0 [] (World.ownsRow_nil _ _ _ _)
    have hev : a.eval (.const (.slice none 0 0)) = .slice none 0 0 := rfl
    unfold Oper.wp
    simp [execOp, ho, resolve, invoke, builtin, hx, hev, hrun, Result.andThen]
    exact h none 0 w (Own.nil _ _) (Below.refl _ _)
  | some ad =>
    refine wp_append_own w (.const (.slice none 0 0)) x 39 ho w.heap.size 5 i (.int .u8 0) 1 1 Try.underlying39 hi hz0 hz1 hz2 rfl (by decide) (.slice none 0 0) 0 [] rfl (World.ownsRow_nil _ _ _ _) ad m sc (xs.map (Value.int .u8)) hx (by simpa using hm) ?_ (ints_oneCell _ _) (by unfold maxLen; omega) (by omega) (Nat.le_refl _) ?_
    · intro j u hj
      obtain ⟨hj', hv⟩ := List.getElem?_eq_some_iff.1 hj
      rw [List.length_map] at hj'
      rcases hX.cells with e | ⟨b, off, e, hc⟩
      · subst e; simp at hj'
      · obtain rfl := Option.some.inj e
        rw [Addr.add_lit, hc j hj', ← hv]
        simp
    · intro v' w' h1 h2 _
      have hb' : Below w.heap.size w w' := (Below.refl _ _).grown h2 (Nat.le_refl _) (fun k hk => by cases hk)
      have e : ∃ a' c', v' = .slice a' (0 + m) c' := by
        rcases h1.2 with ⟨hv, hn⟩ | ⟨g, cap, _, hv, _⟩
        · exact ⟨none, 0, by rw [hv, hn]⟩
        · exact ⟨_, _, hv⟩
      obtain ⟨a', c', rfl⟩ := e
      have := h a' c' w' (by unfold Own; rw [hm]; simpa using h1) hb'
      simpa using this
theorem info41 : (Try.prog.info? 41).map (fun i => (i.zero, i.size, i.bytes)) = some (some (.agg #[.int .i64 0, .int .i64 0, .int .i64 0, .int .i64 0, .slice none 0 0]), 5, 56) := by kernel_rfl

set_option maxHeartbeats 4000000 in
theorem copied_c (a : Option Addr) (len cap : Nat) (l : List Pt) (W w : World) (hl : l.length = len) (hP : Puts W a l) (hN : Below W.heap.size W w) (hlen : len ≤ 1000000) :
    Calls Try.prog 13 #[.slice a len cap] w fun e w' => ∃ a' c' l', e = .returned (.slice a' len c') ∧ l'.length = len ∧ Cp w' w.heap.size a' c' l' ∧ l'.map Pt.bk = l.map Pt.bk ∧ Below w.heap.size w w' := by
  obtain ⟨Post, hPost⟩ : ∃ Post : Ending → World → Prop, Post = fun e w' => ∃ a' c' l', e = .returned (.slice a' len c') ∧ l'.length = len ∧ Cp w' w.heap.size a' c' l' ∧ l'.map Pt.bk = l.map Pt.bk ∧ Below w.heap.size w w' := ⟨_, rfl⟩
  rw [← hPost]
  have HP : Hid (∀ w' a' c' l', l'.length = len → Cp w' w.heap.size a' c' l' → l'.map Pt.bk = l.map Pt.bk → Below w.heap.size w w' → Post (.returned (.slice a' len c')) w') := fun w' a' c' l' h1 h2 h3 h4 => by rw [hPost]; exact ⟨a', c', l', rfl, h1, h2, h3, h4⟩
  clear hPost
  have Hl : Hid (l.length = len) := hl
  have HPs : Hid (Puts W a l) := hP
  have HN0 : Hid (Below W.heap.size W w) := hN
  clear hl hP hN
  obtain ⟨i41, hi41, hz0, hz1, hz2⟩ := info_parts info41
  go_enter Try.func13, Try.ntmps13
  go_wp2
  go_loopw [3, 4] (fun v3 v4 wr => ∃ (j : Nat) (a' : Option Addr) (c' : Nat) (l' : List Pt), j ≤ len ∧ v4 = .int .i64 (j : Int) ∧ v3 = .slice a' j c' ∧ Hid (l'.length = j ∧ Cp wr w.heap.size a' c' l' ∧ l'.map Pt.bk = (l.map Pt.bk).take j) ∧ Hid (Below w.heap.size w wr)) (fun _ v4 _ => len - (intOf v4).toNat)
  case atStart => exact ⟨0, none, 0, [], Nat.zero_le _, rfl, rfl, ⟨rfl, Cp.nil _ _, rfl⟩, Below.refl _ _⟩
  case round =>
    obtain ⟨j, a', c', l', hj, rfl, rfl, HC, Hb⟩ := hrel
    by_cases hlt : j < len
    · have hlt' : (j : Int) < len := by omega
      have hjl : j < l.length := by rw [Hl.out]; exact hlt
      obtain ⟨b, off, rfl, hO⟩ := HPs.out j hjl
      have Hnext : Hid ((l.map Pt.bk).take (j + 1) = (l.map Pt.bk).take j ++ [l[j].bk]) := by
        rw [List.take_succ_eq_append_getElem (by rw [List.length_map]; exact hjl), List.getElem_map]
        rfl
      generalize l[j] = o at hO Hnext
      obtain ⟨⟨f1, f2, f3⟩, oi, oa, on, oc, ob⟩ := o
      have HO : Hid (PutAt W b off j ⟨(f1, f2, f3), oi, oa, on, oc, ob⟩) := hO
      have HN : Hid (Below W.heap.size W wr) := HN0.out.trans (Hb.out.mono HN0.out.size)
      clear hO hjl
      go_wp2
      refine region_L (fun w' => Below W.heap.size W w') 20 (by kernel_rfl) ?_
      have HCa : Hid (l'.length = j ∧ Cp wr.drew w.heap.size a' c' l' ∧ l'.map Pt.bk = (l.map Pt.bk).take j) := ⟨HC.out.1, HC.out.2.1.keep (fun _ _ _ => rfl), HC.out.2.2⟩
      have Hba : Hid (Below w.heap.size w wr.drew) := Hb.out.drew
      have HNa : Hid (Below W.heap.size W wr.drew) := HN.out.drew
      clear HN HC Hb
      generalize wr.drew = va at *
      have hHeld : (fun w' => Below W.heap.size W w') _ := HNa.out
      have hne : Nonempty (Sub (fun w' => Below W.heap.size W w')) := ⟨⟨_, hHeld⟩⟩
      have k0 : ∀ s : Sub (fun w' => Below W.heap.size W w'), s.w.cell? ⟨b, off + j * 5, none⟩ = some (.int .i64 f1) := fun s => (HO.out.on s.ok).c0
      have k1 : ∀ s : Sub (fun w' => Below W.heap.size W w'), s.w.cell? ⟨b, off + j * 5 + 1, none⟩ = some (.int .i64 f2) := fun s => (HO.out.on s.ok).c1
      have k2 : ∀ s : Sub (fun w' => Below W.heap.size W w'), s.w.cell? ⟨b, off + j * 5 + 2, none⟩ = some (.int .i64 f3) := fun s => (HO.out.on s.ok).c2
      have k3 : ∀ s : Sub (fun w' => Below W.heap.size W w'), s.w.cell? ⟨b, off + j * 5 + 3, none⟩ = some (.int .i64 oi) := fun s => (HO.out.on s.ok).c3
      have k4 : ∀ s : Sub (fun w' => Below W.heap.size W w'), s.w.cell? ⟨b, off + j * 5 + 4, none⟩ = some (.slice oa on oc) := fun s => (HO.out.on s.ok).c4
      refine take_L (i := 0) rfl (by kernel_rfl) (by kernel_rfl) (by kernel_rfl) (by kernel_rfl) (fun _ _ _ _ h => h) (by exact hHeld) (fun K hK => ?_)
      go_simp
      refine hK _ ?_
      clear hK K
      refine take_L (i := 1) rfl (by kernel_rfl) (by kernel_rfl) (by kernel_rfl) (by kernel_rfl) (fun _ _ _ _ h => h) (by exact hHeld) (fun K hK => ?_)
      go_simp
      refine hK _ ?_
      clear hK K
      refine take_L (i := 2) rfl (by kernel_rfl) (by kernel_rfl) (by kernel_rfl) (by kernel_rfl) (fun _ _ _ _ h => h) (by exact hHeld) (fun K hK => ?_)
      go_simp
      refine hK _ ?_
      clear hK K
      refine take_L (i := 3) rfl (by kernel_rfl) (by kernel_rfl) (by kernel_rfl) (by kernel_rfl) (fun _ _ _ _ h => h) (by exact hHeld) (fun K hK => ?_)
      go_simp
      refine hK _ ?_
      clear hK K
      refine take_L (i := 4) rfl (by kernel_rfl) (by kernel_rfl) (by kernel_rfl) (by kernel_rfl) (fun _ _ _ _ h => h) (by exact hHeld) (fun K hK => ?_)
      go_simp
      refine hK _ ?_
      clear hK K
      refine take_L (i := 5) rfl (by kernel_rfl) (by kernel_rfl) (by kernel_rfl) (by kernel_rfl) (fun _ _ _ _ h => h) (by exact hHeld) (fun K hK => ?_)
      go_simp
      refine hK _ ?_
      clear hK K
      refine take_L (i := 6) rfl (by kernel_rfl) (by kernel_rfl) (by kernel_rfl) (by kernel_rfl) (fun _ _ _ _ h => h) (by exact hHeld) (fun K hK => ?_)
      go_simp
      refine hK _ ?_
      clear hK K
      refine take_L (i := 7) rfl (by kernel_rfl) (by kernel_rfl) (by kernel_rfl) (by kernel_rfl) (fun _ _ _ _ h => h) (by exact hHeld) (fun K hK => ?_)
      go_simp
      refine hK _ ?_
      clear hK K
      refine take_L (i := 8) rfl (by kernel_rfl) (by kernel_rfl) (by kernel_rfl) (by kernel_rfl) (fun _ _ _ _ h => h) (by exact hHeld) (fun K hK => ?_)
      go_simp
      refine hK _ ?_
      clear hK K
      refine take_L (i := 9) rfl (by kernel_rfl) (by kernel_rfl) (by kernel_rfl) (by kernel_rfl) (fun _ _ _ _ h => h) (by exact hHeld) (fun K hK => ?_)
      go_simp
      refine hK _ ?_
      clear hK K
      refine take_L (i := 10) rfl (by kernel_rfl) (by kernel_rfl) (by kernel_rfl) (by kernel_rfl) (fun _ _ _ _ h => h) (by exact hHeld) (fun K hK => ?_)
      go_simp
      refine hK _ ?_
      clear hK K
      refine take_L (i := 11) rfl (by kernel_rfl) (by kernel_rfl) (by kernel_rfl) (by kernel_rfl) (fun _ _ _ _ h => h) (by exact hHeld) (fun K hK => ?_)
      go_simp
      refine hK _ ?_
      clear hK K
      refine take_L (i := 12) rfl (by kernel_rfl) (by kernel_rfl) (by kernel_rfl) (by kernel_rfl) (fun _ _ _ _ h => h) (by exact hHeld) (fun K hK => ?_)
      go_simp
      refine hK _ ?_
      clear hK K
      refine take_L (i := 13) rfl (by kernel_rfl) (by kernel_rfl) (by kernel_rfl) (by kernel_rfl) (fun _ _ _ _ h => h) (by exact hHeld) (fun K hK => ?_)
      go_simp
      refine hK _ ?_
      clear hK K
      refine take_L (i := 14) rfl (by kernel_rfl) (by kernel_rfl) (by kernel_rfl) (by kernel_rfl) (fun _ _ _ _ h => h) (by exact hHeld) (fun K hK => ?_)
      go_simp
      refine hK _ ?_
      clear hK K
      refine take_L (i := 15) rfl (by kernel_rfl) (by kernel_rfl) (by kernel_rfl) (by kernel_rfl) (fun _ _ _ _ h => h) (by exact hHeld) (fun K hK => ?_)
      go_simp
      refine hK _ ?_
      clear hK K
      refine one_L (i := 16) (by kernel_rfl) rfl (fun K hK => ?_)
      refine step_bytes_any rfl (.tmp 26) rfl oa on oc ob rfl (HO.out.on HNa.out).by_ HO.out.nil HO.out.sz ?_
      intro pa pc w2 hO2 hb2
      have HO2 : Hid (Own w2 va.heap.size pa pc ob) := hO2
      have Hb2 : Hid (Below va.heap.size va w2) := hb2
      have HN2 : Hid (Below W.heap.size W w2) := HNa.out.trans (hb2.mono HNa.out.size)
      clear hO2 hb2
      replace hHeld : (fun w' => Below W.heap.size W w') _ := HN2.out
      refine hK.out _ _ (fun _ => hHeld) ?_
      clear hK K
      refine take_L (i := 17) rfl (by kernel_rfl) (by kernel_rfl) (by kernel_rfl) (by kernel_rfl) (fun _ _ _ _ h => h) (by exact hHeld) (fun K hK => ?_)
      go_simp
      refine hK _ ?_
      clear hK K
      refine one_L (i := 18) (by kernel_rfl) rfl (fun K hK => ?_)
      go_simp
      have hw3 : (w2.alloc (.cells #[.int .i64 f1, .int .i64 f2, .int .i64 f3, .int .i64 oi, .slice pa on pc] 41)).heap[w2.heap.size]? = some (.cells (ptCells ⟨(f1, f2, f3), oi, pa, on, pc, ob⟩).toArray 41 (0, 0)) := heap_alloc_new w2 _
      have hs3 : (w2.alloc (.cells #[.int .i64 f1, .int .i64 f2, .int .i64 f3, .int .i64 oi, .slice pa on pc] 41)).heap.size = w2.heap.size + 1 := World.size_alloc ..
      have hb3 : Below w2.heap.size w2 (w2.alloc (.cells #[.int .i64 f1, .int .i64 f2, .int .i64 f3, .int .i64 oi, .slice pa on pc] 41)) := (Below.refl _ _).alloc (Nat.le_refl _) _
      obtain ⟨w3, e3⟩ : ∃ x, x = w2.alloc (.cells #[.int .i64 f1, .int .i64 f2, .int .i64 f3, .int .i64 oi, .slice pa on pc] 41) := ⟨_, rfl⟩
      rw [← e3] at hw3 hs3 hb3 ⊢
      have E3 : Hid (w3 = w2.alloc (.cells #[.int .i64 f1, .int .i64 f2, .int .i64 f3, .int .i64 oi, .slice pa on pc] 41)) := e3
      have HC3 : Hid (w3.ownsRow w.heap.size 41 5 (.slice a' j c') j (cpCells l')) := by
        have := ((HCa.out.2.1.keep (w' := w2) (fun k _ hk => Hb2.out.block k hk)).keep (w' := w3) (fun k _ hk => hb3.block k hk)).row
        rw [HCa.out.1] at this
        exact this
      have HN3 : Hid (∀ j u, (ptCells ⟨(f1, f2, f3), oi, pa, on, pc, ob⟩)[j]? = some u → w3.cell? ((⟨w2.heap.size, 0, none⟩ : Addr).add j) = some u) := World.news_of_block hw3
      have HW3 : Hid (Below W.heap.size W w3) := HN2.out.trans (hb3.mono HN2.out.size)
      have hsw : w.heap.size ≤ w3.heap.size := by have := Hba.out.size; have := Hb2.out.size; omega
      clear e3 hb3 hw3
      replace hHeld : (fun w' => Below W.heap.size W w') _ := HW3.out
      refine hK.out _ _ (fun _ => hHeld) ?_
      clear hK K
      refine one_L (i := 19) (by kernel_rfl) rfl (fun K hK => ?_)
      refine step_append_lies _ rfl (.tmp 11) (.tmp 29) 33 rfl w.heap.size 41 i41 _ 5 56 Try.underlying33 hi41 hz0 hz1 hz2 rfl (by decide) (.slice a' j c') j (cpCells l') rfl HC3.out ⟨w2.heap.size, 0, none⟩ 1 1 (ptCells ⟨(f1, f2, f3), oi, pa, on, pc, ob⟩) rfl rfl HN3.out (by simp [ptCells, Value.oneCell']) (by omega) (by unfold maxLen; omega) (by omega) hsw (w2.heap.size + 1) hs3 ?_
      intro g cp w4 hown4 hgr4 hat4 hlt4
      rw [E3.out] at hgr4
      have hsn := HCa.out.2.1.snoc Hb2.out Hba.out.size (p := ⟨(f1, f2, f3), oi, pa, on, pc, ob⟩) HO2.out ⟨HO.out.by_.n, HO.out.by_.fit, HO.out.bd, HO.out.sz⟩ (g := g) (cap := cp) (w4 := w4) (by rw [HCa.out.1]; exact hown4) (by rw [HCa.out.1]; exact hgr4) (by rw [HCa.out.1]; exact hat4)
      have HC : Hid ((l' ++ [(⟨(f1, f2, f3), oi, pa, on, pc, ob⟩ : Pt)]).length = j + 1 ∧ Cp w4 w.heap.size (some ⟨g, 0, none⟩) cp (l' ++ [(⟨(f1, f2, f3), oi, pa, on, pc, ob⟩ : Pt)]) ∧ (l' ++ [(⟨(f1, f2, f3), oi, pa, on, pc, ob⟩ : Pt)]).map Pt.bk = (l.map Pt.bk).take (j + 1)) := by
        refine ⟨by rw [List.length_append, HCa.out.1]; rfl, hsn.1, ?_⟩
        rw [List.map_append, HCa.out.2.2, Hnext.out]
        rfl
      have Hb : Hid (Below w.heap.size w w4) := Hba.out.trans hsn.2
      have HN : Hid (Below W.heap.size W w4) := HN0.out.trans (Hb.out.mono HN0.out.size)
      clear hown4 hgr4 hat4 hlt4 hsn
      replace hHeld : (fun w' => Below W.heap.size W w') _ := HN.out
      refine hK.out _ _ (fun _ => hHeld) ?_
      clear hK K
      refine one_L (i := 20) (by kernel_rfl) rfl (fun K hK => ?_)
      go_simp
      refine hK.out _ _ (fun h => absurd rfl h) ?_
      clear hK K
      refine done_L (by kernel_rfl) ?_ _
      clear hHeld hne k0 k1 k2 k3 k4 HCa HNa Hba HC3 HN3 HW3 HN2 E3
      go_wp2
      go_roundw
      case rel => exact ⟨j + 1, _, _, _, by omega, by go_num, rfl, HC.out, Hb.out⟩
      case measure => simp [intOf]; omega
    · obtain rfl : j = len := by omega
      have R := HP.out wr a' c' l' HC.out.1 HC.out.2.1 (by have := HC.out.2.2; rwa [List.take_of_length_le (by rw [List.length_map, Hl.out]; exact Nat.le_refl _)] at this) Hb.out
      clear HP HC HPs Hb HN0
      go_wp2
      exact R
end Go.Proofs.Ytjkeejbfipmidaa
