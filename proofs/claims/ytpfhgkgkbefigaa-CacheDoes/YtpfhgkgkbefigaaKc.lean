/-
  slices.AppendSeq, slices.Collect at the items of a cache's map; maps.Values.
-/
import Derived.Test.YtpfhgkgkbefigaaKr
import Derived.Shelf.Abstract
set_option maxRecDepth 20000
namespace Go.Proofs.Ytpfhgkgkbefigaa
open Go.RowKit Go.Maps Go.Shelf

/-- append of one item to what is gathered, within a fence. -/
theorem wpListIn_append_pv {F : Fence} {m : Nat} {w : World} {ops : Array Oper} {rest : List Oper} {o : Oper} {a : Act} {Q : Exit → Act → World → Prop} (hgd : o.guard = none) (s x : Operand)
    (ho : o.op = .call { callee := .builtin .append, args := #[s, x], argTypes := #[50, 50] }) (B : Nat) (av : Option Addr) (n cv : Nat) (q : List Nat) (hs : a.eval s = .slice av n cv) (hown : PRow B w av n cv q)
    (b' sc : Nat) (b : Nat) (hx : a.eval x = .slice (some ⟨b', 0, none⟩) 1 sc) (hX : w.heap[b']? = some (.cells #[pv b] 54 (0, 0))) (hle : n + 1 ≤ 3000000) (hB : B ≤ w.heap.size)
    (h : ∀ a' c' w', PRow B w' a' (n + 1) c' (q ++ [b]) → w.grownBy w' (Value.ownBlock (.slice av n cv)) → wpListIn F m Try.prog ops Q rest (a.put o.dst (.slice a' (n + 1) c')) w') : wpListIn F m Try.prog ops Q (o :: rest) a w := by
  obtain ⟨i, hi, hz0, hz1, hz2⟩ := info_parts info54
  refine wpListIn_append_own w hgd s x 50 ho B 54 i _ 1 8 Try.underlying50 hi hz0 hz1 hz2 rfl (by decide) _ _ _ hs hown ⟨b', 0, none⟩ 1 sc [pv b] hx rfl ?_ (by intro u hu; rw [List.mem_singleton.1 hu]; rfl) (by unfold maxLen; omega) (by omega) hB ?_
  · intro j u hj
    rw [Addr.add_lit, Nat.zero_add, cell_of_row w b' j _ 54 (0, 0) hX]
    simpa using hj
  · intro v' w' h1 h2 _
    have e : ∃ a' c', v' = .slice a' (n + 1) c' := by
      rcases h1.2 with ⟨hv, hn⟩ | ⟨g, cap, _, hv, _⟩
      · omega
      · exact ⟨_, _, hv⟩
    obtain ⟨a', c', rfl⟩ := e
    refine h a' c' w' ?_ h2
    unfold PRow
    rw [List.map_append]
    exact h1
theorem PRow.own {B : Nat} {w : World} {av : Option Addr} {n c : Nat} {q : List Nat} (h : PRow B w av n c q) {g : Nat} (e : Value.ownBlock (.slice av n c) = some g) : av = some ⟨g, 0, none⟩ := by
  rcases h.2 with ⟨e2, _⟩ | ⟨g', _, cur, e2, _⟩
  · simp only [Value.slice.injEq] at e2
    rw [e2.1] at e
    simp [Value.ownBlock] at e
  · simp only [Value.slice.injEq] at e2
    rw [e2.1] at e ⊢
    simp [Value.ownBlock] at e
    rw [e]
/-- What is gathered so far: a box at Bs (the first block of the call) with the row. -/
structure Ga (w : World) (xs : List Nat) (av : Option Addr) (cv : Nat) (W : World) : Prop where
  box : W.heap[w.heap.size]? = some (.cells #[.slice av xs.length cv] 50 (0, 0))
  row : PRow w.heap.size W av xs.length cv xs
  below : Below w.heap.size w W
theorem cells_on {B : Nat} {W W' : World} {row : Option Nat} (hg : W.grownBy W' row) (hr : ∀ r, row = some r → B ≤ r ∧ ∃ o : Obj, W.heap[r]? = some o ∧ o.isCells = false) {k : Nat} {cs : Array Value} {t : TypeId} {fz : Nat × Nat} (h : W.heap[k]? = some (.cells cs t fz)) : W'.heap[k]? = W.heap[k]? := by
  refine hg.block k (Array.getElem?_eq_some_iff.1 h).1 (fun e => ?_)
  obtain ⟨_, o, ho, hc⟩ := hr k e.symm
  rw [h] at ho
  cases ho
  cases hc
theorem ga_own (w : World) (B : Nat) (hB : w.heap.size ≤ B) : OwnFrom B (fun (xs : List Nat) W => ∃ av cv, Ga w xs av cv W) := fun xs W W' row h hg hr => by
  obtain ⟨av, cv, h⟩ := h
  refine ⟨av, cv, (cells_on hg hr h.box).trans h.box, h.row.same (fun g e => ?_), h.below.grown hg h.below.size (fun k e => Nat.le_trans hB (hr k e).1)⟩
  subst e
  obtain ⟨cur, hc, _⟩ := h.row.blk
  exact cells_on hg hr hc

section
attribute [local go_sem] Oper.semAt_some
set_option maxRecDepth 100000 in
set_option maxHeartbeats 4000000 in
theorem appendSeq_c (Bm mb : Nat) {D : Nat → It} {I : List Nat} {Dm : DataW Unit} (hmi : MapIs D I Dm) (hI : I.length ≤ 1000) (w : World) (hm : w.cell? ⟨Bm, 0, none⟩ = some (.map (some mb))) (hown : w.ownsMap Try.prog 31 ptrElem mb 1000 Dm) :
    Calls Try.prog 45 #[.slice none 0 0, .func (.func 44) #[] #[.pointer (some ⟨Bm, 0, none⟩)]] w fun e w' => ∃ a c xs, e = .returned (.slice a xs.length c) ∧ xs.Perm I ∧ PRow w.heap.size w' a xs.length c xs ∧ Below w.heap.size w w' := by
  obtain ⟨Post, hPost⟩ : ∃ Post : Ending → World → Prop, Post = fun e w' => ∃ a c xs, e = .returned (.slice a xs.length c) ∧ xs.Perm I ∧ PRow w.heap.size w' a xs.length c xs ∧ Below w.heap.size w w' := ⟨_, rfl⟩
  rw [← hPost]
  have HP : Hid (∀ a c (xs : List Nat) w', xs.Perm I → PRow w.heap.size w' a xs.length c xs → Below w.heap.size w w' → Post (.returned (.slice a xs.length c)) w') := fun a c xs w' h1 h2 h3 => by rw [hPost]; exact ⟨a, c, xs, rfl, h1, h2, h3⟩
  clear hPost
  obtain ⟨W0, hW0⟩ : ∃ W0, W0 = w.alloc (.cells #[.slice none 0 0] 50) := ⟨_, rfl⟩
  have hb0 : Below w.heap.size w W0 := by rw [hW0]; exact (Below.refl _ _).alloc (Nat.le_refl _) _
  have hs0 : W0.heap.size = w.heap.size + 1 := by rw [hW0, World.size_alloc]
  have H0 : Hid (∃ av cv, Ga w [] av cv W0) := ⟨none, 0, by rw [hW0]; exact heap_alloc_new w _, ⟨rfl, .inl ⟨rfl, rfl⟩⟩, hb0⟩
  have hgv : GivesV 8 7 44 #[] #[.pointer (some ⟨Bm, 0, none⟩)] I W0 := fun l J W hW hJ hY h0 => by
    have hbW := hb0.trans (hW.mono hb0.size)
    exact values1_in 8 (by omega) l Bm mb hmi J W hY hJ ((hbW.cell (p := ⟨Bm, 0, none⟩) (World.block_lt_of_cell? w _ hm)).trans hm) (ownsMap_same hown (hbW.block _ hown.lt)) h0
  have HW0 : Hid (W0 = w.alloc (.cells #[.slice none 0 0] 50)) := hW0
  clear hW0 hm hown
  refine (callsIn_wide (n := 9)).1 ?_
  refine callsIn_of_wp_marks Try.func45 rfl trivial ?_ rfl
  simp only [Try.ntmps45, List.size_toArray, List.length_cons, List.length_nil, Nat.reduceAdd, Nat.reduceSub, Array.replicate_succ, Array.replicate_zero, List.push_toArray, List.append_toArray, List.nil_append, List.cons_append]
  gi_wp2
  rw [← HW0.out]
  clear HW0
  refine range_givesV (m := 7) (fs := #[]) (lb := #[.pointer (some ⟨Bm, 0, none⟩)]) (gf := 44) rfl (enters_of Try.func44 (by kernel_rfl) rfl) rfl hgv (fun xs W => ∃ av cv, Ga w xs av cv W) (ga_own w _ hb0.size) H0.out
    (fun b ax => ax = { tmps := #[.slice none 0 0, .func (.func 44) #[] #[.pointer (some ⟨Bm, 0, none⟩)], .pointer (some ⟨w.heap.size, 0, none⟩), undef, .slice none 0 0, pv b, .func (.func 44) #[] #[.pointer (some ⟨Bm, 0, none⟩)], pv b, undef, undef, undef, undef, undef], defers := [] }) ?assign ?body ?done
  case assign =>
    intro l b W K hK
    have HKk : Hid _ := hK
    clear hK hgv
    gi_wp2
    exact HKk.out _ rfl
  case body =>
    rintro l pre b a1 W hWs ⟨av, cv, hG⟩ hlt hb rfl
    have hw0 : w.heap.size < W.heap.size := by omega
    have hcb : W.cell? ⟨w.heap.size, 0, none⟩ = some (.slice av pre.length cv) := by rw [cell_of_row W _ 0 _ 50 (0, 0) hG.box]; rfl
    obtain ⟨W1, hW1⟩ : ∃ W1, W1 = W.alloc (.cells #[pv b] 54) := ⟨_, rfl⟩
    have hb1 : Below W.heap.size W W1 := by rw [hW1]; exact (Below.refl _ _).alloc (Nat.le_refl _) _
    have hs1 := hb1.size
    have hX : W1.heap[W.heap.size]? = some (.cells #[pv b] 54 (0, 0)) := by rw [hW1]; exact heap_alloc_new W _
    have hr1 : PRow w.heap.size W1 av pre.length cv pre := hG.row.same (fun g e => by
      subst e
      obtain ⟨cur, hc, _⟩ := hG.row.blk
      exact hb1.block _ (Array.getElem?_eq_some_iff.1 hc).1)
    have hsz1 : w.heap.size ≤ W1.heap.size := Nat.le_trans (Nat.le_of_lt hw0) hb1.size
    have HF : Hid (∀ a' c' W2, PRow w.heap.size W2 a' (pre.length + 1) c' (pre ++ [b]) → W1.grownBy W2 (Value.ownBlock (.slice av pre.length cv)) →
        (W2.cell? ⟨w.heap.size, 0, none⟩ = some (.slice av pre.length cv) ∧ W2.frozen? ⟨w.heap.size, 0, none⟩ = false) ∧ (KN W (W2.setCell ⟨w.heap.size, 0, none⟩ (.slice a' (pre.length + 1 : Nat) c')) ∧ ∃ av cv, Ga w (pre ++ [b]) av cv (W2.setCell ⟨w.heap.size, 0, none⟩ (.slice a' (pre.length + 1 : Nat) c')))) := fun a' c' W2 h1 h2 => by
      have hne : ∀ g, av = some ⟨g, 0, none⟩ → w.heap.size ≠ g := fun g e => by
        subst e
        obtain ⟨cur, hc, _⟩ := hG.row.blk
        exact blk_ne hG.box hc (by decide)
      have hbx2 : W2.heap[w.heap.size]? = some (.cells #[.slice av pre.length cv] 50 (0, 0)) := (h2.block _ (Nat.lt_of_lt_of_le hw0 hs1) (fun e => hne _ (hr1.own e.symm) rfl)).trans ((hb1.block _ hw0).trans hG.box)
      refine ⟨⟨by rw [cell_of_row W2 _ 0 _ 50 (0, 0) hbx2]; rfl, frozen_of_row W2 _ 0 _ 50 hbx2⟩, ⟨?_, fun k o hc ho => ?_⟩, a', c', ?_, ?_, ?_⟩
      · have := h2.size
        have := hb1.size
        simp [World.setCell]
        omega
      · have hlt2 := (Array.getElem?_eq_some_iff.1 ho).1
        have hk : k ≠ w.heap.size := fun e => by
          rw [e, hG.box] at ho
          cases ho
          cases hc
        rw [Below.heap_setCell W2 ⟨w.heap.size, 0, none⟩ _ k hk, h2.block k (Nat.lt_of_lt_of_le hlt2 hb1.size) (fun e => ?_), hb1.block k hlt2]
        · exact ho
        · have := hr1.own e.symm
          subst this
          obtain ⟨cur, hg, _⟩ := hG.row.blk
          rw [ho] at hg
          cases hg
          cases hc
      · rw [heap_setCell_same W2 w.heap.size 0 _ 50 _ hbx2, List.length_append, List.length_singleton]
        rfl
      · rw [List.length_append, List.length_singleton]
        refine h1.same (fun g e => Below.heap_setCell W2 ⟨w.heap.size, 0, none⟩ _ g (fun e2 => ?_))
        subst e
        obtain ⟨cur, hg, _⟩ := h1.blk
        exact blk_ne hbx2 hg (by decide) e2.symm
      · have hb2 : Below w.heap.size w W2 := (hG.below.trans (hb1.mono (Nat.le_of_lt hw0))).grown h2 hsz1 (fun k e => (World.ownsRow.lt hr1 k e).1)
        exact hb2.setCell (p := ⟨w.heap.size, 0, none⟩) (Nat.le_refl _) _
    clear hgv hG hb1 H0 HP
    subst hW1
    unfold pv at hX hr1 hsz1 HF ⊢
    gi_wp2_with (gi_at_builtin; refine wpListIn_append_pv rfl (.tmp 8) (.tmp 10) rfl w.heap.size av pre.length cv pre rfl hr1 W.heap.size 1 b rfl hX (by omega) hsz1 ?_; intro a' c' W2 h1 h2; obtain ⟨⟨y0, yf⟩, R⟩ := HF.out a' c' W2 h1 h2; clear h1 h2 HF)
    exact R
  case done =>
    intro Dd xs W hDd hxs hI2 hK
    obtain ⟨av, cv, hG⟩ := hI2
    have y0 : W.cell? ⟨w.heap.size, 0, none⟩ = some (.slice av xs.length cv) := by rw [cell_of_row W _ 0 _ 50 (0, 0) hG.box]; rfl
    have R : Post (.returned (.slice av xs.length cv)) (W.putObj Dd (.deferred none)) := by
      refine HP.out av cv xs _ hxs (hG.row.same (fun g e => ?_)) ⟨hG.below.os, hG.below.tape, hG.below.output, by have := hG.below.size; simp; omega, fun k hk => (World.putObj_heap_other (by omega)).trans (hG.below.block k hk)⟩
      subst e
      obtain ⟨cur, hg, _⟩ := hG.row.blk
      refine World.putObj_heap_other (fun e2 => ?_)
      rw [← e2, hg] at hK
      cases hK
    clear hG hxs HP hgv H0
    gi_wp2
    refine ⟨by simp, .inl ⟨_, _, rfl, run_takeDeferred hK, ?_⟩⟩
    exact ⟨_, results_tmp (t := 4) rfl _ _ _, R⟩
end
end Go.Proofs.Ytpfhgkgkbefigaa
