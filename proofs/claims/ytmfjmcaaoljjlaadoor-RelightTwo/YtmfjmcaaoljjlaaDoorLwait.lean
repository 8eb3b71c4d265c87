/-
  Sixteen lists that grow, within a slice.
-/
import Derived.Test.YtmfjmcaaoljjlaaDoorLbase
import Derived.Lib.Walk
import Derived.Laws.AppendOwnNone
set_option maxRecDepth 20000
namespace Go.Proofs.YtmfjmcaaoljjlaaDoor
open C Go.RowKit

theorem cell_below {w w' : World} {b j : Nat} {v : Value} (hv : w.cell? ⟨b, j, none⟩ = some v) (hb : Below w.heap.size w w') : w'.cell? ⟨b, j, none⟩ = some v :=
  (hb.cell (p := ⟨b, j, none⟩) (World.block_lt_of_cell? w _ hv)).trans hv
def ivs (xs : List Int) : List Value := xs.map (Value.int .i64)
def OwnI (w : World) (lo : Nat) (a : Option Addr) (c : Nat) (xs : List Int) : Prop := w.ownsRow lo 3 1 (.slice a xs.length c) xs.length (ivs xs)
theorem info3 : (Tryd.prog.info? 3).map (fun i => (i.zero, i.size, i.bytes)) = some (some (.int .i64 0), 1, 8) := by kernel_rfl
theorem ownsRow_cell {W : World} {b e size k cap : Nat} {g : Nat} {xs : List Value} (h : W.ownsRow b e size (.slice (some ⟨g, 0, none⟩) k cap) k xs) (j : Nat) (hj : j < k * size) : W.cell? ⟨g, j, none⟩ = xs[j]? := by
  rcases h.2 with ⟨h0, _⟩ | ⟨g', cap', cur, hv, _, hh, _, _, _, ht⟩
  · simp at h0
  · simp only [Value.slice.injEq, Option.some.injEq, Addr.mk.injEq, and_true, true_and] at hv
    obtain ⟨rfl, rfl⟩ := hv
    rw [cell_of_row W g j cur e (0, 0) hh, ← ht, List.getElem?_take, if_pos hj]
    simp
theorem ownsRow_on {W W' : World} {b e size k : Nat} {v : Value} {xs : List Value} (h : W.ownsRow b e size v k xs) (hB : Below W.heap.size W W') : W'.ownsRow b e size v k xs := by
  refine ⟨h.1, ?_⟩
  rcases h.2 with h0 | ⟨g, cap, cur, hv, hb, hh, hr⟩
  · exact .inl h0
  · exact .inr ⟨g, cap, cur, hv, hb, (hB.block g (Array.getElem?_eq_some_iff.1 hh).1).trans hh, hr⟩
theorem ownsRow_apart {W W' : World} {b e size k : Nat} {v : Value} {xs : List Value} {r : Option Nat} (h : W.ownsRow b e size v k xs) (hg : W.grownBy W' r) (hne : ∀ g, v.ownBlock = some g → r ≠ some g) : W'.ownsRow b e size v k xs := by
  refine ⟨h.1, ?_⟩
  rcases h.2 with h0 | ⟨g, cap, cur, hv, hb, hh, hr⟩
  · exact .inl h0
  · refine .inr ⟨g, cap, cur, hv, hb, (hg.block g (Array.getElem?_eq_some_iff.1 hh).1 (fun e' => ?_)).trans hh, hr⟩
    subst hv
    exact hne g rfl e'.symm
theorem ivs_snoc (xs : List Int) (x : Int) : ivs (xs ++ [x]) = ivs xs ++ [.int .i64 x] := by simp [ivs]
/-- One more at the end of a row of one's own. -/
theorem wpList_append_int {w : World} {ops : Array Oper} {rest : List Oper} {o : Oper} {a : Act} {Q : Exit → Act → World → Prop} (hgd : o.guard = none) (s x : Operand)
    (ho : o.op = .call { callee := .builtin .append, args := #[s, x], argTypes := #[69, 69] }) (B : Nat) (av : Option Addr) (n cv : Nat) (L : List Int) (hn : L.length = n) (hs : a.eval s = .slice av n cv) (hown : OwnI w B av cv L)
    (ad : Addr) (y : Int) (hx : a.eval x = .slice (some ad) 1 1) (hnews : ∀ j u, [Value.int .i64 y][j]? = some u → w.cell? (ad.add j) = some u) (hle : n ≤ 100000000) (hB : B ≤ w.heap.size)
    (h : ∀ a' c' w', Hid (OwnI w' B a' c' (L ++ [y])) → w.grownBy w' (Value.ownBlock (.slice av n cv)) → (Value.ownBlock (.slice a' (n + 1) c') = Value.ownBlock (.slice av n cv) ∨ Value.ownBlock (.slice a' (n + 1) c') = some w.heap.size) → wpList Tryd.prog ops Q rest (a.put o.dst (.slice a' (n + 1) c')) w') : wpList Tryd.prog ops Q (o :: rest) a w := by
  obtain ⟨i, hi, hz0, hz1, hz2⟩ := info_parts info3
  subst hn
  refine wpList_append_own_at w hgd s x 69 ho B 3 i _ 1 8 Tryd.underlying69 hi hz0 hz1 hz2 rfl (by decide) _ _ _ hs hown ad 1 1 [.int .i64 y] hx rfl hnews (by simp [Value.oneCell']) (by unfold maxLen; omega) (by omega) hB ?_
  intro v' w' h1 h2 _ h4
  have e : ∃ a' c', v' = .slice a' (L.length + 1) c' := by
    rcases h1.2 with ⟨hv, hn⟩ | ⟨g, cap, _, hv, _⟩
    · omega
    · exact ⟨_, _, hv⟩
  obtain ⟨a', c', rfl⟩ := e
  refine h a' c' w' ?_ h2 h4
  show OwnI _ _ _ _ _
  unfold OwnI
  rw [List.length_append, ivs_snoc]
  exact h1
theorem cell_one_int (W : World) (T : TypeId) (u : Value) : ∀ (j : Nat) (x : Value), [u][j]? = some x → (W.alloc (.cells #[u] T)).cell? (Addr.add ⟨W.heap.size, 0, none⟩ j) = some x := by
  intro j x h
  have e := cell_of_row (W.alloc (.cells #[u] T)) W.heap.size j _ T (0, 0) (heap_alloc_new W _)
  match j with
  | 0 => simpa [Addr.add] using e.trans h
  | j + 1 => simp at h

abbrev slW (av : Nat → Option Addr) (cv : Nat → Nat) (wt : Nat → List Int) (v : Nat) : Value := .slice (av v) (wt v).length (cv v)
structure Wt (B : Nat) (w : World) (gw : Nat) (av : Nat → Option Addr) (cv : Nat → Nat) (wt : Nat → List Int) : Prop where
  blk : ∃ cs, w.heap[gw]? = some (.cells cs 69 (0, 0)) ∧ cs.size = 16
  out : ∀ v, v < 16 → w.cell? ⟨gw, v, none⟩ = some (slW av cv wt v)
  own : ∀ v, v < 16 → OwnI w B (av v) (cv v) (wt v)
  apart : ∀ u v g, u < 16 → v < 16 → u ≠ v → Value.ownBlock (slW av cv wt u) = some g → Value.ownBlock (slW av cv wt v) ≠ some g
  base : B ≤ gw
theorem own_block {w : World} {lo c : Nat} {a : Option Addr} {xs : List Int} (h : OwnI w lo a c xs) {g : Nat} (hg : Value.ownBlock (.slice a xs.length c) = some g) : lo ≤ g ∧ ∃ cur, w.heap[g]? = some (.cells cur 3 (0, 0)) := by
  rcases h.2 with ⟨e, _⟩ | ⟨g', cap, cur, hv, hb, hh, _⟩
  · rw [e] at hg; simp [Value.ownBlock] at hg
  · rw [hv] at hg
    obtain rfl : g' = g := by simpa [Value.ownBlock] using hg
    exact ⟨hb, cur, hh⟩
theorem Wt.lt {B gw : Nat} {w : World} {av : Nat → Option Addr} {cv : Nat → Nat} {wt : Nat → List Int} (h : Wt B w gw av cv wt) : gw < w.heap.size := by
  obtain ⟨cs, hc, _⟩ := h.blk
  exact (Array.getElem?_eq_some_iff.1 hc).1
theorem Wt.free {B gw : Nat} {w : World} {av : Nat → Option Addr} {cv : Nat → Nat} {wt : Nat → List Int} (h : Wt B w gw av cv wt) (k : Nat) : w.frozen? ⟨gw, k, none⟩ = false := by
  obtain ⟨cs, hc, _⟩ := h.blk
  exact frozen_of_row w gw k cs 69 hc
theorem Wt.notw {B gw : Nat} {w : World} {av : Nat → Option Addr} {cv : Nat → Nat} {wt : Nat → List Int} (h : Wt B w gw av cv wt) {v : Nat} (hv : v < 16) : Value.ownBlock (slW av cv wt v) ≠ some gw := fun e => by
  obtain ⟨_, cur, hc⟩ := own_block (h.own v hv) e
  obtain ⟨cs, hc2, _⟩ := h.blk
  rw [hc] at hc2
  cases hc2
theorem Wt.on {B gw : Nat} {w w' : World} {av : Nat → Option Addr} {cv : Nat → Nat} {wt : Nat → List Int} (h : Wt B w gw av cv wt) (hb : Below w.heap.size w w') : Wt B w' gw av cv wt := by
  obtain ⟨cs, hc, hs⟩ := h.blk
  exact ⟨⟨cs, (hb.block _ h.lt).trans hc, hs⟩, fun v hv => cell_below (h.out v hv) hb, fun v hv => ownsRow_on (h.own v hv) hb, h.apart, h.base⟩
/-- A store into a block of bytes. -/
theorem Wt.byte {B gw gl k : Nat} {w : World} {av : Nat → Option Addr} {cv : Nat → Nat} {wt : Nat → List Int} {cur : Array Value} {x : Value} (h : Wt B w gw av cv wt) (hl : w.heap[gl]? = some (.cells cur 5 (0, 0))) : Wt B (w.setCell ⟨gl, k, none⟩ x) gw av cv wt := by
  obtain ⟨cs, hc, hs⟩ := h.blk
  have hne : gw ≠ gl := fun e => by rw [e, hl] at hc; cases hc
  refine ⟨⟨cs, (Below.heap_setCell w ⟨gl, k, none⟩ x gw hne).trans hc, hs⟩, fun v hv => (World.cell?_setCell_other w _ _ _ (fun e => hne (by cases e; rfl))).trans (h.out v hv), fun v hv => ?_, h.apart, h.base⟩
  exact ownsRow_apart (r := some gl) (h.own v hv) ⟨rfl, rfl, rfl, by simp [World.setCell], fun j _ hj => Below.heap_setCell w ⟨gl, k, none⟩ x j (fun e => hj (by rw [e]))⟩ (fun g hg e => by
    obtain ⟨_, c2, h2⟩ := own_block (h.own v hv) hg
    cases e
    rw [hl] at h2
    cases h2)
def updA {α : Type} (f : Nat → α) (v : Nat) (x : α) : Nat → α := fun u => if u = v then x else f u
theorem updA_same {α : Type} (f : Nat → α) (v : Nat) (x : α) : updA f v x v = x := if_pos rfl
theorem updA_other {α : Type} (f : Nat → α) {v u : Nat} (x : α) (h : u ≠ v) : updA f v x u = f u := if_neg h
/-- One more at the end of a list, and its slice is laid back. -/
theorem Wt.push {B gw v : Nat} {w w' : World} {av : Nat → Option Addr} {cv : Nat → Nat} {wt : Nat → List Int} {a' : Option Addr} {c' : Nat} {y : Int} (h : Wt B w gw av cv wt) (hv : v < 16) (ho : OwnI w' B a' c' (wt v ++ [y]))
    (hg : w.grownBy w' (Value.ownBlock (slW av cv wt v))) (hat : Value.ownBlock (.slice a' ((wt v).length + 1) c') = Value.ownBlock (slW av cv wt v) ∨ Value.ownBlock (.slice a' ((wt v).length + 1) c') = some w.heap.size) :
    Wt B (w'.setCell ⟨gw, v, none⟩ (.slice a' ((wt v).length + 1) c')) gw (updA av v a') (updA cv v c') (updA wt v (wt v ++ [y])) := by
  obtain ⟨cs, hc, hs⟩ := h.blk
  have hnw := h.notw hv
  have hlt := h.lt
  have hc' : w'.heap[gw]? = some (.cells cs 69 (0, 0)) := (hg.block gw hlt (fun e => hnw e.symm)).trans hc
  have hsl : ∀ u, u < 16 → slW (updA av v a') (updA cv v c') (updA wt v (wt v ++ [y])) u = if u = v then .slice a' ((wt v).length + 1) c' else slW av cv wt u := fun u _ => by
    unfold slW
    by_cases e : u = v
    · subst e; rw [updA_same, updA_same, updA_same, if_pos rfl, List.length_append]; rfl
    · rw [updA_other _ _ e, updA_other _ _ e, updA_other _ _ e, if_neg e]
  have own' : ∀ u, u < 16 → OwnI w' B (updA av v a' u) (updA cv v c' u) (updA wt v (wt v ++ [y]) u) := fun u hu => by
    by_cases e : u = v
    · subst e; rw [updA_same, updA_same, updA_same]; exact ho
    · rw [updA_other _ _ e, updA_other _ _ e, updA_other _ _ e]
      exact ownsRow_apart (h.own u hu) hg (fun g hgu e2 => h.apart u v g hu hv e hgu e2)
  have hgr : ∀ x, w'.grownBy (w'.setCell ⟨gw, v, none⟩ x) (some gw) := fun x => ⟨rfl, rfl, rfl, by simp [World.setCell], fun j _ hj => Below.heap_setCell w' ⟨gw, v, none⟩ x j (fun e => hj (by rw [e]))⟩
  have cell' : ∀ u, u < 16 → w'.cell? ⟨gw, u, none⟩ = some (slW av cv wt u) := fun u hu => by
    have hcell := h.out u hu
    rw [cell_of_row w gw u cs 69 (0, 0) hc] at hcell
    rw [cell_of_row w' gw u cs 69 (0, 0) hc']
    exact hcell
  refine ⟨⟨_, heap_setCell_same w' gw v _ 69 _ hc', by rw [Array.size_setIfInBounds]; exact hs⟩, fun u hu => ?_, fun u hu => ?_, fun u u2 g hu hu2 hne h1 h2 => ?_, h.base⟩
  · rw [hsl u hu]
    by_cases e : u = v
    · subst e
      rw [if_pos rfl]
      exact World.cell?_setCell_same w' _ _ (cell' u hu)
    · rw [if_neg e, World.cell?_setCell_other w' _ _ _ (fun q => e (by cases q; rfl))]
      exact cell' u hu
  · refine ownsRow_apart (r := some gw) (own' u hu) (hgr _) (fun g hgu e => ?_)
    cases e
    obtain ⟨_, cur, hcu⟩ := own_block (own' u hu) hgu
    rw [hc'] at hcu
    cases hcu
  · rw [hsl u hu] at h1
    rw [hsl u2 hu2] at h2
    by_cases e1 : u = v
    · subst e1
      rw [if_pos rfl] at h1
      rw [if_neg (Ne.symm hne)] at h2
      rcases hat with e | e
      · rw [e] at h1; exact h.apart u u2 g hu hu2 hne h1 h2
      · rw [e] at h1
        obtain ⟨_, cur, hcu⟩ := own_block (h.own u2 hu2) h2
        have := (Array.getElem?_eq_some_iff.1 hcu).1
        cases h1
        omega
    · rw [if_neg e1] at h1
      by_cases e2 : u2 = v
      · subst e2
        rw [if_pos rfl] at h2
        rcases hat with e | e
        · rw [e] at h2; exact h.apart u u2 g hu hu2 hne h1 h2
        · rw [e] at h2
          obtain ⟨_, cur, hcu⟩ := own_block (h.own u hu) h1
          have := (Array.getElem?_eq_some_iff.1 hcu).1
          cases h2
          omega
      · rw [if_neg e2] at h2
        exact h.apart u u2 g hu hu2 hne h1 h2
end Go.Proofs.YtmfjmcaaoljjlaaDoor
