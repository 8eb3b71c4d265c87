/-
  Rows of slices and of pointers, gathered one by one.
-/
import Derived.Test.YtjeapaojbkicmabDoorLwait
import Derived.Test.YtjeapaojbkicmabDoorLlamp
set_option maxRecDepth 20000
namespace Go.Proofs.YtjeapaojbkicmabDoor
open C Go.RowKit

/-- One more value at the end of a row of one's own. -/
theorem wpList_append_val {w : World} {ops : Array Oper} {rest : List Oper} {o : Oper} {a : Act} {Q : Exit → Act → World → Prop} (t e : TypeId) (z : Value) (by8 : Nat) (hu : Tryd.prog.underlying t = some (.slice e)) (hinfo : (Tryd.prog.info? e).map (fun i => (i.zero, i.size, i.bytes)) = some (some z, 1, by8)) (hz : z.cells.size = 1) (hb8 : by8 ≤ 100)
    (hgd : o.guard = none) (s x : Operand) (ho : o.op = .call { callee := .builtin .append, args := #[s, x], argTypes := #[t, t] }) (B : Nat) (av : Option Addr) (n cv : Nat) (L : List Value) (hs : a.eval s = .slice av n cv) (hown : w.ownsRow B e 1 (.slice av n cv) n L)
    (ad : Addr) (y : Value) (hx : a.eval x = .slice (some ad) 1 1) (hnews : ∀ j u, [y][j]? = some u → w.cell? (ad.add j) = some u) (hy : y.oneCell' = true) (hle : n ≤ 100000) (hB : B ≤ w.heap.size)
    (h : ∀ a' c' w', w'.ownsRow B e 1 (.slice a' (n + 1) c') (n + 1) (L ++ [y]) → w.grownBy w' (Value.ownBlock (.slice av n cv)) → wpList Tryd.prog ops Q rest (a.put o.dst (.slice a' (n + 1) c')) w') : wpList Tryd.prog ops Q (o :: rest) a w := by
  obtain ⟨i, hi, hz0, hz1, hz2⟩ := info_parts hinfo
  refine wpList_append_own_at w hgd s x t ho B e i _ 1 by8 hu hi hz0 hz1 hz2 hz (by decide) _ _ _ hs hown ad 1 1 [y] hx rfl hnews (by simpa using hy) (by unfold maxLen; omega) (by have := Nat.mul_le_mul (show n + 1 ≤ 100001 by omega) hb8; omega) hB ?_
  intro v' w' h1 h2 _ _
  have e : ∃ a' c', v' = .slice a' (n + 1) c' := by
    rcases h1.2 with ⟨hv, hn⟩ | ⟨g, cap, _, hv, _⟩
    · omega
    · exact ⟨_, _, hv⟩
  obtain ⟨a', c', rfl⟩ := e
  exact h a' c' w' h1 h2
theorem info28 : (Tryd.prog.info? 28).map (fun i => (i.zero, i.size, i.bytes)) = some (some (.slice none 0 0), 1, 24) := by kernel_rfl
theorem info39 : (Tryd.prog.info? 39).map (fun i => (i.zero, i.size, i.bytes)) = some (some (.pointer none), 1, 8) := by kernel_rfl
theorem cell_new (W : World) (T : TypeId) (u : Value) : ∀ (j : Nat) (x : Value), [u][j]? = some x → (W.alloc (.cells #[u] T)).cell? (Addr.add ⟨W.heap.size, 0, none⟩ j) = some x := cell_one_int W T u
/-- A block of another type is no block of the row. -/
theorem row_other {w w' : World} {B e n : Nat} {v : Value} {L : List Value} (h : w.ownsRow B e 1 v n L) (hg : w.grownBy w' v.ownBlock) {b : Nat} {cs : Array Value} {t : TypeId} {fr : Nat × Nat} (hb : w.heap[b]? = some (.cells cs t fr)) (ht : t ≠ e) : w'.heap[b]? = some (.cells cs t fr) := by
  refine (hg.block b (Array.getElem?_eq_some_iff.1 hb).1 (fun e' => ?_)).trans hb
  rcases h.2 with ⟨rfl, _⟩ | ⟨g', cap, cur, rfl, _, hh, _⟩
  · simp [Value.ownBlock] at e'
  · obtain rfl : b = g' := by simpa [Value.ownBlock] using e'
    rw [hb] at hh
    cases hh
    exact ht rfl
theorem row_low {w w' : World} {B e n : Nat} {v : Value} {L : List Value} (h : w.ownsRow B e 1 v n L) (hg : w.grownBy w' v.ownBlock) (hB : B ≤ w.heap.size) : Below B w w' :=
  (Below.refl B w).grown hg hB (fun k hk => (h.lt k hk).1)
/-! ### nine lists by and by -/
def slV (g : Nat) : Value := .slice (some ⟨g, 0, none⟩) 32768 32768
def ptV (g : Nat) : Value := .pointer (some ⟨g, 0, none⟩)
structure Many (w0 : World) (e t : TypeId) (mk : Nat → Value) (f : Nat → List Int) (n : Nat) (av : Option Addr) (cv : Nat) (gs : List Nat) (w : World) : Prop where
  len : gs.length = n
  own : w.ownsRow w0.heap.size e 1 (.slice av n cv) n (gs.map mk)
  blk : ∀ i, i < n → Blk w (gs.getD i 0) t (f i)
  low : ∀ x ∈ gs, w0.heap.size ≤ x
  nd : gs.Nodup
  bel : Below w0.heap.size w0 w
theorem Many.init {w0 : World} {e t : TypeId} {mk : Nat → Value} {f : Nat → List Int} : Many w0 e t mk f 0 none 0 [] w0 :=
  ⟨rfl, World.ownsRow_nil _ _ _ _, fun i hi => (by omega), fun x hx => (by cases hx), List.nodup_nil, Below.refl _ _⟩
theorem Many.lt {w0 w : World} {e t : TypeId} {mk : Nat → Value} {f : Nat → List Int} {n : Nat} {av : Option Addr} {cv : Nat} {gs : List Nat} (h : Many w0 e t mk f n av cv gs w) : ∀ x ∈ gs, x < w.heap.size := fun x hx => by
  obtain ⟨i, hi, rfl⟩ := List.getElem_of_mem hx
  have := (h.blk i (by have := h.len; omega)).lt
  rwa [List.getD_eq_getElem?_getD, List.getElem?_eq_getElem hi] at this
theorem Many.on {w0 w w' : World} {e t : TypeId} {mk : Nat → Value} {f : Nat → List Int} {n : Nat} {av : Option Addr} {cv : Nat} {gs : List Nat} (h : Many w0 e t mk f n av cv gs w) (hb : Below w.heap.size w w') : Many w0 e t mk f n av cv gs w' :=
  ⟨h.len, ownsRow_on h.own hb, fun i hi => (h.blk i hi).below hb (h.blk i hi).lt, h.low, h.nd, h.bel.trans (hb.mono h.bel.size)⟩
theorem Many.add {w0 w w' : World} {e t : TypeId} {mk : Nat → Value} {f : Nat → List Int} {n : Nat} {av a' : Option Addr} {cv c' g : Nat} {gs : List Nat} (h : Many w0 e t mk f n av cv gs w) (hne : t ≠ e) (hg : Blk w g t (f n)) (hlo : w0.heap.size ≤ g) (hnew : g ∉ gs)
    (ho : w'.ownsRow w0.heap.size e 1 (.slice a' (n + 1) c') (n + 1) (gs.map mk ++ [mk g])) (hgr : w.grownBy w' (Value.ownBlock (.slice av n cv))) : Many w0 e t mk f (n + 1) a' c' (gs ++ [g]) w' := by
  have hl := h.len
  refine ⟨by rw [List.length_append]; simp [hl], by rw [List.map_append]; exact ho, fun i hi => ?_, fun x hx => ?_, ?_, h.bel.trans (row_low h.own hgr h.bel.size)⟩
  · by_cases e1 : i < n
    · rw [List.getD_eq_getElem?_getD, List.getElem?_append_left (by omega), ← List.getD_eq_getElem?_getD]
      exact row_other h.own hgr (h.blk i e1) hne
    · obtain rfl : i = n := by omega
      rw [List.getD_eq_getElem?_getD, List.getElem?_append_right (by omega), hl, Nat.sub_self]
      exact row_other h.own hgr hg hne
  · rcases List.mem_append.1 hx with h1 | h1
    · exact h.low x h1
    · obtain rfl := List.mem_singleton.1 h1
      exact hlo
  · rw [List.nodup_append]
    refine ⟨h.nd, by simp, fun a ha b hb e1 => ?_⟩
    obtain rfl := List.mem_singleton.1 hb
    exact hnew (e1 ▸ ha)
theorem Many.row {w0 w : World} {e t : TypeId} {mk : Nat → Value} {f : Nat → List Int} {n : Nat} {av : Option Addr} {cv : Nat} {gs : List Nat} (h : Many w0 e t mk f n av cv gs w) (hn : 0 < n) : ∃ b, av = some ⟨b, 0, none⟩ ∧ ∀ i, i < n → w.cell? ⟨b, i, none⟩ = some (mk (gs.getD i 0)) := by
  have ho := h.own
  obtain ⟨b, rfl⟩ : ∃ b, av = some ⟨b, 0, none⟩ := by
    rcases ho.2 with ⟨_, h1⟩ | ⟨g, cap, cur, hv, _⟩
    · omega
    · simp only [Value.slice.injEq] at hv
      exact ⟨g, hv.1⟩
  refine ⟨b, rfl, fun i hi => ?_⟩
  have hl := h.len
  rw [ownsRow_cell ho i (by omega), List.getElem?_map, List.getD_eq_getElem?_getD, List.getElem?_eq_getElem (by omega)]
  rfl
end Go.Proofs.YtjeapaojbkicmabDoor
