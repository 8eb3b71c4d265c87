/-
  The document's cache: Put, Get.
-/
import Derived.Test.YtpfhgkgkbefigaaRw
set_option maxRecDepth 20000
namespace Go.Proofs.Ytpfhgkgkbefigaa
open Go.RowKit Go.Maps

section
variable {B : Nat} {w w' : World} {r : Nat} {m : Int} {l : List E} {av : Option Addr} {cv : Nat}
theorem rem_idx {x z : Int} (ha : Apart l) {k : Nat} (h : l.findIdx? (atE x z) = some k) : ∃ hk : k < l.length, remE l x z = l.take k ++ l.drop (k + 1) ∧ findE l x z = some l[k] ∧ l[k].x = x ∧ l[k].z = z := by
  obtain ⟨hk, h1, h2⟩ := List.findIdx?_eq_some_iff_getElem.1 h
  have hxz : l[k].x = x ∧ l[k].z = z := by simpa [atE] using h1
  refine ⟨hk, ?_, by rw [← hxz.1, ← hxz.2]; exact find_of_mem ha (List.getElem_mem hk), hxz⟩
  have hl : l = l.take k ++ l[k] :: l.drop (k + 1) := by
    rw [← List.drop_eq_getElem_cons hk, List.take_append_drop]
  obtain ⟨la, lb, e1, e2⟩ := rem_one ha (List.getElem_mem hk)
  rw [hxz.1, hxz.2] at e2
  unfold remE
  conv => lhs; rw [hl]
  unfold Apart at ha
  rw [hl, List.pairwise_append] at ha
  obtain ⟨_, h5, h6⟩ := ha
  obtain ⟨h7, _⟩ := List.pairwise_cons.1 h5
  rw [List.filter_append, List.filter_cons_of_neg (by simp [atE, hxz])]
  congr 1
  · rw [List.filter_eq_self]
    intro a ha'
    have := h6 a ha' l[k] List.mem_cons_self
    rw [hxz.1, hxz.2] at this
    simp only [atE, Bool.not_eq_true', decide_eq_false_iff_not]
    exact this
  · rw [List.filter_eq_self]
    intro b hb
    have := h7 b hb
    rw [hxz.1, hxz.2] at this
    simp only [atE, Bool.not_eq_true', decide_eq_false_iff_not]
    exact fun hk => this ⟨hk.1.symm, hk.2.symm⟩
theorem rem_idx_none {x z : Int} (h : l.findIdx? (atE x z) = none) : remE l x z = l ∧ findE l x z = none := by
  have h1 := List.findIdx?_eq_none_iff.1 h
  refine ⟨?_, ?_⟩
  · unfold remE
    rw [List.filter_eq_self]
    intro e he
    rw [h1 e he]
    rfl
  · unfold findE
    rw [List.find?_eq_none]
    intro e he
    rw [h1 e he]
    simp
/-- Behind the append of one entry. -/
theorem Rc.push (h : Rc B w r m l av cv) (hsz : l.length < 1000) {e : E} {w3 : World} {a3 : Option Addr} {c3 : Nat} (h1 : ERow B w3 a3 c3 (l ++ [e])) (hg : (w.alloc (.cells #[.int .i64 e.x, .int .i64 e.z, .int .i64 e.v, .bool e.p] 43)).grownBy w3 (Value.ownBlock (.slice av l.length cv))) :
    (w3.cell? ⟨r, 1, none⟩ = some (.slice av l.length cv) ∧ w3.frozen? ⟨r, 1, none⟩ = false) ∧ Rc B (w3.setCell ⟨r, 1, none⟩ (.slice a3 (l.length + 1 : Nat) c3)) r m (l ++ [e]) a3 c3 ∧ Chg (fun k => k = r ∨ av = some ⟨k, 0, none⟩) w w3 ∧ Chg (fun k => k = r ∨ av = some ⟨k, 0, none⟩) w (w3.setCell ⟨r, 1, none⟩ (.slice a3 (l.length + 1 : Nat) c3)) := by
  have blk : ∀ k, k < w.heap.size → av ≠ some ⟨k, 0, none⟩ → w3.heap[k]? = w.heap[k]? := fun k hk hne => (hg.block k (by rw [World.size_alloc]; omega) (fun e' => hne (h.row.own e'.symm))).trans (heap_alloc_old w _ hk)
  have hne : av ≠ some ⟨r, 0, none⟩ := fun e' => by
    subst e'
    obtain ⟨cur, hc, _⟩ := h.row.blk
    rw [h.hd] at hc
    cases hc
  have hr3 : w3.heap[r]? = some (.cells #[.int .i64 m, .slice av l.length cv] 29 (0, 0)) := (blk r h.lt hne).trans h.hd
  have hC : Chg (fun k => k = r ∨ av = some ⟨k, 0, none⟩) w w3 := ⟨hg.os, hg.tape, hg.output, by have := hg.size; rw [World.size_alloc] at this; omega, fun k hk hf => blk k hk (fun e' => hf (.inr e'))⟩
  refine ⟨⟨by rw [cell_of_row w3 r 1 _ 29 (0, 0) hr3]; rfl, frozen_of_row w3 r 1 _ 29 hr3⟩, ⟨?_, ?_, h.lo, by rw [List.length_append, List.length_singleton]; omega⟩, hC, hC.set (.inl (.inl rfl)) _ _⟩
  · rw [heap_setCell_same w3 r 1 _ 29 _ hr3, List.length_append, List.length_singleton]
    rfl
  · refine h1.same (fun g' e' => Below.heap_setCell w3 ⟨r, 1, none⟩ _ g' (fun e2 => ?_))
    subst e'
    obtain ⟨cur', hg', _⟩ := h1.blk
    have e3 : g' = r := e2
    rw [e3, hr3] at hg'
    cases hg'
theorem Rc.keepC (h : Rc B w r m l av cv) {F : Nat → Prop} (hc : Chg F w w') (hF : ∀ k, F k → k = r ∨ av = some ⟨k, 0, none⟩) : KeepT isD B w w' := KeepT.of_chg hc (fun k o hk ho => by
  obtain ⟨o', ho', h1, h2⟩ := h.blks k (hF k hk)
  rw [ho] at ho'
  cases ho'
  exact ⟨h2, h1⟩)
end
/-- An entry that stands alone. -/
def Ent (w : World) (b : Nat) (e : E) : Prop := w.heap[b]? = some (.cells #[.int .i64 e.x, .int .i64 e.z, .int .i64 e.v, .bool e.p] 43 (0, 0))
theorem Ent.cells {w : World} {b : Nat} {e : E} (h : Ent w b e) : w.cell? ⟨b, 0, none⟩ = some (.int .i64 e.x) ∧ w.cell? ⟨b, 1, none⟩ = some (.int .i64 e.z) ∧ w.cell? ⟨b, 2, none⟩ = some (.int .i64 e.v) ∧ w.cell? ⟨b, 3, none⟩ = some (.bool e.p) := by
  refine ⟨?_, ?_, ?_, ?_⟩
  · rw [cell_of_row w b 0 _ 43 (0, 0) h]; rfl
  · rw [cell_of_row w b 1 _ 43 (0, 0) h]; rfl
  · rw [cell_of_row w b 2 _ 43 (0, 0) h]; rfl
  · rw [cell_of_row w b 3 _ 43 (0, 0) h]; rfl
/-- What the last region reads. -/
structure PushS (r b : Nat) (e : E) (av : Option Addr) (n cv : Nat) (w : World) : Prop where
  c1 : w.cell? ⟨r, 1, none⟩ = some (.slice av n cv)
  ent : Ent w b e
end Go.Proofs.Ytpfhgkgkbefigaa
