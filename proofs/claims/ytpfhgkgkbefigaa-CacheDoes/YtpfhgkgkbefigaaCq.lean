/-
  How the queue of a cache lies in memory; its five methods.
-/
import Derived.Test.YtpfhgkgkbefigaaLheld
import Derived.BigQuiet
import Derived.BigRegion
set_option maxRecDepth 20000
namespace Go.Proofs.Ytpfhgkgkbefigaa
open Go.RowKit

theorem ret_int {k : IntKind} {a b : Int} (h : a = b) : Ending.returned (.int k a) = .returned (.int k b) := by rw [h]
theorem ret_bool {a b : Bool} (h : a = b) : Ending.returned (.bool a) = .returned (.bool b) := by rw [h]
/-- Just blocks of F, and new ones, are others. -/
structure Chg (F : Nat → Prop) (w w' : World) : Prop where
  os : w'.os = w.os
  tape : w'.tape = w.tape
  output : w'.output = w.output
  size : w.heap.size ≤ w'.heap.size
  block : ∀ k, k < w.heap.size → ¬ F k → w'.heap[k]? = w.heap[k]?
theorem Chg.refl (F : Nat → Prop) (w : World) : Chg F w w := ⟨rfl, rfl, rfl, Nat.le_refl _, fun _ _ _ => rfl⟩
theorem Chg.trans {F G : Nat → Prop} {a b c : World} (h : Chg F a b) (k : Chg G b c) (hG : ∀ j, G j → F j ∨ a.heap.size ≤ j) : Chg F a c :=
  ⟨k.os.trans h.os, k.tape.trans h.tape, k.output.trans h.output, Nat.le_trans h.size k.size, fun j hj hf => by
    rw [k.block j (Nat.lt_of_lt_of_le hj h.size) (fun hg => (hG j hg).elim hf (fun h1 => by omega))]
    exact h.block j hj hf⟩
theorem Chg.of_below {F : Nat → Prop} {w w' : World} (h : Below w.heap.size w w') : Chg F w w' := ⟨h.os, h.tape, h.output, h.size, fun k hk _ => h.block k hk⟩
theorem Chg.below {F : Nat → Prop} {w w' : World} {B : Nat} (h : Chg F w w') (hF : ∀ k, F k → B ≤ k) (hB : B ≤ w.heap.size) : Below B w w' :=
  ⟨h.os, h.tape, h.output, h.size, fun k hk => h.block k (by omega) (fun hf => by have := hF k hf; omega)⟩
theorem Chg.mono {F G : Nat → Prop} {w w' : World} (h : Chg F w w') (hG : ∀ k, F k → G k) : Chg G w w' := ⟨h.os, h.tape, h.output, h.size, fun k hk hf => h.block k hk (fun hk' => hf (hG k hk'))⟩
theorem Chg.set {F : Nat → Prop} {a w : World} (h : Chg F a w) {b : Nat} (hb : F b ∨ a.heap.size ≤ b) (k : Nat) (v : Value) : Chg F a (w.setCell ⟨b, k, none⟩ v) :=
  ⟨h.os, h.tape, h.output, by simpa [World.setCell] using h.size, fun j hj hf => (Below.heap_setCell w ⟨b, k, none⟩ v j (fun e => by
    have e' : j = b := e
    subst e'
    exact hb.elim hf (fun h1 => by omega))).trans (h.block j hj hf)⟩
theorem Chg.drew {F : Nat → Prop} {a w : World} (h : Chg F a w) : Chg F a w.drew := ⟨h.os, h.tape, h.output, h.size, h.block⟩
theorem Chg.drewN {F : Nat → Prop} {a w : World} (h : Chg F a w) (n : Nat) : Chg F a (w.drewN n) := ⟨h.os, h.tape, h.output, h.size, h.block⟩
theorem Chg.alloc {F : Nat → Prop} {a w : World} (h : Chg F a w) (o : Obj) : Chg F a (w.alloc o) :=
  ⟨h.os, h.tape, h.output, by rw [World.size_alloc]; exact Nat.le_succ_of_le h.size, fun j hj hf => (Below.heap_alloc w o j (Nat.lt_of_lt_of_le hj h.size)).trans (h.block j hj hf)⟩
theorem Chg.grown {F : Nat → Prop} {a w w' : World} {row : Option Nat} (h : Chg F a w) (g : w.grownBy w' row) (hr : ∀ b, row = some b → F b ∨ a.heap.size ≤ b) : Chg F a w' :=
  ⟨g.os.trans h.os, g.tape.trans h.tape, g.output.trans h.output, Nat.le_trans h.size g.size, fun j hj hf => (g.block j (Nat.lt_of_lt_of_le hj h.size) (fun e => (hr j e.symm).elim hf (fun h1 => by omega))).trans (h.block j hj hf)⟩

/-- What an item tells: its chunk, what it has, the number of its last use. -/
structure It where
  x : Int
  z : Int
  v : Int
  u : Nat
abbrev itc (t : It) (p : Int) : Array Value := #[.int .i64 t.x, .int .i64 t.z, .int .i64 t.v, .int .i64 (t.u : Int), .int .i64 p]
def pv (b : Nat) : Value := .pointer (some ⟨b, 0, none⟩)
def Item (w : World) (b : Nat) (t : It) (p : Int) : Prop := w.heap[b]? = some (.cells (itc t p) 56 (0, 0))
section
variable {w w' : World} {b : Nat} {t : It} {p : Int}
theorem Item.lt (h : Item w b t p) : b < w.heap.size := (Array.getElem?_eq_some_iff.1 h).1
theorem Item.c0 (h : Item w b t p) : w.cell? ⟨b, 0, none⟩ = some (.int .i64 t.x) := by rw [cell_of_row w b 0 _ 56 (0, 0) h]; rfl
theorem Item.c1 (h : Item w b t p) : w.cell? ⟨b, 1, none⟩ = some (.int .i64 t.z) := by rw [cell_of_row w b 1 _ 56 (0, 0) h]; rfl
theorem Item.c2 (h : Item w b t p) : w.cell? ⟨b, 2, none⟩ = some (.int .i64 t.v) := by rw [cell_of_row w b 2 _ 56 (0, 0) h]; rfl
theorem Item.c3 (h : Item w b t p) : w.cell? ⟨b, 3, none⟩ = some (.int .i64 (t.u : Int)) := by rw [cell_of_row w b 3 _ 56 (0, 0) h]; rfl
theorem Item.c4 (h : Item w b t p) : w.cell? ⟨b, 4, none⟩ = some (.int .i64 p) := by rw [cell_of_row w b 4 _ 56 (0, 0) h]; rfl
theorem Item.free (h : Item w b t p) (k : Nat) : w.frozen? ⟨b, k, none⟩ = false := frozen_of_row w b k _ 56 h
theorem Item.place (h : Item w b t p) (p' : Int) : Item (w.setCell ⟨b, 4, none⟩ (.int .i64 p')) b t p' := by
  unfold Item
  rw [heap_setCell_same w b 4 _ 56 _ h]
  rfl
theorem Item.used (h : Item w b t p) (u' : Nat) : Item (w.setCell ⟨b, 3, none⟩ (.int .i64 (u' : Int))) b { t with u := u' } p := by
  unfold Item
  rw [heap_setCell_same w b 3 _ 56 _ h]
  rfl
theorem Item.val (h : Item w b t p) (v' : Int) : Item (w.setCell ⟨b, 2, none⟩ (.int .i64 v')) b { t with v := v' } p := by
  unfold Item
  rw [heap_setCell_same w b 2 _ 56 _ h]
  rfl
theorem Item.other (h : Item w b t p) {a k : Nat} {v : Value} (hb : b ≠ a) : Item (w.setCell ⟨a, k, none⟩ v) b t p := (Below.heap_setCell w ⟨a, k, none⟩ v b hb).trans h
theorem Item.same (h : Item w b t p) (e : w'.heap[b]? = w.heap[b]?) : Item w' b t p := e.trans h
end
/-- The head of a cache. -/
structure Hd where
  most : Int
  uses : Nat
  mb : Nat
def HdAt (w : World) (c : Nat) (h : Hd) (av : Option Addr) (n cap : Nat) : Prop := w.heap[c]? = some (.cells #[.int .i64 h.most, .int .i64 (h.uses : Int), .map (some h.mb), .slice av n cap] 53 (0, 0))
section
variable {w w' : World} {c : Nat} {h : Hd} {av : Option Addr} {n cap : Nat}
theorem HdAt.lt (H : HdAt w c h av n cap) : c < w.heap.size := (Array.getElem?_eq_some_iff.1 H).1
theorem HdAt.c0 (H : HdAt w c h av n cap) : w.cell? ⟨c, 0, none⟩ = some (.int .i64 h.most) := by rw [cell_of_row w c 0 _ 53 (0, 0) H]; rfl
theorem HdAt.c1 (H : HdAt w c h av n cap) : w.cell? ⟨c, 1, none⟩ = some (.int .i64 (h.uses : Int)) := by rw [cell_of_row w c 1 _ 53 (0, 0) H]; rfl
theorem HdAt.c2 (H : HdAt w c h av n cap) : w.cell? ⟨c, 2, none⟩ = some (.map (some h.mb)) := by rw [cell_of_row w c 2 _ 53 (0, 0) H]; rfl
theorem HdAt.c3 (H : HdAt w c h av n cap) : w.cell? ⟨c, 3, none⟩ = some (.slice av n cap) := by rw [cell_of_row w c 3 _ 53 (0, 0) H]; rfl
theorem HdAt.free (H : HdAt w c h av n cap) (k : Nat) : w.frozen? ⟨c, k, none⟩ = false := frozen_of_row w c k _ 53 H
theorem HdAt.other (H : HdAt w c h av n cap) {a k : Nat} {v : Value} (hb : c ≠ a) : HdAt (w.setCell ⟨a, k, none⟩ v) c h av n cap := (Below.heap_setCell w ⟨a, k, none⟩ v c hb).trans H
theorem HdAt.row (H : HdAt w c h av n cap) (av' : Option Addr) (n' cap' : Nat) : HdAt (w.setCell ⟨c, 3, none⟩ (.slice av' n' cap')) c h av' n' cap' := by
  unfold HdAt
  rw [heap_setCell_same w c 3 _ 53 _ H]
  rfl
theorem HdAt.used (H : HdAt w c h av n cap) (u : Nat) : HdAt (w.setCell ⟨c, 1, none⟩ (.int .i64 (u : Int))) c { h with uses := u } av n cap := by
  unfold HdAt
  rw [heap_setCell_same w c 1 _ 53 _ H]
  rfl
end
theorem blk_ne {w : World} {a b : Nat} {t t' : TypeId} {x y : Array Value} (h : w.heap[a]? = some (.cells x t (0, 0))) (h' : w.heap[b]? = some (.cells y t' (0, 0))) (ht : t ≠ t') : a ≠ b := fun e => by
  subst e
  rw [h] at h'
  simp at h'
  exact ht h'.2

/-! ### the row -/
def PRow (B : Nat) (w : World) (av : Option Addr) (n cap : Nat) (q : List Nat) : Prop := w.ownsRow B 54 1 (.slice av n cap) n (q.map pv)
theorem PRow.len {B : Nat} {w : World} {av : Option Addr} {n cap : Nat} {q : List Nat} (h : PRow B w av n cap q) : q.length = n := by simpa using h.1
theorem PRow.at {B : Nat} {w : World} {av : Option Addr} {n cap : Nat} {q : List Nat} (h : PRow B w av n cap q) (hn : 0 < n) : ∃ g cur, av = some ⟨g, 0, none⟩ ∧ w.heap[g]? = some (.cells cur 54 (0, 0)) ∧ B ≤ g ∧ cap ≤ maxLen ∧ n ≤ cap ∧ cur.size = cap ∧ cur.toList.take n = q.map pv := by
  rcases h.2 with ⟨hv, h0⟩ | ⟨g, cap', cur, hv, hB, hg, h1, hm, h3, h4⟩
  · omega
  · simp only [Value.slice.injEq] at hv
    obtain ⟨rfl, _, rfl⟩ := hv
    exact ⟨g, cur, rfl, hg, hB, hm, h1, by simpa using h3, by simpa using h4⟩
theorem PRow.cell {B : Nat} {w : World} {g n cap : Nat} {q : List Nat} (h : PRow B w (some ⟨g, 0, none⟩) n cap q) {i : Nat} (hi : i < n) : w.cell? ⟨g, i, none⟩ = some (pv (q.getD i 0)) ∧ w.frozen? ⟨g, i, none⟩ = false := by
  obtain ⟨g', cur, e, hg, hB, hm, h1, h2, h3⟩ := h.at (by omega)
  cases e
  have hl := h.len
  refine ⟨?_, frozen_of_row w g i _ 54 hg⟩
  rw [cell_of_row w g i _ 54 (0, 0) hg]
  have e : (cur.toList.take n)[i]? = (q.map pv)[i]? := by rw [h3]
  rw [List.getElem?_take_of_lt hi] at e
  have e2 : cur[i]? = cur.toList[i]? := by simp
  rw [e2, e, List.getElem?_map]
  simp [hl, hi]
theorem PRow.same {B : Nat} {w w' : World} {av : Option Addr} {n cap : Nat} {q : List Nat} (h : PRow B w av n cap q) (e : ∀ g, av = some ⟨g, 0, none⟩ → w'.heap[g]? = w.heap[g]?) : PRow B w' av n cap q := by
  refine ⟨h.1, ?_⟩
  rcases h.2 with h1 | ⟨g, cap', cur, hv, hb, hg, r⟩
  · exact .inl h1
  · refine .inr ⟨g, cap', cur, hv, hb, ?_, r⟩
    simp only [Value.slice.injEq] at hv
    rw [e g hv.1]
    exact hg
theorem PRow.set {B : Nat} {w : World} {g n cap : Nat} {q : List Nat} (h : PRow B w (some ⟨g, 0, none⟩) n cap q) {i : Nat} (hi : i < n) (b : Nat) : PRow B (w.setCell ⟨g, i, none⟩ (pv b)) (some ⟨g, 0, none⟩) n cap (q.set i b) := by
  obtain ⟨g', cur, e, hg, hB, hm, h1, h2, h3⟩ := h.at (by omega)
  cases e
  have hl := h.len
  refine ⟨by simpa using hl, .inr ⟨g, cap, _, rfl, hB, heap_setCell_same w g i _ 54 (pv b) hg, h1, hm, by simpa using h2, ?_⟩⟩
  · simp only [Nat.mul_one, Array.toList_setIfInBounds, List.take_set, h3, List.map_set]
/-- The last one struck out, the row shorter by it. -/
theorem PRow.pop {B : Nat} {w : World} {g n cap : Nat} {q : List Nat} (h : PRow B w (some ⟨g, 0, none⟩) (n + 1) cap q) (v : Value) : PRow B (w.setCell ⟨g, n, none⟩ v) (some ⟨g, 0, none⟩) n cap (q.take n) := by
  obtain ⟨g', cur, e, hg, hB, hm, h1, h2, h3⟩ := h.at (by omega)
  cases e
  have hl := h.len
  refine ⟨by simp [hl], .inr ⟨g, cap, _, rfl, hB, heap_setCell_same w g n _ 54 v hg, by omega, hm, by simpa using h2, ?_⟩⟩
  · simp only [Nat.mul_one, Array.toList_setIfInBounds]
    rw [List.map_take, ← h3, List.take_take, List.take_set_of_le (Nat.le_refl n)]
    congr 1
    omega

/-! ### the queue -/
structure QH (B : Nat) (w : World) (c : Nat) (h : Hd) (av : Option Addr) (cap : Nat) (D : Nat → It) (q : List Nat) : Prop where
  hd : HdAt w c h av q.length cap
  row : PRow B w av q.length cap q
  it : ∀ i, i < q.length → Item w (q.getD i 0) (D (q.getD i 0)) i
  nod : q.Nodup
  sz : q.length ≤ 1000
  lo : B ≤ c ∧ ∀ b ∈ q, B ≤ b
/-- The blocks of a queue. -/
def Qf (c : Nat) (av : Option Addr) (q : List Nat) (k : Nat) : Prop := k = c ∨ av = some ⟨k, 0, none⟩ ∨ k ∈ q
section
variable {B : Nat} {w w' : World} {c : Nat} {h : Hd} {av : Option Addr} {cap : Nat} {D : Nat → It} {q : List Nat}
theorem QH.same (H : QH B w c h av cap D q) (e : ∀ k, Qf c av q k → w'.heap[k]? = w.heap[k]?) : QH B w' c h av cap D q :=
  ⟨(e c (.inl rfl)).trans H.hd, H.row.same (fun g hg => e g (.inr (.inl hg))), fun i hi => (H.it i hi).same (e _ (.inr (.inr (getD_mem hi)))), H.nod, H.sz, H.lo⟩
theorem QH.rowAt (H : QH B w c h av cap D q) (h0 : 0 < q.length) : ∃ g cur, av = some ⟨g, 0, none⟩ ∧ w.heap[g]? = some (.cells cur 54 (0, 0)) := by
  obtain ⟨g, cur, e, hg, _⟩ := H.row.at h0
  exact ⟨g, cur, e, hg⟩
theorem QH.capl (H : QH B w c h av cap D q) (h0 : 0 < q.length) : q.length ≤ cap := by
  obtain ⟨_, _, _, _, _, _, h1, _⟩ := H.row.at h0
  exact h1
end
theorem fits {n : Nat} (h : n ≤ 1000) : (n : Int) ≤ 1000 := by omega

theorem len_q {B : Nat} {w : World} {c : Nat} {h : Hd} {av : Option Addr} {cap : Nat} {D : Nat → It} {q : List Nat} (H : QH B w c h av cap D q) : Calls Try.prog 80 #[.pointer (some ⟨c, 3, none⟩)] w fun e w' => e = .returned (.int .i64 (q.length : Int)) ∧ w' = w := by
  have c3 := H.hd.c3
  clear H
  go_enter Try.func80, Try.ntmps80
  go_wp2
  go_ret
  exact ⟨rfl, rfl⟩
theorem less_q {B : Nat} {w : World} {c : Nat} {h : Hd} {av : Option Addr} {cap : Nat} {D : Nat → It} {q : List Nat} (H : QH B w c h av cap D q) {i j : Nat} (hi : i < q.length) (hj : j < q.length) :
    Calls Try.prog 81 #[.pointer (some ⟨c, 3, none⟩), .int .i64 (i : Int), .int .i64 (j : Int)] w fun e w' => e = .returned (.bool (decide ((D (q.getD i 0)).u < (D (q.getD j 0)).u))) ∧ ∃ n, w' = w.drewN n := by
  obtain ⟨g, cur, rfl, hg⟩ := H.rowAt (by omega)
  have c3 := H.hd.c3
  have ri := (H.row.cell hi).1
  have rj := (H.row.cell hj).1
  have ii := (H.it i hi).c3
  have ij := (H.it j hj).c3
  have hn := H.sz
  clear H hg
  unfold pv at ri rj
  generalize hbi : q.getD i 0 = bi at *
  generalize hbj : q.getD j 0 = bj at *
  clear hbi hbj
  generalize hui : (D bi).u = ui at *
  generalize huj : (D bj).u = uj at *
  generalize hln : q.length = n at *
  clear hui huj hln
  go_enter Try.func81, Try.ntmps81
  go_wp2
  go_big_quiet (fail)
  go_wp2
  go_ret
  exact ⟨ret_bool (by simp), _, rfl⟩
theorem swap_q {B : Nat} {w : World} {c : Nat} {h : Hd} {av : Option Addr} {cap : Nat} {D : Nat → It} {q : List Nat} (H : QH B w c h av cap D q) {i j : Nat} (hi : i < q.length) (hj : j < q.length) (hij : i ≠ j) :
    Calls Try.prog 84 #[.pointer (some ⟨c, 3, none⟩), .int .i64 (i : Int), .int .i64 (j : Int)] w fun e w' => e = .returned (.tuple #[]) ∧ QH B w' c h av cap D (swL q i j) ∧ Chg (Qf c av q) w w' := by
  obtain ⟨Post, hPost⟩ : ∃ Post : Ending → World → Prop, Post = fun e w' => e = .returned (.tuple #[]) ∧ QH B w' c h av cap D (swL q i j) ∧ Chg (Qf c av q) w w' := ⟨_, rfl⟩
  rw [← hPost]
  have HP : Hid (∀ w', QH B w' c h av cap D (swL q i j) → Chg (Qf c av q) w w' → Post (.returned (.tuple #[])) w') := fun w' h1 h2 => by rw [hPost]; exact ⟨rfl, h1, h2⟩
  clear hPost
  obtain ⟨g, cur, rfl, hg⟩ := H.rowAt (by omega)
  have hne : q.getD i 0 ≠ q.getD j 0 := fun e => hij (getD_inj H.nod hi hj e)
  have hci : c ≠ q.getD i 0 := blk_ne H.hd (H.it i hi) (by decide)
  have hcj : c ≠ q.getD j 0 := blk_ne H.hd (H.it j hj) (by decide)
  have hcg : c ≠ g := blk_ne H.hd hg (by decide)
  have hgk : ∀ k, k < q.length → q.getD k 0 ≠ g := fun k hk => blk_ne (H.it k hk) hg (by decide)
  -- the worlds on the way
  obtain ⟨w1, hw1⟩ : ∃ w1, w1 = (w.setCell ⟨g, i, none⟩ (pv (q.getD j 0))).drew := ⟨_, rfl⟩
  obtain ⟨w2, hw2⟩ : ∃ w2, w2 = ((w.setCell ⟨g, i, none⟩ (pv (q.getD j 0))).setCell ⟨g, j, none⟩ (pv (q.getD i 0))).drew := ⟨_, rfl⟩
  obtain ⟨w3, hw3⟩ : ∃ w3, w3 = (w2.setCell ⟨q.getD j 0, 4, none⟩ (.int .i64 (i : Int))).drew := ⟨_, rfl⟩
  obtain ⟨w4, hw4⟩ : ∃ w4, w4 = ((w2.setCell ⟨q.getD j 0, 4, none⟩ (.int .i64 (i : Int))).setCell ⟨q.getD i 0, 4, none⟩ (.int .i64 (j : Int))).drew := ⟨_, rfl⟩
  have r0 : PRow B w (some ⟨g, 0, none⟩) q.length cap q := H.row
  have r1 : PRow B w1 (some ⟨g, 0, none⟩) q.length cap (q.set i (q.getD j 0)) := by rw [hw1]; exact r0.set hi _
  have r2 : PRow B w2 (some ⟨g, 0, none⟩) q.length cap (swL q i j) := by rw [hw2]; exact (r0.set hi _).set hj _
  have r3 : PRow B w4 (some ⟨g, 0, none⟩) q.length cap (swL q i j) := by
    refine r2.same (fun g' e => ?_)
    cases e
    rw [hw4]
    exact (Below.heap_setCell _ ⟨q.getD i 0, 4, none⟩ _ _ (Ne.symm (hgk i hi))).trans (Below.heap_setCell _ ⟨q.getD j 0, 4, none⟩ _ _ (Ne.symm (hgk j hj)))
  have i2 : ∀ k, k < q.length → Item w2 (q.getD k 0) (D (q.getD k 0)) k := fun k hk => by
    rw [hw2]
    exact ((H.it k hk).other (hgk k hk)).other (hgk k hk)
  have i3 : Item w3 (q.getD i 0) (D (q.getD i 0)) i := by rw [hw3]; exact (i2 i hi).other hne
  have Q4 : Hid (QH B w4 c h (some ⟨g, 0, none⟩) cap D (swL q i j)) := by
    refine ⟨?_, by rw [swL_len]; exact r3, fun k hk => ?_, (swL_perm hi hj).nodup_iff.2 H.nod, by rw [swL_len]; exact H.sz, H.lo.1, fun b hb => H.lo.2 b ((swL_perm hi hj).mem_iff.1 hb)⟩
    · have h2 : HdAt w2 c h (some ⟨g, 0, none⟩) q.length cap := by rw [hw2]; exact (H.hd.other hcg).other hcg
      rw [swL_len, hw4]
      exact (h2.other hcj).other hci
    · rw [swL_len] at hk
      by_cases h1 : k = i
      · subst h1
        rw [swL_l hi hj, hw4]
        exact Item.other ((i2 j hj).place _) (Ne.symm hne)
      · by_cases h2 : k = j
        · subst h2
          rw [swL_r hj, hw4]
          exact Item.place ((i2 i hi).other hne) _
        · rw [swL_o h1 h2, hw4]
          exact ((i2 k hk).other (fun e => h2 (getD_inj H.nod hk hj e))).other (fun e => h1 (getD_inj H.nod hk hi e))
  have C4 : Hid (Chg (Qf c (some ⟨g, 0, none⟩) q) w w4) := by
    have a2 : Chg (Qf c (some ⟨g, 0, none⟩) q) w w2 := by rw [hw2]; exact (((Chg.refl _ w).set (.inl (.inr (.inl rfl))) _ _).set (.inl (.inr (.inl rfl))) _ _).drew
    rw [hw4]
    exact ((a2.set (.inl (.inr (.inr (getD_mem hj)))) _ _).set (.inl (.inr (.inr (getD_mem hi)))) _ _).drew
  have HR := HP.out w4 Q4.out C4.out
  have c3 := H.hd.c3
  have ri := (r0.cell hi).1
  have rj := (r0.cell hj).1
  have fi := (r0.cell hi).2
  have rj1 := (r1.cell hj).1
  have fj1 := (r1.cell hj).2
  have si : w2.cell? ⟨g, i, none⟩ = some (pv (q.getD j 0)) := by have := (r2.cell hi).1; rw [swL_l hi hj] at this; exact this
  have sj : w2.cell? ⟨g, j, none⟩ = some (pv (q.getD i 0)) := by have := (r2.cell hj).1; rw [swL_r hj] at this; exact this
  have ij4 := (i2 j hj).c4
  have ij4f := (i2 j hj).free 4
  have ii4 := i3.c4
  have ii4f := i3.free 4
  have hn := H.sz
  have hln := H.capl (by omega)
  clear H HP Q4 C4 r0 r1 r2 r3 i2 i3 hgk hg hne hci hcj hcg
  rw [getD_set_other (Ne.symm hij)] at rj1
  unfold pv at *
  generalize q.getD i 0 = bi at *
  generalize q.getD j 0 = bj at *
  generalize q.length = n at *
  clear hij
  go_enter Try.func84, Try.ntmps84
  go_wp2
  subst hw1
  go_big_region
  rw [← hw2]
  subst hw3 hw4
  clear hw2 rj1 fj1 ri rj fi c3
  go_wp2
  go_big_region
  go_wp2
  go_end0
  exact HR
end Go.Proofs.Ytpfhgkgkbefigaa
