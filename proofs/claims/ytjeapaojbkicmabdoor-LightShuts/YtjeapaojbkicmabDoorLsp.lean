/-
  The document's Spread: where it stands.
-/
import Derived.Test.YtjeapaojbkicmabDoorLwait
import Derived.Test.YtjeapaojbkicmabDoorLlamp
import Derived.Test.YtjeapaojbkicmabDoorLLaws
set_option maxRecDepth 20000
namespace Go.Proofs.YtjeapaojbkicmabDoor
open C Go.RowKit L

/-- The level of a cell. -/
def li (ls : List Int) (i : Nat) : Nat := (ls.getD i 0).toNat
def Lv (ls : List Int) : Prop := ∀ i, 0 ≤ ls.getD i 0 ∧ ls.getD i 0 ≤ 15
def sumL (ls : List Int) : Nat := (ls.map Int.toNat).sum
theorem sum_set : ∀ (ls : List Int) (i : Nat) (v : Int), i < ls.length → ls.getD i 0 < v → 0 ≤ ls.getD i 0 → sumL ls + 1 ≤ sumL (ls.set i v)
  | [], i, v, h, _, _ => by simp at h
  | x :: xs, 0, v, _, h1, h2 => by
    unfold sumL
    rw [List.set_cons_zero, List.map_cons, List.map_cons, List.sum_cons, List.sum_cons]
    have e : (x :: xs).getD 0 0 = x := rfl
    rw [e] at h1 h2
    omega
  | x :: xs, i + 1, v, h, h1, h2 => by
    have := sum_set xs i v (by simpa using h) (by simpa using h1) (by simpa using h2)
    unfold sumL at this ⊢
    rw [List.set_cons_succ, List.map_cons, List.map_cons, List.sum_cons, List.sum_cons]
    omega
theorem sum_le : ∀ (ls : List Int), (∀ x ∈ ls, x ≤ 15) → sumL ls ≤ 15 * ls.length
  | [], _ => by simp [sumL]
  | x :: xs, h => by
    have h1 := sum_le xs (fun y hy => h y (List.mem_cons_of_mem _ hy))
    have h2 := h x List.mem_cons_self
    unfold sumL at h1 ⊢
    rw [List.map_cons, List.sum_cons, List.length_cons]
    omega
theorem Lv.mem {ls : List Int} (h : Lv ls) : ∀ x ∈ ls, x ≤ 15 := fun x hx => by
  obtain ⟨i, hi, rfl⟩ := List.getElem_of_mem hx
  have := (h i).2
  rwa [List.getD_eq_getElem?_getD, List.getElem?_eq_getElem hi] at this
theorem li_set {ls : List Int} {n v : Nat} (hn : n < ls.length) : li (ls.set n (v : Int)) = upd (li ls) n v := by
  funext i
  unfold li upd
  by_cases e : i = n
  · subst e
    rw [if_pos rfl, C.getD_set_self ls i _ hn]
    simp
  · rw [if_neg e, C.getD_set_ne ls _ (fun q => e q.symm)]
theorem Lv.set {ls : List Int} (h : Lv ls) {n v : Nat} (hn : n < ls.length) (hv : v ≤ 15) : Lv (ls.set n (v : Int)) := fun i => by
  by_cases e : i = n
  · subst e
    rw [C.getD_set_self ls i _ hn]
    omega
  · rw [C.getD_set_ne ls _ (fun q => e q.symm)]
    exact h i
def wI (wait : Nat → List Nat) (v : Nat) : List Int := (wait v).map fun i : Nat => (i : Int)
theorem wI_push (wait : Nat → List Nat) (v n : Nat) : wI (fun u => if u = v then wait v ++ [n] else wait u) = updA (wI wait) v (wI wait v ++ [(n : Int)]) := by
  funext u
  unfold wI updA
  simp only []
  by_cases e : u = v
  · rw [if_pos e, if_pos e, List.map_append]; rfl
  · rw [if_neg e, if_neg e]
/-- What does not change. -/
structure SpE where
  g : Nat
  kb : Nat
  gl : Nat
  gw : Nat
  N : Nat
  cap : Nat
  ks : List Int
  w0 : World
structure Sp (e : SpE) (s : L.Sys) (level k : Nat) (ls : List Int) (wait : Nat → List Nat) (av : Nat → Option Addr) (cv : Nat → Nat) (w : World) : Prop where
  bk : Bk s (li ls) wait level k
  len : ls.length = e.N
  lv : Lv ls
  pl : Pre w e.gl 5 ls
  fd : Fd w e.g 48 48 128 (.slice (some ⟨e.kb, 0, none⟩) e.N e.cap)
  pk : Pre w e.kb 5 e.ks
  wt : Wt e.w0.heap.size w e.gw av cv (wI wait)
  sz : ∀ v, (wait v).length ≤ e.N + sumL ls
  gr : e.w0.grownBy w (some e.gl)
/-- What is said of the field and its sources. -/
structure SpO (e : SpE) (s : L.Sys) : Prop where
  n : e.N = 294912
  sn : s.n = 294912
  pass : ∀ i, s.pass i = passK (e.ks.getD i 0)
  loss : ∀ i, s.loss i = lossK (e.ks.getD i 0)
  adj : ∀ i j, s.adj i j ↔ i < 294912 ∧ ∃ w, w < 6 ∧ nbr 48 48 128 i w = some j
  kl : e.ks.length = e.N
  kk : Kinds e.ks
  n1 : e.gl ≠ e.kb
  n2 : e.gl ≠ e.g
  b0 : e.gl < e.w0.heap.size
theorem Sp.on {e : SpE} {s : L.Sys} {level k : Nat} {ls : List Int} {wait : Nat → List Nat} {av : Nat → Option Addr} {cv : Nat → Nat} {w w' : World} (h : Sp e s level k ls wait av cv w) (hb : Below w.heap.size w w') : Sp e s level k ls wait av cv w' :=
  ⟨h.bk, h.len, h.lv, h.pl.below hb h.pl.lt, h.fd.on hb, h.pk.below hb h.pk.lt, h.wt.on hb, h.sz, ⟨hb.os.trans h.gr.os, hb.tape.trans h.gr.tape, hb.output.trans h.gr.output, Nat.le_trans h.gr.size hb.size, fun j hj hne => (hb.block j (Nat.lt_of_lt_of_le hj h.gr.size)).trans (h.gr.block j hj hne)⟩⟩
theorem Sp.small {e : SpE} {s : L.Sys} {level k : Nat} {ls : List Int} {wait : Nat → List Nat} {av : Nat → Option Addr} {cv : Nat → Nat} {w : World} (o : SpO e s) (h : Sp e s level k ls wait av cv w) (v : Nat) : (wait v).length ≤ 4718592 := by
  have h1 := sum_le ls h.lv.mem
  have h2 := h.sz v
  have h3 := h.len
  have h4 := o.n
  omega
/-- A cell's light has gone on in the first ways. -/
def Ways (s : L.Sys) (l : Nat → Nat) (level m X : Nat) : Prop := ∀ w j, w < X → nbr 48 48 128 m w = some j → s.pass j = true → level - s.loss j ≤ l j
theorem ways_done {e : SpE} {s : L.Sys} {l : Nat → Nat} {level m : Nat} (o : SpO e s) (h : Ways s l level m 6) (hl : l m = level) : Done s l m := fun i ha hp => by
  obtain ⟨_, w, hw, hn⟩ := (o.adj m i).1 ha
  rw [hl]
  exact h w i hw hn hp
theorem ways_next {s : L.Sys} {l : Nat → Nat} {level m X : Nat} (h : Ways s l level m X) (h1 : ∀ j, nbr 48 48 128 m X = some j → s.pass j = true → level - s.loss j ≤ l j) : Ways s l level m (X + 1) := fun w j hw hn hp => by
  by_cases e : w = X
  · subst e; exact h1 j hn hp
  · exact h w j (by omega) hn hp
theorem ways_up {s : L.Sys} {l l' : Nat → Nat} {level m X : Nat} (h : Ways s l level m X) (hl : ∀ i, l i ≤ l' i) : Ways s l' level m X := fun w j hw hn hp => Nat.le_trans (h w j hw hn hp) (hl j)
/-- A cell is raised: the store, the new list, the slice laid back. -/
theorem Sp.raise {e : SpE} {s : L.Sys} {level k m n v : Nat} {ls : List Int} {wait : Nat → List Nat} {av : Nat → Option Addr} {cv : Nat → Nat} {w w2 w3 : World} {a' : Option Addr} {c' : Nat} (o : SpO e s) (h : Sp e s level k ls wait av cv w) (hm : li ls m = level) (ha : s.adj m n) (hp : s.pass n = true) (hv : v + s.loss n = level) (hl : li ls n < v) (hv15 : v ≤ 15)
    (hb : Below (w.setCell ⟨e.gl, n, none⟩ (.int .u8 (v : Int))).heap.size (w.setCell ⟨e.gl, n, none⟩ (.int .u8 (v : Int))) w2)
    (ho : OwnI w3 e.w0.heap.size a' c' (wI wait v ++ [(n : Int)])) (hg : w2.grownBy w3 (Value.ownBlock (slW av cv (wI wait) v))) (hat : Value.ownBlock (.slice a' ((wI wait v).length + 1) c') = Value.ownBlock (slW av cv (wI wait) v) ∨ Value.ownBlock (.slice a' ((wI wait v).length + 1) c') = some w2.heap.size) :
    Sp e s level k (ls.set n (v : Int)) (fun u => if u = v then wait v ++ [n] else wait u) (updA av v a') (updA cv v c') (w3.setCell ⟨e.gw, v, none⟩ (.slice a' ((wI wait v).length + 1) c')) := by
  have hn : n < ls.length := by rw [h.len, o.n]; have := s.adj_lt _ _ ha; rw [o.sn] at this; exact this
  have hv16 : v < 16 := by omega
  obtain ⟨cur, hcur, _⟩ := h.pl
  have wt1 := (h.wt.byte (k := n) (x := .int .u8 (v : Int)) hcur).on hb
  have wt2 := wt1.push hv16 ho hg hat
  rw [← wI_push] at wt2
  have hnb : ∀ {b : Nat} {t : TypeId} {cs : List Int}, Pre w2 b t cs → t ≠ 3 → t ≠ 65 → Pre (w3.setCell ⟨e.gw, v, none⟩ (.slice a' ((wI wait v).length + 1) c')) b t cs := fun {b t cs} hpr h3 h58 => by
    obtain ⟨cu, hcu, hr⟩ := hpr
    have hne : b ≠ e.gw := fun q => by
      obtain ⟨c2, hc2, _⟩ := wt1.blk
      rw [q, hc2] at hcu
      cases hcu
      exact h58 rfl
    refine ⟨cu, (Below.heap_setCell w3 _ _ b hne).trans ((hg.block b (Array.getElem?_eq_some_iff.1 hcu).1 (fun q => ?_)).trans hcu), hr⟩
    obtain ⟨_, c2, hc2⟩ := own_block (wt1.own v hv16) q.symm
    rw [hcu] at hc2
    cases hc2
    exact h3 rfl
  have hsz1 : (w.setCell ⟨e.gl, n, none⟩ (.int .u8 (v : Int))).heap.size = w.heap.size := by simp [World.setCell]
  have hnl : ∀ {b : Nat} {c3 : Array Value} {t : TypeId}, w.heap[b]? = some (.cells c3 t (0, 0)) → b ≠ e.gl → t ≠ 3 → t ≠ 65 → (w3.setCell ⟨e.gw, v, none⟩ (.slice a' ((wI wait v).length + 1) c')).heap[b]? = some (.cells c3 t (0, 0)) := fun {b c3 t} hbk hne h3 h58 => by
    have h1 : w2.heap[b]? = some (.cells c3 t (0, 0)) := (hb.block b (by rw [hsz1]; exact (Array.getElem?_eq_some_iff.1 hbk).1)).trans ((Below.heap_setCell w ⟨e.gl, n, none⟩ _ b hne).trans hbk)
    have hng : b ≠ e.gw := fun q => by
      obtain ⟨c2, hc2, _⟩ := wt1.blk
      rw [q, hc2] at h1
      cases h1
      exact h58 rfl
    refine (Below.heap_setCell w3 _ _ b hng).trans ((hg.block b (Array.getElem?_eq_some_iff.1 h1).1 (fun q => ?_)).trans h1)
    obtain ⟨_, c2, hc2⟩ := own_block (wt1.own v hv16) q.symm
    rw [h1] at hc2
    cases hc2
    exact h3 rfl
  refine ⟨?_, by rw [List.length_set]; exact h.len, h.lv.set hn hv15, hnb ((h.pl.set n _).below hb (by rw [hsz1]; exact h.pl.lt)) (by decide) (by decide), hnl h.fd (Ne.symm o.n2) (by decide) (by decide), ?_, wt2, fun u => ?_, ?_⟩
  · rw [li_set hn]
    exact h.bk.raise hm ha hp hv hl
  · obtain ⟨cu, hcu, hr⟩ := h.pk
    exact ⟨cu, hnl hcu (Ne.symm o.n1) (by decide) (by decide), hr⟩
  · have h1 := h.sz u
    have h2 := sum_set ls n (v : Int) hn (by have := (h.lv n).1; unfold li at hl; omega) (h.lv n).1
    have h3 := h.sz v
    by_cases q : u = v
    · rw [if_pos q, List.length_append]
      simp only [List.length_cons, List.length_nil]
      omega
    · rw [if_neg q]; omega
  · have hbase := wt1.base
    refine ⟨hg.os.trans (hb.os.trans h.gr.os), hg.tape.trans (hb.tape.trans h.gr.tape), hg.output.trans (hb.output.trans h.gr.output), ?_, fun j hj hne => ?_⟩
    · have := h.gr.size
      have := hb.size
      have := hg.size
      simp only [World.setCell] at *
      simp
      omega
    · have hjl : j < w.heap.size := Nat.lt_of_lt_of_le hj h.gr.size
      have hj2 : j < w2.heap.size := Nat.lt_of_lt_of_le (by rw [hsz1]; exact hjl) hb.size
      refine (Below.heap_setCell w3 _ _ j (by show j ≠ e.gw; omega)).trans ((hg.block j hj2 (fun q => ?_)).trans ((hb.block j (by rw [hsz1]; exact hjl)).trans ((Below.heap_setCell w ⟨e.gl, n, none⟩ _ j (fun q => hne (by rw [q]))).trans (h.gr.block j hj hne))))
      have := (own_block (wt1.own v hv16) q.symm).1
      omega
end Go.Proofs.YtjeapaojbkicmabDoor
