/-
  The landed flood in memory: a struct of two fields and sixteen lists; where the spreading stands.
-/
import Derived.Test.YtjeapaojbkicmabDoorKd
import Derived.Test.YtjeapaojbkicmabDoorLsp
set_option maxRecDepth 20000
namespace Go.Proofs.YtjeapaojbkicmabDoor
open C Go.RowKit L

/-- The flood's struct: losses, light, lists. -/
structure Wf (B : Nat) (w : World) (gf gL gl : Nat) (av : Nat → Option Addr) (cv : Nat → Nat) (wt : Nat → List Int) : Prop where
  blk : ∃ cs, w.heap[gf]? = some (.cells cs 68 (0, 0)) ∧ cs.size = 18
  p0 : w.cell? ⟨gf, 0, none⟩ = some (.pointer (some ⟨gL, 0, none⟩))
  p1 : w.cell? ⟨gf, 1, none⟩ = some (.pointer (some ⟨gl, 0, none⟩))
  out : ∀ v, v < 16 → w.cell? ⟨gf, 2 + v, none⟩ = some (slW av cv wt v)
  own : ∀ v, v < 16 → OwnI w B (av v) (cv v) (wt v)
  apart : ∀ u v g, u < 16 → v < 16 → u ≠ v → Value.ownBlock (slW av cv wt u) = some g → Value.ownBlock (slW av cv wt v) ≠ some g
  base : B ≤ gf
theorem Wf.lt {B gf gL gl : Nat} {w : World} {av : Nat → Option Addr} {cv : Nat → Nat} {wt : Nat → List Int} (h : Wf B w gf gL gl av cv wt) : gf < w.heap.size := by
  obtain ⟨cs, hc, _⟩ := h.blk
  exact (Array.getElem?_eq_some_iff.1 hc).1
theorem Wf.free {B gf gL gl : Nat} {w : World} {av : Nat → Option Addr} {cv : Nat → Nat} {wt : Nat → List Int} (h : Wf B w gf gL gl av cv wt) (k : Nat) : w.frozen? ⟨gf, k, none⟩ = false := by
  obtain ⟨cs, hc, _⟩ := h.blk
  exact frozen_of_row w gf k cs 68 hc
theorem Wf.notw {B gf gL gl : Nat} {w : World} {av : Nat → Option Addr} {cv : Nat → Nat} {wt : Nat → List Int} (h : Wf B w gf gL gl av cv wt) {v : Nat} (hv : v < 16) : Value.ownBlock (slW av cv wt v) ≠ some gf := fun e => by
  obtain ⟨_, cur, hc⟩ := own_block (h.own v hv) e
  obtain ⟨cs, hc2, _⟩ := h.blk
  rw [hc] at hc2
  cases hc2
theorem Wf.on {B gf gL gl : Nat} {w w' : World} {av : Nat → Option Addr} {cv : Nat → Nat} {wt : Nat → List Int} (h : Wf B w gf gL gl av cv wt) (hb : Below w.heap.size w w') : Wf B w' gf gL gl av cv wt := by
  obtain ⟨cs, hc, hs⟩ := h.blk
  exact ⟨⟨cs, (hb.block _ h.lt).trans hc, hs⟩, cell_below h.p0 hb, cell_below h.p1 hb, fun v hv => cell_below (h.out v hv) hb, fun v hv => ownsRow_on (h.own v hv) hb, h.apart, h.base⟩
/-- A store into a field. -/
theorem Wf.byte {B gf gL gl k g : Nat} {w : World} {av : Nat → Option Addr} {cv : Nat → Nat} {wt : Nat → List Int} {cur : Array Value} {x : Value} (h : Wf B w gf gL gl av cv wt) (hl : w.heap[g]? = some (.cells cur 54 (0, 0))) : Wf B (w.setCell ⟨g, k, none⟩ x) gf gL gl av cv wt := by
  obtain ⟨cs, hc, hs⟩ := h.blk
  have hne : gf ≠ g := fun e => by rw [e, hl] at hc; cases hc
  refine ⟨⟨cs, (Below.heap_setCell w ⟨g, k, none⟩ x gf hne).trans hc, hs⟩, (World.cell?_setCell_other w _ _ _ (fun e => hne (by cases e; rfl))).trans h.p0, (World.cell?_setCell_other w _ _ _ (fun e => hne (by cases e; rfl))).trans h.p1, fun v hv => (World.cell?_setCell_other w _ _ _ (fun e => hne (by cases e; rfl))).trans (h.out v hv), fun v hv => ?_, h.apart, h.base⟩
  exact ownsRow_apart (r := some g) (h.own v hv) ⟨rfl, rfl, rfl, by simp [World.setCell], fun j _ hj => Below.heap_setCell w ⟨g, k, none⟩ x j (fun e => hj (by rw [e]))⟩ (fun b hg e => by
    obtain ⟨_, c2, h2⟩ := own_block (h.own v hv) hg
    cases e
    rw [hl] at h2
    cases h2)
/-- One more at the end of a list, and its slice is laid back. -/
theorem Wf.push {B gf gL gl v : Nat} {w w' : World} {av : Nat → Option Addr} {cv : Nat → Nat} {wt : Nat → List Int} {a' : Option Addr} {c' : Nat} {y : Int} (h : Wf B w gf gL gl av cv wt) (hv : v < 16) (ho : OwnI w' B a' c' (wt v ++ [y]))
    (hg : w.grownBy w' (Value.ownBlock (slW av cv wt v))) (hat : Value.ownBlock (.slice a' ((wt v).length + 1) c') = Value.ownBlock (slW av cv wt v) ∨ Value.ownBlock (.slice a' ((wt v).length + 1) c') = some w.heap.size) :
    Wf B (w'.setCell ⟨gf, 2 + v, none⟩ (.slice a' ((wt v).length + 1) c')) gf gL gl (updA av v a') (updA cv v c') (updA wt v (wt v ++ [y])) := by
  obtain ⟨cs, hc, hs⟩ := h.blk
  have hnw := h.notw hv
  have hlt := h.lt
  have hc' : w'.heap[gf]? = some (.cells cs 68 (0, 0)) := (hg.block gf hlt (fun e => hnw e.symm)).trans hc
  have hsl : ∀ u, u < 16 → slW (updA av v a') (updA cv v c') (updA wt v (wt v ++ [y])) u = if u = v then .slice a' ((wt v).length + 1) c' else slW av cv wt u := fun u _ => by
    unfold slW
    by_cases e : u = v
    · subst e; rw [updA_same, updA_same, updA_same, if_pos rfl, List.length_append]; rfl
    · rw [updA_other _ _ e, updA_other _ _ e, updA_other _ _ e, if_neg e]
  have own' : ∀ u, u < 16 → OwnI w' B (updA av v a' u) (updA cv v c' u) (updA wt v (wt v ++ [y]) u) := fun u hu => by
    by_cases e : u = v
    · subst e; rw [updA_same, updA_same, updA_same]; exact ho
    · rw [updA_other _ _ e, updA_other _ _ e, updA_other _ _ e]
      exact ownsRow_apart (h.own u hu) hg (fun g hgu e2 => h.apart u v g hu hv e hgu e2)
  have hgr : ∀ x, w'.grownBy (w'.setCell ⟨gf, 2 + v, none⟩ x) (some gf) := fun x => ⟨rfl, rfl, rfl, by simp [World.setCell], fun j _ hj => Below.heap_setCell w' ⟨gf, 2 + v, none⟩ x j (fun e => hj (by rw [e]))⟩
  have cellk : ∀ k x, w.cell? ⟨gf, k, none⟩ = some x → w'.cell? ⟨gf, k, none⟩ = some x := fun k x hx => by
    rw [cell_of_row w gf k cs 68 (0, 0) hc] at hx
    rw [cell_of_row w' gf k cs 68 (0, 0) hc']
    exact hx
  have cell' : ∀ u, u < 16 → w'.cell? ⟨gf, 2 + u, none⟩ = some (slW av cv wt u) := fun u hu => cellk _ _ (h.out u hu)
  refine ⟨⟨_, heap_setCell_same w' gf (2 + v) _ 68 _ hc', by rw [Array.size_setIfInBounds]; exact hs⟩, ?_, ?_, fun u hu => ?_, fun u hu => ?_, fun u u2 g hu hu2 hne h1 h2 => ?_, h.base⟩
  · rw [World.cell?_setCell_other w' _ _ _ (fun q => by injection q; omega)]
    exact cellk _ _ h.p0
  · rw [World.cell?_setCell_other w' _ _ _ (fun q => by injection q; omega)]
    exact cellk _ _ h.p1
  · rw [hsl u hu]
    by_cases e : u = v
    · subst e
      rw [if_pos rfl]
      exact World.cell?_setCell_same w' _ _ (cell' u hu)
    · rw [if_neg e, World.cell?_setCell_other w' _ _ _ (fun q => e (by injection q; omega))]
      exact cell' u hu
  · refine ownsRow_apart (r := some gf) (own' u hu) (hgr _) (fun g hgu e => ?_)
    cases e
    obtain ⟨_, cur, hcu⟩ := own_block (own' u hu) hgu
    rw [hc'] at hcu
    cases hcu
  · rw [hsl u hu] at h1
    rw [hsl u2 hu2] at h2
    by_cases e1 : u = v
    · subst e1
      rw [if_pos rfl] at h1
      rw [if_neg (Ne.symm hne)] at h2
      rcases hat with e | e
      · rw [e] at h1; exact h.apart u u2 g hu hu2 hne h1 h2
      · rw [e] at h1
        obtain ⟨_, cur, hcu⟩ := own_block (h.own u2 hu2) h2
        have := (Array.getElem?_eq_some_iff.1 hcu).1
        cases h1
        omega
    · rw [if_neg e1] at h1
      by_cases e2 : u2 = v
      · subst e2
        rw [if_pos rfl] at h2
        rcases hat with e | e
        · rw [e] at h2; exact h.apart u u2 g hu hu2 hne h1 h2
        · rw [e] at h2
          obtain ⟨_, cur, hcu⟩ := own_block (h.own u hu) h1
          have := (Array.getElem?_eq_some_iff.1 hcu).1
          cases h2
          omega
      · rw [if_neg e2] at h2
        exact h.apart u u2 g hu hu2 hne h1 h2
/-- Behind an append: any block that is of another type lies as it lay. -/
theorem Wf.other {B gf gL gl v Ln b : Nat} {w w' : World} {av : Nat → Option Addr} {cv : Nat → Nat} {wt : Nat → List Int} {cs : Array Value} {t : TypeId} (h : Wf B w gf gL gl av cv wt) (hv : v < 16) (hL : (wt v).length = Ln) (hg : w.grownBy w' (Value.ownBlock (.slice (av v) Ln (cv v)))) (hb : w.heap[b]? = some (.cells cs t (0, 0))) (ht : t ≠ 3) : w'.heap[b]? = some (.cells cs t (0, 0)) := by
  subst hL
  refine (hg.block b (Array.getElem?_eq_some_iff.1 hb).1 (fun q => ?_)).trans hb
  obtain ⟨_, c2, h2⟩ := own_block (h.own v hv) q.symm
  rw [hb] at h2
  cases h2
  exact ht rfl
theorem Wf.kept {B gf gL gl v Ln k : Nat} {x : Value} {w w' : World} {av : Nat → Option Addr} {cv : Nat → Nat} {wt : Nat → List Int} (h : Wf B w gf gL gl av cv wt) (hv : v < 16) (hL : (wt v).length = Ln) (hg : w.grownBy w' (Value.ownBlock (.slice (av v) Ln (cv v)))) (hx : w.cell? ⟨gf, k, none⟩ = some x) : w'.cell? ⟨gf, k, none⟩ = some x := by
  obtain ⟨cs, hc, _⟩ := h.blk
  have hc' := h.other hv hL hg hc (by decide)
  rw [cell_of_row w gf k cs 68 (0, 0) hc] at hx
  rw [cell_of_row w' gf k cs 68 (0, 0) hc']
  exact hx
/-- What does not change. -/
structure SqE where
  gf : Nat
  gL : Nat
  gl : Nat
  LS : List Int
  w0 : World
structure Sq (e : SqE) (s : L.Sys) (level k : Nat) (D : Nat → Nat → Prop) (c : Nat) (ls : List Int) (wait : Nat → List Nat) (av : Nat → Option Addr) (cv : Nat → Nat) (w : World) : Prop where
  bq : Bq s (li ls) wait level k D
  len : ls.length = 325000
  lv : Lv ls
  pl : Blk w e.gl 54 ls
  pL : Blk w e.gL 54 e.LS
  wf : Wf e.w0.heap.size w e.gf e.gL e.gl av cv (wI wait)
  sz : ∀ v, (wait v).length ≤ c
  gr : e.w0.grownBy w (some e.gl)
/-- What is said of the field and its sources. -/
structure SqO (e : SqE) (s : L.Sys) : Prop where
  sn : s.n = 325000
  pass : ∀ i, i < 325000 → s.pass i = decide ((e.LS.getD i 0).toNat ≤ 15)
  loss : ∀ i, i < 325000 → s.loss i = (e.LS.getD i 0).toNat
  adj : ∀ i j, s.adj i j ↔ Adj i j
  inn : ∀ i v, L.Lit s i v → 0 < v → Inn i
  kl : e.LS.length = 325000
  kk : ∀ i, i < 325000 → 1 ≤ e.LS.getD i 0 ∧ e.LS.getD i 0 ≤ 16
  n1 : e.gl ≠ e.gL
  b0 : e.gl < e.w0.heap.size
  t0 : Tabs e.w0
  two : 2 ≤ e.gl
theorem Sq.tabs {e : SqE} {s : L.Sys} {level k c : Nat} {D : Nat → Nat → Prop} {ls : List Int} {wait : Nat → List Nat} {av : Nat → Option Addr} {cv : Nat → Nat} {w : World} (o : SqO e s) (h : Sq e s level k D c ls wait av cv w) : Tabs w := o.t0.grown h.gr o.two
theorem Sq.on {e : SqE} {s : L.Sys} {level k c : Nat} {D : Nat → Nat → Prop} {ls : List Int} {wait : Nat → List Nat} {av : Nat → Option Addr} {cv : Nat → Nat} {w w' : World} (h : Sq e s level k D c ls wait av cv w) (hb : Below w.heap.size w w') : Sq e s level k D c ls wait av cv w' :=
  ⟨h.bq, h.len, h.lv, h.pl.below hb h.pl.lt, h.pL.below hb h.pL.lt, h.wf.on hb, h.sz, ⟨hb.os.trans h.gr.os, hb.tape.trans h.gr.tape, hb.output.trans h.gr.output, Nat.le_trans h.gr.size hb.size, fun j hj hne => (hb.block j (Nat.lt_of_lt_of_le hj h.gr.size)).trans (h.gr.block j hj hne)⟩⟩
/-- Another reading of where the spreading stands. -/
theorem Sq.as {e : SqE} {s : L.Sys} {level k c level' k' c' : Nat} {D D' : Nat → Nat → Prop} {ls : List Int} {wait : Nat → List Nat} {av : Nat → Option Addr} {cv : Nat → Nat} {w : World} (h : Sq e s level k D c ls wait av cv w) (hb : Bq s (li ls) wait level' k' D') (hc : c ≤ c') : Sq e s level' k' D' c' ls wait av cv w :=
  ⟨hb, h.len, h.lv, h.pl, h.pL, h.wf, fun v => Nat.le_trans (h.sz v) hc, h.gr⟩
theorem pushW_wI (wait : Nat → List Nat) (v n : Nat) : wI (pushW wait v n) = updA (wI wait) v (wI wait v ++ [(n : Int)]) := wI_push wait v n
/-- A cell waits: the new list, the slice laid back. -/
theorem Sq.push {e : SqE} {s : L.Sys} {level k c m n v : Nat} {D : Nat → Nat → Prop} {ls : List Int} {wait : Nat → List Nat} {av : Nat → Option Addr} {cv : Nat → Nat} {w w3 : World} {a' : Option Addr} {c' : Nat} (h : Sq e s level k D c ls wait av cv w) (ha : s.adj m n) (hp : s.pass n = true) (hv : v + s.loss n = li ls m) (hl : li ls m ≤ level) (h1 : 1 ≤ v) (hv16 : v < 16)
    (ho : OwnI w3 e.w0.heap.size a' c' (wI wait v ++ [(n : Int)])) (hg : w.grownBy w3 (Value.ownBlock (slW av cv (wI wait) v))) (hat : Value.ownBlock (.slice a' ((wI wait v).length + 1) c') = Value.ownBlock (slW av cv (wI wait) v) ∨ Value.ownBlock (.slice a' ((wI wait v).length + 1) c') = some w.heap.size) :
    Sq e s level k (fun a b => D a b ∨ (a = m ∧ b = n)) (c + 1) ls (pushW wait v n) (updA av v a') (updA cv v c') (w3.setCell ⟨e.gf, 2 + v, none⟩ (.slice a' ((wI wait v).length + 1) c')) := by
  have wt2 := h.wf.push hv16 ho hg hat
  rw [← pushW_wI] at wt2
  have hfld : ∀ {b : Nat} {cs : List Int}, Blk w b 54 cs → Blk (w3.setCell ⟨e.gf, 2 + v, none⟩ (.slice a' ((wI wait v).length + 1) c')) b 54 cs := fun {b cs} hb => by
    have hb3 : Blk w3 b 54 cs := h.wf.other hv16 rfl hg hb (by decide)
    refine hb3.other (fun q => ?_)
    obtain ⟨c2, hc2, _⟩ := h.wf.blk
    have hb' : w.heap[b]? = some (.cells (vals cs) 54 (0, 0)) := hb
    rw [q, hc2] at hb'
    cases hb'
  refine ⟨h.bq.push ha hp hv hl h1, h.len, h.lv, hfld h.pl, hfld h.pL, wt2, fun u => ?_, ?_⟩
  · have h2 := h.sz u
    have h3 := h.sz v
    unfold pushW
    by_cases q : u = v
    · rw [if_pos q, List.length_append]
      simp only [List.length_cons, List.length_nil]
      omega
    · rw [if_neg q]; omega
  · have hbase := h.wf.base
    refine ⟨hg.os.trans h.gr.os, hg.tape.trans h.gr.tape, hg.output.trans h.gr.output, ?_, fun j hj hne => ?_⟩
    · have := h.gr.size
      have := hg.size
      simp only [World.setCell] at *
      simp
      omega
    · have hjl : j < w.heap.size := Nat.lt_of_lt_of_le hj h.gr.size
      refine (Below.heap_setCell w3 _ _ j (by show j ≠ e.gf; omega)).trans ((hg.block j hjl (fun q => ?_)).trans (h.gr.block j hj hne))
      have := (own_block (h.wf.own v hv16) q.symm).1
      omega
/-- The next of a list gets its light. -/
theorem Sq.light {e : SqE} {s : L.Sys} {level k c m : Nat} {ls : List Int} {wait : Nat → List Nat} {av : Nat → Option Addr} {cv : Nat → Nat} {w : World} (h : Sq e s level k (fun _ _ => True) c ls wait av cv w) (hn : m < 325000) (hk : (wait level)[k]? = some m) (hl : li ls m < level) (hv : level ≤ 15) (hne : e.gl ≠ e.gL) :
    Sq e s level (k + 1) (fun a _ => a ≠ m) c (ls.set m (level : Int)) wait av cv (w.setCell ⟨e.gl, m, none⟩ (.int .u8 (level : Int))) := by
  have hn' : m < ls.length := by rw [h.len]; exact hn
  refine ⟨?_, by rw [List.length_set]; exact h.len, h.lv.set hn' hv, h.pl.set m _, h.pL.other (Ne.symm hne), h.wf.byte h.pl, h.sz, ⟨h.gr.os, h.gr.tape, h.gr.output, by have := h.gr.size; simpa [World.setCell] using this, fun j hj hj2 => (Below.heap_setCell w ⟨e.gl, m, none⟩ _ j (fun e' => hj2 (by rw [e']))).trans (h.gr.block j hj hj2)⟩⟩
  rw [li_set hn']
  exact h.bq.light hk hl
end Go.Proofs.YtjeapaojbkicmabDoor
