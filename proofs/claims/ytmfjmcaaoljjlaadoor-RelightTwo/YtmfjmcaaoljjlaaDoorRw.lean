/-
  The landed relight in memory: sixteen lists in an array; where it stands.
-/
import Derived.Test.YtmfjmcaaoljjlaaDoorRd2
set_option maxRecDepth 20000
namespace Go.Proofs.YtmfjmcaaoljjlaaDoor
open C Go.RowKit L

/-- Sixteen lists in an array. -/
structure Wv (B : Nat) (w : World) (gw : Nat) (av : Nat → Option Addr) (cv : Nat → Nat) (wt : Nat → List Int) : Prop where
  blk : ∃ cs, w.heap[gw]? = some (.cells cs 70 (0, 0)) ∧ cs.size = 16
  out : ∀ v, v < 16 → w.cell? ⟨gw, v, none⟩ = some (slW av cv wt v)
  own : ∀ v, v < 16 → OwnI w B (av v) (cv v) (wt v)
  apart : ∀ u v g, u < 16 → v < 16 → u ≠ v → Value.ownBlock (slW av cv wt u) = some g → Value.ownBlock (slW av cv wt v) ≠ some g
  base : B ≤ gw
theorem Wv.lt {B gw : Nat} {w : World} {av : Nat → Option Addr} {cv : Nat → Nat} {wt : Nat → List Int} (h : Wv B w gw av cv wt) : gw < w.heap.size := by
  obtain ⟨cs, hc, _⟩ := h.blk
  exact (Array.getElem?_eq_some_iff.1 hc).1
theorem Wv.free {B gw : Nat} {w : World} {av : Nat → Option Addr} {cv : Nat → Nat} {wt : Nat → List Int} (h : Wv B w gw av cv wt) (k : Nat) : w.frozen? ⟨gw, k, none⟩ = false := by
  obtain ⟨cs, hc, _⟩ := h.blk
  exact frozen_of_row w gw k cs 70 hc
theorem Wv.notw {B gw : Nat} {w : World} {av : Nat → Option Addr} {cv : Nat → Nat} {wt : Nat → List Int} (h : Wv B w gw av cv wt) {v : Nat} (hv : v < 16) : Value.ownBlock (slW av cv wt v) ≠ some gw := fun e => by
  obtain ⟨_, cur, hc⟩ := own_block (h.own v hv) e
  obtain ⟨cs, hc2, _⟩ := h.blk
  rw [hc] at hc2
  cases hc2
theorem Wv.on {B gw : Nat} {w w' : World} {av : Nat → Option Addr} {cv : Nat → Nat} {wt : Nat → List Int} (h : Wv B w gw av cv wt) (hb : Below w.heap.size w w') : Wv B w' gw av cv wt := by
  obtain ⟨cs, hc, hs⟩ := h.blk
  exact ⟨⟨cs, (hb.block _ h.lt).trans hc, hs⟩, fun v hv => cell_below (h.out v hv) hb, fun v hv => ownsRow_on (h.own v hv) hb, h.apart, h.base⟩
/-- A store into a block of bytes. -/
theorem Wv.byte {B gw gl k : Nat} {w : World} {av : Nat → Option Addr} {cv : Nat → Nat} {wt : Nat → List Int} {cur : Array Value} {x : Value} (h : Wv B w gw av cv wt) (hl : w.heap[gl]? = some (.cells cur 5 (0, 0))) : Wv B (w.setCell ⟨gl, k, none⟩ x) gw av cv wt := by
  obtain ⟨cs, hc, hs⟩ := h.blk
  have hne : gw ≠ gl := fun e => by rw [e, hl] at hc; cases hc
  refine ⟨⟨cs, (Below.heap_setCell w ⟨gl, k, none⟩ x gw hne).trans hc, hs⟩, fun v hv => (World.cell?_setCell_other w _ _ _ (fun e => hne (by cases e; rfl))).trans (h.out v hv), fun v hv => ?_, h.apart, h.base⟩
  exact ownsRow_apart (r := some gl) (h.own v hv) ⟨rfl, rfl, rfl, by simp [World.setCell], fun j _ hj => Below.heap_setCell w ⟨gl, k, none⟩ x j (fun e => hj (by rw [e]))⟩ (fun g hg e => by
    obtain ⟨_, c2, h2⟩ := own_block (h.own v hv) hg
    cases e
    rw [hl] at h2
    cases h2)
/-- One more at the end of a list, and its slice is laid back. -/
theorem Wv.push {B gw v : Nat} {w w' : World} {av : Nat → Option Addr} {cv : Nat → Nat} {wt : Nat → List Int} {a' : Option Addr} {c' : Nat} {y : Int} (h : Wv B w gw av cv wt) (hv : v < 16) (ho : OwnI w' B a' c' (wt v ++ [y]))
    (hg : w.grownBy w' (Value.ownBlock (slW av cv wt v))) (hat : Value.ownBlock (.slice a' ((wt v).length + 1) c') = Value.ownBlock (slW av cv wt v) ∨ Value.ownBlock (.slice a' ((wt v).length + 1) c') = some w.heap.size) :
    Wv B (w'.setCell ⟨gw, v, none⟩ (.slice a' ((wt v).length + 1) c')) gw (updA av v a') (updA cv v c') (updA wt v (wt v ++ [y])) := by
  obtain ⟨cs, hc, hs⟩ := h.blk
  have hnw := h.notw hv
  have hlt := h.lt
  have hc' : w'.heap[gw]? = some (.cells cs 70 (0, 0)) := (hg.block gw hlt (fun e => hnw e.symm)).trans hc
  have hsl : ∀ u, u < 16 → slW (updA av v a') (updA cv v c') (updA wt v (wt v ++ [y])) u = if u = v then .slice a' ((wt v).length + 1) c' else slW av cv wt u := fun u _ => by
    unfold slW
    by_cases e : u = v
    · subst e; rw [updA_same, updA_same, updA_same, if_pos rfl, List.length_append]; rfl
    · rw [updA_other _ _ e, updA_other _ _ e, updA_other _ _ e, if_neg e]
  have own' : ∀ u, u < 16 → OwnI w' B (updA av v a' u) (updA cv v c' u) (updA wt v (wt v ++ [y]) u) := fun u hu => by
    by_cases e : u = v
    · subst e; rw [updA_same, updA_same, updA_same]; exact ho
    · rw [updA_other _ _ e, updA_other _ _ e, updA_other _ _ e]
      exact ownsRow_apart (h.own u hu) hg (fun g hgu e2 => h.apart u v g hu hv e hgu e2)
  have hgr : ∀ x, w'.grownBy (w'.setCell ⟨gw, v, none⟩ x) (some gw) := fun x => ⟨rfl, rfl, rfl, by simp [World.setCell], fun j _ hj => Below.heap_setCell w' ⟨gw, v, none⟩ x j (fun e => hj (by rw [e]))⟩
  have cell' : ∀ u, u < 16 → w'.cell? ⟨gw, u, none⟩ = some (slW av cv wt u) := fun u hu => by
    have hcell := h.out u hu
    rw [cell_of_row w gw u cs 70 (0, 0) hc] at hcell
    rw [cell_of_row w' gw u cs 70 (0, 0) hc']
    exact hcell
  refine ⟨⟨_, heap_setCell_same w' gw v _ 70 _ hc', by rw [Array.size_setIfInBounds]; exact hs⟩, fun u hu => ?_, fun u hu => ?_, fun u u2 g hu hu2 hne h1 h2 => ?_, h.base⟩
  · rw [hsl u hu]
    by_cases e : u = v
    · subst e
      rw [if_pos rfl]
      exact World.cell?_setCell_same w' _ _ (cell' u hu)
    · rw [if_neg e, World.cell?_setCell_other w' _ _ _ (fun q => e (by cases q; rfl))]
      exact cell' u hu
  · refine ownsRow_apart (r := some gw) (own' u hu) (hgr _) (fun g hgu e => ?_)
    cases e
    obtain ⟨_, cur, hcu⟩ := own_block (own' u hu) hgu
    rw [hc'] at hcu
    cases hcu
  · rw [hsl u hu] at h1
    rw [hsl u2 hu2] at h2
    by_cases e1 : u = v
    · subst e1
      rw [if_pos rfl] at h1
      rw [if_neg (Ne.symm hne)] at h2
      rcases hat with e | e
      · rw [e] at h1; exact h.apart u u2 g hu hu2 hne h1 h2
      · rw [e] at h1
        obtain ⟨_, cur, hcu⟩ := own_block (h.own u2 hu2) h2
        have := (Array.getElem?_eq_some_iff.1 hcu).1
        cases h1
        omega
    · rw [if_neg e1] at h1
      by_cases e2 : u2 = v
      · subst e2
        rw [if_pos rfl] at h2
        rcases hat with e | e
        · rw [e] at h2; exact h.apart u u2 g hu hu2 hne h1 h2
        · rw [e] at h2
          obtain ⟨_, cur, hcu⟩ := own_block (h.own u hu) h1
          have := (Array.getElem?_eq_some_iff.1 hcu).1
          cases h2
          omega
      · rw [if_neg e2] at h2
        exact h.apart u u2 g hu hu2 hne h1 h2


abbrev pushW (wait : Nat → List Nat) (v n : Nat) : Nat → List Nat := fun u => if u = v then wait v ++ [n] else wait u
theorem pushW_wI (wait : Nat → List Nat) (v n : Nat) : wI (pushW wait v n) = updA (wI wait) v (wI wait v ++ [(n : Int)]) := wI_push wait v n
/-- Memory while light is made anew; B: the world at its start. -/
structure Rq (e : LE) (B : World) (gw bx : Nat) (ls : List Int) (wait : Nat → List Nat) (av : Nat → Option Addr) (cv : Nat → Nat) (w : World) : Prop where
  len : ls.length = e.n
  lv : Lv ls
  pl : Pre w e.g 5 ls
  wv : Wv B.heap.size w gw av cv (wI wait)
  gr : B.grownBy w (some e.g)
  hb : w.heap[bx]? = some (.cells #[.pointer (some ⟨e.q, e.o, none⟩)] 67 (0, 0))
section
variable {e : LE} {B : World} {gw bx : Nat} {ls : List Int} {wait : Nat → List Nat} {av : Nat → Option Addr} {cv : Nat → Nat} {w w' : World}
theorem Rq.lm (h : Rq e B gw bx ls wait av cv w) (o : LO e) (hM : LM e B) : LM e w := hM.grown o h.gr
theorem grown_below {B w w' : World} {g : Nat} (h : B.grownBy w (some g)) (hb : Below w.heap.size w w') : B.grownBy w' (some g) :=
  ⟨hb.os.trans h.os, hb.tape.trans h.tape, hb.output.trans h.output, Nat.le_trans h.size hb.size, fun j hj hne => (hb.block j (Nat.lt_of_lt_of_le hj h.size)).trans (h.block j hj hne)⟩
theorem Rq.on (h : Rq e B gw bx ls wait av cv w) (hb : Below w.heap.size w w') : Rq e B gw bx ls wait av cv w' :=
  ⟨h.len, h.lv, h.pl.on hb, h.wv.on hb, grown_below h.gr hb, (hb.block _ (Array.getElem?_eq_some_iff.1 h.hb).1).trans h.hb⟩
/-- Behind an append: a block that is not the list's lies as it lay. -/
theorem Rq.kept (_h : Rq e B gw bx ls wait av cv w) {v b : Nat} {w3 : World} {x : Obj} (_hv : v < 16) (hg : w.grownBy w3 (Value.ownBlock (slW av cv (wI wait) v))) (hb : w.heap[b]? = some x) (hne : Value.ownBlock (slW av cv (wI wait) v) ≠ some b) : w3.heap[b]? = some x :=
  (hg.block b (Array.getElem?_eq_some_iff.1 hb).1 (fun q => hne q.symm)).trans hb
theorem Rq.other (h : Rq e B gw bx ls wait av cv w) {v b : Nat} {cs : Array Value} {t : TypeId} (hv : v < 16) (hb : w.heap[b]? = some (.cells cs t (0, 0))) (ht : t ≠ 3) : Value.ownBlock (slW av cv (wI wait) v) ≠ some b := fun q => by
  obtain ⟨_, c2, h2⟩ := own_block (h.wv.own v hv) q
  rw [hb] at h2
  cases h2
  exact ht rfl
/-- A cell waits: the new list, the slice laid back. -/
theorem Rq.push (h : Rq e B gw bx ls wait av cv w) {v n c' : Nat} {a' : Option Addr} {w3 : World} (hv : v < 16) (ho : OwnI w3 B.heap.size a' c' (wI wait v ++ [(n : Int)])) (hg : w.grownBy w3 (Value.ownBlock (slW av cv (wI wait) v)))
    (hat : Value.ownBlock (.slice a' ((wI wait v).length + 1) c') = Value.ownBlock (slW av cv (wI wait) v) ∨ Value.ownBlock (.slice a' ((wI wait v).length + 1) c') = some w.heap.size) :
    Rq e B gw bx ls (pushW wait v n) (updA av v a') (updA cv v c') (w3.setCell ⟨gw, v, none⟩ (.slice a' ((wI wait v).length + 1) c')) := by
  have wt2 := h.wv.push hv ho hg hat
  rw [← pushW_wI] at wt2
  obtain ⟨c2, hc2, _⟩ := h.wv.blk
  have keep : ∀ {b : Nat} {cs : Array Value} {t : TypeId}, w.heap[b]? = some (.cells cs t (0, 0)) → t ≠ 3 → t ≠ 70 → (w3.setCell ⟨gw, v, none⟩ (.slice a' ((wI wait v).length + 1) c')).heap[b]? = some (.cells cs t (0, 0)) := fun {b cs t} hb h3 h70 => by
    refine (Below.heap_setCell w3 _ _ b (fun q => ?_)).trans (h.kept hv hg hb (h.other hv hb h3))
    have q : b = gw := q
    rw [q, hc2] at hb
    cases hb
    exact h70 rfl
  refine ⟨h.len, h.lv, ?_, wt2, ?_, keep h.hb (by decide) (by decide)⟩
  · obtain ⟨cu, hcu, hr⟩ := h.pl
    exact ⟨cu, keep hcu (by decide) (by decide), hr⟩
  · have hbase := h.wv.base
    refine ⟨hg.os.trans h.gr.os, hg.tape.trans h.gr.tape, hg.output.trans h.gr.output, ?_, fun j hj hne => ?_⟩
    · have := h.gr.size
      have := hg.size
      simp only [World.setCell] at *
      simp
      omega
    · refine (Below.heap_setCell w3 _ _ j (fun q => ?_)).trans ((hg.block j (Nat.lt_of_lt_of_le hj h.gr.size) (fun q => ?_)).trans (h.gr.block j hj hne))
      · have q : j = gw := q
        omega
      · have := (own_block (h.wv.own v hv) q.symm).1
        omega
theorem cell_kept9 (h : Rq e B gw bx ls wait av cv w) {v Ln k : Nat} {w3 : World} {x : Value} (hv : v < 16) (hL : (wI wait v).length = Ln) (hg : w.grownBy w3 (Value.ownBlock (.slice (av v) Ln (cv v)))) (hx : w.cell? ⟨gw, k, none⟩ = some x) : w3.cell? ⟨gw, k, none⟩ = some x := by
  subst hL
  obtain ⟨cs, hc, _⟩ := h.wv.blk
  have hc' := h.kept hv hg hc (h.other hv hc (by decide))
  rw [cell_of_row w gw k cs 70 (0, 0) hc] at hx
  rw [cell_of_row w3 gw k cs 70 (0, 0) hc']
  exact hx
theorem free_kept9 (h : Rq e B gw bx ls wait av cv w) {v Ln : Nat} {w3 : World} (hv : v < 16) (hL : (wI wait v).length = Ln) (hg : w.grownBy w3 (Value.ownBlock (.slice (av v) Ln (cv v)))) (k : Nat) : w3.frozen? ⟨gw, k, none⟩ = false := by
  subst hL
  obtain ⟨cs, hc, _⟩ := h.wv.blk
  exact frozen_of_row w3 gw k cs 70 (h.kept hv hg hc (h.other hv hc (by decide)))
/-- A store into a box of a number, that is no list's. -/
theorem Rq.set8 (h : Rq e B gw bx ls wait av cv w) {b : Nat} {y : Array Value} {x : Value} (hb : w.heap[b]? = some (.cells y 3 (0, 0))) (hn : ∀ v, v < 16 → Value.ownBlock (slW av cv (wI wait) v) ≠ some b) (hB : B.heap.size ≤ b) : Rq e B gw bx ls wait av cv (w.setCell ⟨b, 0, none⟩ x) := by
  have keep : ∀ {j : Nat} {o : Obj}, w.heap[j]? = some o → j ≠ b → (w.setCell ⟨b, 0, none⟩ x).heap[j]? = some o := fun {j o} hj hne => (Below.heap_setCell w ⟨b, 0, none⟩ x j hne).trans hj
  have apart : ∀ {j : Nat} {cs : Array Value} {t : TypeId}, w.heap[j]? = some (.cells cs t (0, 0)) → t ≠ 3 → j ≠ b := fun {j cs t} hj ht q => by
    rw [q, hb] at hj
    cases hj
    exact ht rfl
  have hgb : w.grownBy (w.setCell ⟨b, 0, none⟩ x) (some b) := ⟨rfl, rfl, rfl, by simp [World.setCell], fun j _ hj => Below.heap_setCell w ⟨b, 0, none⟩ x j (fun e => hj (by rw [e]))⟩
  obtain ⟨cg, hcg, hcz⟩ := h.wv.blk
  obtain ⟨cu, hcu, hr⟩ := h.pl
  refine ⟨h.len, h.lv, ⟨cu, keep hcu (apart hcu (by decide)), hr⟩, ⟨⟨cg, keep hcg (apart hcg (by decide)), hcz⟩, fun v hv => ?_, fun v hv => ?_, h.wv.apart, h.wv.base⟩, ⟨h.gr.os, h.gr.tape, h.gr.output, by have := h.gr.size; simpa [World.setCell] using this, fun j hj hne => ?_⟩, keep h.hb (apart h.hb (by decide))⟩
  · rw [World.cell?_setCell_other w _ _ _ (fun q => apart hcg (by decide) (congrArg Addr.block q).symm)]
    exact h.wv.out v hv
  · exact ownsRow_apart (r := some b) (h.wv.own v hv) hgb (fun g hg q => hn v hv (by rw [hg, ← q]))
  · exact (Below.heap_setCell w ⟨b, 0, none⟩ x j (fun q => by have q : j = b := q; omega)).trans (h.gr.block j hj hne)
/-- A cell gets its level. -/
theorem Rq.light (h : Rq e B gw bx ls wait av cv w) {m v : Nat} (hn : m < e.n) (hv : v ≤ 15) : Rq e B gw bx (ls.set m (v : Int)) wait av cv (w.setCell ⟨e.g, m, none⟩ (.int .u8 (v : Int))) := by
  obtain ⟨cu, hcu, _⟩ := h.pl
  have hn' : m < ls.length := by rw [h.len]; exact hn
  refine ⟨by rw [List.length_set]; exact h.len, h.lv.set hn' hv, h.pl.set m _, h.wv.byte hcu, ⟨h.gr.os, h.gr.tape, h.gr.output, by have := h.gr.size; simpa [World.setCell] using this, fun j hj hne => ?_⟩, ?_⟩
  · exact (Below.heap_setCell w ⟨e.g, m, none⟩ _ j (fun q => hne (by have q : j = e.g := q; rw [q]))).trans (h.gr.block j hj hne)
  · refine (Below.heap_setCell w ⟨e.g, m, none⟩ _ bx (fun q => ?_)).trans h.hb
    have q : bx = e.g := q
    have hb := h.hb
    rw [q, hcu] at hb
    cases hb
end
end Go.Proofs.YtmfjmcaaoljjlaaDoor
