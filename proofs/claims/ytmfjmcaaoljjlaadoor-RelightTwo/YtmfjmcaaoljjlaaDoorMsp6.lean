/-
  The document's Spread: where it stands.
  The document's Spread: one cell's light goes on in six ways.
-/
import Derived.Test.YtmfjmcaaoljjlaaDoorLwait
import Derived.Test.YtmfjmcaaoljjlaaDoorLlamp
import Derived.Test.YtmfjmcaaoljjlaaDoorMnb
import Derived.Test.YtmfjmcaaoljjlaaDoorLRl
import Derived.Deep.DeepCutAuto
set_option maxRecDepth 20000
namespace Go.Proofs.YtmfjmcaaoljjlaaDoor
section
open C Go.RowKit L

/-- The level of a cell. -/
def li (ls : List Int) (i : Nat) : Nat := (ls.getD i 0).toNat
def Lv (ls : List Int) : Prop := ∀ i, 0 ≤ ls.getD i 0 ∧ ls.getD i 0 ≤ 15
def sumL (ls : List Int) : Nat := (ls.map Int.toNat).sum
theorem sum_set : ∀ (ls : List Int) (i : Nat) (v : Int), i < ls.length → ls.getD i 0 < v → 0 ≤ ls.getD i 0 → sumL ls + 1 ≤ sumL (ls.set i v)
  | [], i, v, h, _, _ => by simp at h
  | x :: xs, 0, v, _, h1, h2 => by
    unfold sumL
    rw [List.set_cons_zero, List.map_cons, List.map_cons, List.sum_cons, List.sum_cons]
    have e : (x :: xs).getD 0 0 = x := rfl
    rw [e] at h1 h2
    omega
  | x :: xs, i + 1, v, h, h1, h2 => by
    have := sum_set xs i v (by simpa using h) (by simpa using h1) (by simpa using h2)
    unfold sumL at this ⊢
    rw [List.set_cons_succ, List.map_cons, List.map_cons, List.sum_cons, List.sum_cons]
    omega
theorem sum_le : ∀ (ls : List Int), (∀ x ∈ ls, x ≤ 15) → sumL ls ≤ 15 * ls.length
  | [], _ => by simp [sumL]
  | x :: xs, h => by
    have h1 := sum_le xs (fun y hy => h y (List.mem_cons_of_mem _ hy))
    have h2 := h x List.mem_cons_self
    unfold sumL at h1 ⊢
    rw [List.map_cons, List.sum_cons, List.length_cons]
    omega
theorem Lv.mem {ls : List Int} (h : Lv ls) : ∀ x ∈ ls, x ≤ 15 := fun x hx => by
  obtain ⟨i, hi, rfl⟩ := List.getElem_of_mem hx
  have := (h i).2
  rwa [List.getD_eq_getElem?_getD, List.getElem?_eq_getElem hi] at this
theorem li_set {ls : List Int} {n v : Nat} (hn : n < ls.length) : li (ls.set n (v : Int)) = upd (li ls) n v := by
  funext i
  unfold li upd
  by_cases e : i = n
  · subst e
    rw [if_pos rfl, C.getD_set_self ls i _ hn]
    simp
  · rw [if_neg e, C.getD_set_ne ls _ (fun q => e q.symm)]
theorem Lv.set {ls : List Int} (h : Lv ls) {n v : Nat} (hn : n < ls.length) (hv : v ≤ 15) : Lv (ls.set n (v : Int)) := fun i => by
  by_cases e : i = n
  · subst e
    rw [C.getD_set_self ls i _ hn]
    omega
  · rw [C.getD_set_ne ls _ (fun q => e q.symm)]
    exact h i
def wI (wait : Nat → List Nat) (v : Nat) : List Int := (wait v).map fun i : Nat => (i : Int)
theorem wI_push (wait : Nat → List Nat) (v n : Nat) : wI (fun u => if u = v then wait v ++ [n] else wait u) = updA (wI wait) v (wI wait v ++ [(n : Int)]) := by
  funext u
  unfold wI updA
  simp only []
  by_cases e : u = v
  · rw [if_pos e, if_pos e, List.map_append]; rfl
  · rw [if_neg e, if_neg e]
/-- What does not change. -/
structure SpE where
  g : Nat
  kb : Nat
  gl : Nat
  gw : Nat
  N : Nat
  cap : Nat
  W : Nat
  D : Nat
  T : Nat
  ks : List Int
  w0 : World
structure Sp (e : SpE) (s : L.Sys) (level k : Nat) (ls : List Int) (wait : Nat → List Nat) (av : Nat → Option Addr) (cv : Nat → Nat) (w : World) : Prop where
  bk : Bk s (li ls) wait level k
  len : ls.length = e.N
  lv : Lv ls
  pl : Pre w e.gl 5 ls
  fd : Fd w e.g e.W e.D e.T (.slice (some ⟨e.kb, 0, none⟩) e.N e.cap)
  pk : Pre w e.kb 5 e.ks
  wt : Wt e.w0.heap.size w e.gw av cv (wI wait)
  sz : ∀ v, (wait v).length ≤ e.N + sumL ls
  gr : e.w0.grownBy w (some e.gl)
/-- What is said of the field and its sources. -/
structure SpO (e : SpE) (s : L.Sys) : Prop where
  n : e.N = e.W * e.D * e.T
  bx : Bx e.W e.D e.T
  nb : e.N ≤ 294912
  sn : s.n = e.N
  pass : ∀ i, s.pass i = passK (e.ks.getD i 0)
  loss : ∀ i, s.loss i = lossK (e.ks.getD i 0)
  adj : ∀ i j, s.adj i j ↔ i < e.N ∧ ∃ w, w < 6 ∧ nbr e.W e.D e.T i w = some j
  kl : e.ks.length = e.N
  kk : Kinds e.ks
  n1 : e.gl ≠ e.kb
  n2 : e.gl ≠ e.g
  b0 : e.gl < e.w0.heap.size
theorem Sp.on {e : SpE} {s : L.Sys} {level k : Nat} {ls : List Int} {wait : Nat → List Nat} {av : Nat → Option Addr} {cv : Nat → Nat} {w w' : World} (h : Sp e s level k ls wait av cv w) (hb : Below w.heap.size w w') : Sp e s level k ls wait av cv w' :=
  ⟨h.bk, h.len, h.lv, h.pl.below hb h.pl.lt, h.fd.on hb, h.pk.below hb h.pk.lt, h.wt.on hb, h.sz, ⟨hb.os.trans h.gr.os, hb.tape.trans h.gr.tape, hb.output.trans h.gr.output, Nat.le_trans h.gr.size hb.size, fun j hj hne => (hb.block j (Nat.lt_of_lt_of_le hj h.gr.size)).trans (h.gr.block j hj hne)⟩⟩
theorem Sp.small {e : SpE} {s : L.Sys} {level k : Nat} {ls : List Int} {wait : Nat → List Nat} {av : Nat → Option Addr} {cv : Nat → Nat} {w : World} (o : SpO e s) (h : Sp e s level k ls wait av cv w) (v : Nat) : (wait v).length ≤ 4718592 := by
  have h1 := sum_le ls h.lv.mem
  have h2 := h.sz v
  have h3 := h.len
  have h4 := o.nb
  omega
/-- A cell's light has gone on in the first ways. -/
def Ways (e : SpE) (s : L.Sys) (l : Nat → Nat) (level m X : Nat) : Prop := ∀ w j, w < X → nbr e.W e.D e.T m w = some j → s.pass j = true → level - s.loss j ≤ l j
theorem ways_done {e : SpE} {s : L.Sys} {l : Nat → Nat} {level m : Nat} (o : SpO e s) (h : Ways e s l level m 6) (hl : l m = level) : Done s l m := fun i ha hp => by
  obtain ⟨_, w, hw, hn⟩ := (o.adj m i).1 ha
  rw [hl]
  exact h w i hw hn hp
theorem ways_next {e : SpE} {s : L.Sys} {l : Nat → Nat} {level m X : Nat} (h : Ways e s l level m X) (h1 : ∀ j, nbr e.W e.D e.T m X = some j → s.pass j = true → level - s.loss j ≤ l j) : Ways e s l level m (X + 1) := fun w j hw hn hp => by
  by_cases q : w = X
  · subst q; exact h1 j hn hp
  · exact h w j (by omega) hn hp
theorem ways_up {e : SpE} {s : L.Sys} {l l' : Nat → Nat} {level m X : Nat} (h : Ways e s l level m X) (hl : ∀ i, l i ≤ l' i) : Ways e s l' level m X := fun w j hw hn hp => Nat.le_trans (h w j hw hn hp) (hl j)
/-- A cell is raised: the store, the new list, the slice laid back. -/
theorem Sp.raise {e : SpE} {s : L.Sys} {level k m n v : Nat} {ls : List Int} {wait : Nat → List Nat} {av : Nat → Option Addr} {cv : Nat → Nat} {w w2 w3 : World} {a' : Option Addr} {c' : Nat} (o : SpO e s) (h : Sp e s level k ls wait av cv w) (hm : li ls m = level) (ha : s.adj m n) (hp : s.pass n = true) (hv : v + s.loss n = level) (hl : li ls n < v) (hv15 : v ≤ 15)
    (hb : Below (w.setCell ⟨e.gl, n, none⟩ (.int .u8 (v : Int))).heap.size (w.setCell ⟨e.gl, n, none⟩ (.int .u8 (v : Int))) w2)
    (ho : OwnI w3 e.w0.heap.size a' c' (wI wait v ++ [(n : Int)])) (hg : w2.grownBy w3 (Value.ownBlock (slW av cv (wI wait) v))) (hat : Value.ownBlock (.slice a' ((wI wait v).length + 1) c') = Value.ownBlock (slW av cv (wI wait) v) ∨ Value.ownBlock (.slice a' ((wI wait v).length + 1) c') = some w2.heap.size) :
    Sp e s level k (ls.set n (v : Int)) (fun u => if u = v then wait v ++ [n] else wait u) (updA av v a') (updA cv v c') (w3.setCell ⟨e.gw, v, none⟩ (.slice a' ((wI wait v).length + 1) c')) := by
  have hn : n < ls.length := by rw [h.len]; have := s.adj_lt _ _ ha; rw [o.sn] at this; exact this
  have hv16 : v < 16 := by omega
  obtain ⟨cur, hcur, _⟩ := h.pl
  have wt1 := (h.wt.byte (k := n) (x := .int .u8 (v : Int)) hcur).on hb
  have wt2 := wt1.push hv16 ho hg hat
  rw [← wI_push] at wt2
  have hnb : ∀ {b : Nat} {t : TypeId} {cs : List Int}, Pre w2 b t cs → t ≠ 3 → t ≠ 69 → Pre (w3.setCell ⟨e.gw, v, none⟩ (.slice a' ((wI wait v).length + 1) c')) b t cs := fun {b t cs} hpr h3 h58 => by
    obtain ⟨cu, hcu, hr⟩ := hpr
    have hne : b ≠ e.gw := fun q => by
      obtain ⟨c2, hc2, _⟩ := wt1.blk
      rw [q, hc2] at hcu
      cases hcu
      exact h58 rfl
    refine ⟨cu, (Below.heap_setCell w3 _ _ b hne).trans ((hg.block b (Array.getElem?_eq_some_iff.1 hcu).1 (fun q => ?_)).trans hcu), hr⟩
    obtain ⟨_, c2, hc2⟩ := own_block (wt1.own v hv16) q.symm
    rw [hcu] at hc2
    cases hc2
    exact h3 rfl
  have hsz1 : (w.setCell ⟨e.gl, n, none⟩ (.int .u8 (v : Int))).heap.size = w.heap.size := by simp [World.setCell]
  have hnl : ∀ {b : Nat} {c3 : Array Value} {t : TypeId}, w.heap[b]? = some (.cells c3 t (0, 0)) → b ≠ e.gl → t ≠ 3 → t ≠ 69 → (w3.setCell ⟨e.gw, v, none⟩ (.slice a' ((wI wait v).length + 1) c')).heap[b]? = some (.cells c3 t (0, 0)) := fun {b c3 t} hbk hne h3 h58 => by
    have h1 : w2.heap[b]? = some (.cells c3 t (0, 0)) := (hb.block b (by rw [hsz1]; exact (Array.getElem?_eq_some_iff.1 hbk).1)).trans ((Below.heap_setCell w ⟨e.gl, n, none⟩ _ b hne).trans hbk)
    have hng : b ≠ e.gw := fun q => by
      obtain ⟨c2, hc2, _⟩ := wt1.blk
      rw [q, hc2] at h1
      cases h1
      exact h58 rfl
    refine (Below.heap_setCell w3 _ _ b hng).trans ((hg.block b (Array.getElem?_eq_some_iff.1 h1).1 (fun q => ?_)).trans h1)
    obtain ⟨_, c2, hc2⟩ := own_block (wt1.own v hv16) q.symm
    rw [h1] at hc2
    cases hc2
    exact h3 rfl
  refine ⟨?_, by rw [List.length_set]; exact h.len, h.lv.set hn hv15, hnb ((h.pl.set n _).below hb (by rw [hsz1]; exact h.pl.lt)) (by decide) (by decide), hnl h.fd (Ne.symm o.n2) (by decide) (by decide), ?_, wt2, fun u => ?_, ?_⟩
  · rw [li_set hn]
    exact h.bk.raise hm ha hp hv hl
  · obtain ⟨cu, hcu, hr⟩ := h.pk
    exact ⟨cu, hnl hcu (Ne.symm o.n1) (by decide) (by decide), hr⟩
  · have h1 := h.sz u
    have h2 := sum_set ls n (v : Int) hn (by have := (h.lv n).1; unfold li at hl; omega) (h.lv n).1
    have h3 := h.sz v
    by_cases q : u = v
    · rw [if_pos q, List.length_append]
      simp only [List.length_cons, List.length_nil]
      omega
    · rw [if_neg q]; omega
  · have hbase := wt1.base
    refine ⟨hg.os.trans (hb.os.trans h.gr.os), hg.tape.trans (hb.tape.trans h.gr.tape), hg.output.trans (hb.output.trans h.gr.output), ?_, fun j hj hne => ?_⟩
    · have := h.gr.size
      have := hb.size
      have := hg.size
      simp only [World.setCell] at *
      simp
      omega
    · have hjl : j < w.heap.size := Nat.lt_of_lt_of_le hj h.gr.size
      have hj2 : j < w2.heap.size := Nat.lt_of_lt_of_le (by rw [hsz1]; exact hjl) hb.size
      refine (Below.heap_setCell w3 _ _ j (by show j ≠ e.gw; omega)).trans ((hg.block j hj2 (fun q => ?_)).trans ((hb.block j (by rw [hsz1]; exact hjl)).trans ((Below.heap_setCell w ⟨e.gl, n, none⟩ _ j (fun q => hne (by rw [q]))).trans (h.gr.block j hj hne))))
      have := (own_block (wt1.own v hv16) q.symm).1
      omega
end
section
open C Go.RowKit L

/-- The code of a block, by its number. -/
def blkOf (k : Nat) : Code → Option Code
  | .block id c => if id = k then some c else blkOf k c
  | .loop c => blkOf k c
  | .scope c => blkOf k c
  | .seq a b => match blkOf k a with
    | some c => some c
    | none => blkOf k b
  | .cond _ a b => match blkOf k a with
    | some c => some c
    | none => blkOf k b
  | _ => none
theorem Wt.kept {B gw v Ln : Nat} {w w' : World} {av : Nat → Option Addr} {cv : Nat → Nat} {wt : Nat → List Int} (h : Wt B w gw av cv wt) (hv : v < 16) (hL : (wt v).length = Ln) (hg : w.grownBy w' (Value.ownBlock (.slice (av v) Ln (cv v)))) : w'.cell? ⟨gw, v, none⟩ = some (.slice (av v) Ln (cv v)) ∧ w'.frozen? ⟨gw, v, none⟩ = false := by
  subst hL
  obtain ⟨cs, hc, _⟩ := h.blk
  have hc' : w'.heap[gw]? = some (.cells cs 69 (0, 0)) := (hg.block gw h.lt (fun e => h.notw hv e.symm)).trans hc
  refine ⟨?_, frozen_of_row w' gw v cs 69 hc'⟩
  have := h.out v hv
  rw [cell_of_row w gw v cs 69 (0, 0) hc] at this
  rw [cell_of_row w' gw v cs 69 (0, 0) hc']
  exact this
def Sp6 (e : SpE) (s : L.Sys) (level k m X : Nat) (WL : List Nat) (W : World) : Prop := ∃ ls wait av cv, Sp e s level k ls wait av cv W ∧ wait level = WL ∧ (li ls m = level → Ways e s (li ls) level m X)
set_option maxRecDepth 1000000 in
set_option maxHeartbeats 8000000 in
theorem sp_loop6 (Q : Exit → Act → World → Prop) {c2 c3 c5 c7 c13 c14 c15 c16 c17 c18 c19 c20 c21 c22 c23 c24 c25 c26 c27 c28 c29 c30 c31 c32 c33 c34 c35 c36 c37 c38 c39 c40 c41 c42 c43 c44 c45 c46 c47 c48 c49 c50 c51 c52 c53 c54 c55 c56 c57 v10 v11 v12 v58 v59 v60 v61 v62 v63 v64 v65 v66 v67 v68 v69 v70 v71 v72 v73 v74 v75 v76 v77 v78 v79 v80 v81 v82 v83 v84 v85 v86 v87 v88 v89 v90 v91 v92 v93 v94 v95 v96 v97 v98 v99 v100 v101 v102 v103 v104 v105 v106 v107 v108 v109 v110 v111 v112 v113 v114 v115 v116 v117 v118 v119 v120 v121 v122 v123 v124 v125 v126 v127 v128 v129 v130 v131 v132 : Value} (e : SpE) (s : L.Sys) (o : SpO e s) (level k m cl : Nat) (WL : List Nat) (hlv : 2 ≤ level ∧ level ≤ 15) (hmN : m < e.N) (W : World) (h0 : Sp6 e s level k m 0 WL W)
    (hexit : ∀ (u9 u10 u11 u12 u58 u59 u60 u61 u62 u63 u64 u65 u66 u67 u68 u69 u70 u71 u72 u73 u74 u75 u76 u77 u78 u79 u80 u81 u82 u83 u84 u85 u86 u87 u88 u89 u90 u91 u92 u93 u94 u95 u96 u97 u98 u99 u100 u101 u102 u103 u104 u105 u106 u107 u108 u109 u110 u111 u112 u113 u114 u115 u116 u117 u118 u119 u120 u121 u122 u123 u124 u125 u126 u127 u128 u129 u130 u131 u132 : Value) (W' : World), (∃ ls wait av cv, Sp e s level k ls wait av cv W' ∧ wait level = WL ∧ (li ls m = level → Done s (li ls) m)) → Q (.exit 6) ⟨List.toArray ((.pointer (some ⟨e.g, 0, none⟩)) :: (.slice (some ⟨e.gl, 0, none⟩) e.N cl) :: c2 :: c3 :: (.slice (some ⟨e.gw, 0, none⟩) 16 16) :: c5 :: (.int .i64 (level : Int)) :: c7 :: (.int .i64 (m : Int)) :: u9 :: u10 :: u11 :: u12 :: c13 :: c14 :: c15 :: c16 :: c17 :: c18 :: c19 :: c20 :: c21 :: c22 :: c23 :: c24 :: c25 :: c26 :: c27 :: c28 :: c29 :: c30 :: c31 :: c32 :: c33 :: c34 :: c35 :: c36 :: c37 :: c38 :: c39 :: c40 :: c41 :: c42 :: c43 :: c44 :: c45 :: c46 :: c47 :: c48 :: c49 :: c50 :: c51 :: c52 :: c53 :: c54 :: c55 :: c56 :: c57 :: u58 :: u59 :: u60 :: u61 :: u62 :: u63 :: u64 :: u65 :: u66 :: u67 :: u68 :: u69 :: u70 :: u71 :: u72 :: u73 :: u74 :: u75 :: u76 :: u77 :: u78 :: u79 :: u80 :: u81 :: u82 :: u83 :: u84 :: u85 :: u86 :: u87 :: u88 :: u89 :: u90 :: u91 :: u92 :: u93 :: u94 :: u95 :: u96 :: u97 :: u98 :: u99 :: u100 :: u101 :: u102 :: u103 :: u104 :: u105 :: u106 :: u107 :: u108 :: u109 :: u110 :: u111 :: u112 :: u113 :: u114 :: u115 :: u116 :: u117 :: u118 :: u119 :: u120 :: u121 :: u122 :: u123 :: u124 :: u125 :: u126 :: u127 :: u128 :: u129 :: u130 :: u131 :: u132 :: []), []⟩ W') :
    Code.wp Tryd.prog ((Tryd.f26.body.bind (blkOf 6)).getD .skip) Q ⟨List.toArray ((.pointer (some ⟨e.g, 0, none⟩)) :: (.slice (some ⟨e.gl, 0, none⟩) e.N cl) :: c2 :: c3 :: (.slice (some ⟨e.gw, 0, none⟩) 16 16) :: c5 :: (.int .i64 (level : Int)) :: c7 :: (.int .i64 (m : Int)) :: (.int .i64 0) :: v10 :: v11 :: v12 :: c13 :: c14 :: c15 :: c16 :: c17 :: c18 :: c19 :: c20 :: c21 :: c22 :: c23 :: c24 :: c25 :: c26 :: c27 :: c28 :: c29 :: c30 :: c31 :: c32 :: c33 :: c34 :: c35 :: c36 :: c37 :: c38 :: c39 :: c40 :: c41 :: c42 :: c43 :: c44 :: c45 :: c46 :: c47 :: c48 :: c49 :: c50 :: c51 :: c52 :: c53 :: c54 :: c55 :: c56 :: c57 :: v58 :: v59 :: v60 :: v61 :: v62 :: v63 :: v64 :: v65 :: v66 :: v67 :: v68 :: v69 :: v70 :: v71 :: v72 :: v73 :: v74 :: v75 :: v76 :: v77 :: v78 :: v79 :: v80 :: v81 :: v82 :: v83 :: v84 :: v85 :: v86 :: v87 :: v88 :: v89 :: v90 :: v91 :: v92 :: v93 :: v94 :: v95 :: v96 :: v97 :: v98 :: v99 :: v100 :: v101 :: v102 :: v103 :: v104 :: v105 :: v106 :: v107 :: v108 :: v109 :: v110 :: v111 :: v112 :: v113 :: v114 :: v115 :: v116 :: v117 :: v118 :: v119 :: v120 :: v121 :: v122 :: v123 :: v124 :: v125 :: v126 :: v127 :: v128 :: v129 :: v130 :: v131 :: v132 :: []), []⟩ W := by
  have HX : Hid (∀ (u9 u10 u11 u12 u58 u59 u60 u61 u62 u63 u64 u65 u66 u67 u68 u69 u70 u71 u72 u73 u74 u75 u76 u77 u78 u79 u80 u81 u82 u83 u84 u85 u86 u87 u88 u89 u90 u91 u92 u93 u94 u95 u96 u97 u98 u99 u100 u101 u102 u103 u104 u105 u106 u107 u108 u109 u110 u111 u112 u113 u114 u115 u116 u117 u118 u119 u120 u121 u122 u123 u124 u125 u126 u127 u128 u129 u130 u131 u132 : Value) (W' : World), (∃ ls wait av cv, Sp e s level k ls wait av cv W' ∧ wait level = WL ∧ (li ls m = level → Done s (li ls) m)) → Q (.exit 6) ⟨List.toArray ((.pointer (some ⟨e.g, 0, none⟩)) :: (.slice (some ⟨e.gl, 0, none⟩) e.N cl) :: c2 :: c3 :: (.slice (some ⟨e.gw, 0, none⟩) 16 16) :: c5 :: (.int .i64 (level : Int)) :: c7 :: (.int .i64 (m : Int)) :: u9 :: u10 :: u11 :: u12 :: c13 :: c14 :: c15 :: c16 :: c17 :: c18 :: c19 :: c20 :: c21 :: c22 :: c23 :: c24 :: c25 :: c26 :: c27 :: c28 :: c29 :: c30 :: c31 :: c32 :: c33 :: c34 :: c35 :: c36 :: c37 :: c38 :: c39 :: c40 :: c41 :: c42 :: c43 :: c44 :: c45 :: c46 :: c47 :: c48 :: c49 :: c50 :: c51 :: c52 :: c53 :: c54 :: c55 :: c56 :: c57 :: u58 :: u59 :: u60 :: u61 :: u62 :: u63 :: u64 :: u65 :: u66 :: u67 :: u68 :: u69 :: u70 :: u71 :: u72 :: u73 :: u74 :: u75 :: u76 :: u77 :: u78 :: u79 :: u80 :: u81 :: u82 :: u83 :: u84 :: u85 :: u86 :: u87 :: u88 :: u89 :: u90 :: u91 :: u92 :: u93 :: u94 :: u95 :: u96 :: u97 :: u98 :: u99 :: u100 :: u101 :: u102 :: u103 :: u104 :: u105 :: u106 :: u107 :: u108 :: u109 :: u110 :: u111 :: u112 :: u113 :: u114 :: u115 :: u116 :: u117 :: u118 :: u119 :: u120 :: u121 :: u122 :: u123 :: u124 :: u125 :: u126 :: u127 :: u128 :: u129 :: u130 :: u131 :: u132 :: []), []⟩ W') := hexit
  have H0 : Hid (Sp6 e s level k m 0 WL W) := h0
  have HO : Hid (SpO e s) := o
  obtain ⟨l2, l15⟩ := hlv
  have Hm : Hid (m < e.N) := hmN
  clear h0 hexit o hmN
  have wl : IntKind.i64.wrap ((level : Int) - 1) = (level : Int) - 1 := by rw [IntKind.wrap_i64]; omega
  conv => arg 2; whnf
  go_loopw [9] (fun vx wr => ∃ X : Nat, X ≤ 6 ∧ vx = .int .i64 (X : Int) ∧ Hid (Sp6 e s level k m X WL wr)) (fun vx _ => 6 - (intOf vx).toNat)
  case atStart => exact ⟨0, by omega, rfl, H0⟩
  case round =>
    clear H0
    obtain ⟨X, hX, rfl, HS⟩ := hrel
    obtain ⟨ls, wait, av, cv, hS, hWL, hW⟩ := HS.out
    clear HS
    have HSp : Hid (Sp e s level k ls wait av cv wr ∧ wait level = WL ∧ (li ls m = level → Ways e s (li ls) level m X)) := ⟨hS, hWL, hW⟩
    clear hS hWL hW
    by_cases hx : X < 6
    case neg =>
      have hx' : ¬ (X : Int) < 6 := by omega
      have HE : Hid (∃ ls wait av cv, Sp e s level k ls wait av cv wr ∧ wait level = WL ∧ (li ls m = level → Done s (li ls) m)) := ⟨ls, wait, av, cv, HSp.out.1, HSp.out.2.1, fun h => ways_done HO.out (by have := HSp.out.2.2 h; rwa [show X = 6 by omega] at this) h⟩
      clear HSp HO Hm
      go_wp2
      exact HX.out _ _ _ _ _ _ _ _ _ _ _ _ _ _ _ _ _ _ _ _ _ _ _ _ _ _ _ _ _ _ _ _ _ _ _ _ _ _ _ _ _ _ _ _ _ _ _ _ _ _ _ _ _ _ _ _ _ _ _ _ _ _ _ _ _ _ _ _ _ _ _ _ _ _ _ _ _ _ _ _ HE.out
    have hx' : (X : Int) < 6 := by omega
    have wX : IntKind.i64.wrap ((X : Int) + 1) = ((X + 1 : Nat) : Int) := by rw [IntKind.wrap_i64]; omega
    have c8 := HSp.out.1.pl.cell (k := m) (by rw [HSp.out.1.len]; exact Hm.out)
    have b8 := HSp.out.1.lv m
    have mN : (m : Int) < (e.N : Int) := by have := Hm.out; omega
    obtain ⟨lm, hlm⟩ : ∃ x, ls.getD m 0 = x := ⟨_, rfl⟩
    have Hlm : Hid (ls.getD m 0 = lm) := hlm
    rw [hlm] at c8 b8
    clear hlm
    obtain ⟨b80, b81⟩ := b8
    by_cases hm : lm = (level : Int)
    case neg =>
      have hm' : (lm == (level : Int)) = false := by simpa using hm
      have HE : Hid (∃ ls wait av cv, Sp e s level k ls wait av cv wr ∧ wait level = WL ∧ (li ls m = level → Done s (li ls) m)) := ⟨ls, wait, av, cv, HSp.out.1, HSp.out.2.1, fun h => absurd h (by unfold li; rw [Hlm.out]; omega)⟩
      clear HSp HO Hm Hlm hm
      go_wp2
      exact HX.out _ _ _ _ _ _ _ _ _ _ _ _ _ _ _ _ _ _ _ _ _ _ _ _ _ _ _ _ _ _ _ _ _ _ _ _ _ _ _ _ _ _ _ _ _ _ _ _ _ _ _ _ _ _ _ _ _ _ _ _ _ _ _ _ _ _ _ _ _ _ _ _ _ _ _ _ _ _ _ _ HE.out
    have hm' : (lm == (level : Int)) = true := by simpa using hm
    have HL : Hid (li ls m = level) := by show li ls m = level; unfold li; rw [Hlm.out, hm]; omega
    have hnb := rnbg_c e.g m X e.W e.D e.T _ wr HO.out.bx hx (by rw [← HO.out.n]; exact Hm.out) HSp.out.1.fd
    clear hm Hlm
    go_wp2_with fail
    refine hnb.mono ?_
    clear hnb c8
    rintro _ w1 ⟨rfl, hb1⟩
    have HS1 : Hid (Sp e s level k ls wait av cv w1 ∧ wait level = WL ∧ Ways e s (li ls) level m X) := ⟨HSp.out.1.on hb1, HSp.out.2.1, HSp.out.2.2 HL.out⟩
    clear HSp hb1
    rcases hn : nbr e.W e.D e.T m X with _ | j
    · have en : nbI e.W e.D e.T m X = -1 := by unfold nbI; rw [hn]
      rw [en]
      have HE : Hid (Sp6 e s level k m (X + 1) WL w1) := ⟨ls, wait, av, cv, HS1.out.1, HS1.out.2.1, fun _ => ways_next HS1.out.2.2 (fun j h => by rw [hn] at h; cases h)⟩
      clear HS1 HO Hm HL hn en
      go_wp2
      exact ⟨⟨X + 1, by omega, rfl, HE⟩, by simp [intOf]; omega⟩
    have en : nbI e.W e.D e.T m X = (j : Int) := by unfold nbI; rw [hn]
    rw [en]
    have hj : j < e.N := by rw [HO.out.n]; exact nbr_lt HO.out.bx.w0 HO.out.bx.d0 (by rw [← HO.out.n]; exact Hm.out) hn
    have hNb : e.N ≤ 294912 := HO.out.nb
    have jN : (j : Int) < (e.N : Int) := by omega
    have j0 : ¬ (j : Int) < 0 := by omega
    have cj := HS1.out.1.pl.cell (k := j) (by rw [HS1.out.1.len]; exact hj)
    have bj := HS1.out.1.lv j
    obtain ⟨lj, hlj⟩ : ∃ x, ls.getD j 0 = x := ⟨_, rfl⟩
    have Hlj : Hid (ls.getD j 0 = lj) := hlj
    rw [hlj] at cj bj
    obtain ⟨bj0, bj1⟩ := bj
    have Hn : Hid (nbr e.W e.D e.T m X = some j ∧ j < e.N) := ⟨hn, hj⟩
    clear hlj en hn hj
    by_cases hge : (level : Int) - 1 ≤ lj
    · have HE : Hid (Sp6 e s level k m (X + 1) WL w1) := ⟨ls, wait, av, cv, HS1.out.1, HS1.out.2.1, fun _ => ways_next HS1.out.2.2 (fun j' h hp => by
        rw [Hn.out.1] at h
        cases h
        have h1 := s.loss_pos j hp
        have h2 : li ls j = lj.toNat := by unfold li; rw [Hlj.out]
        omega)⟩
      clear HS1 HO Hm HL Hn Hlj
      go_wp2
      exact ⟨⟨X + 1, by omega, rfl, HE⟩, by simp [intOf]; omega⟩
    have hge' : decide ((level : Int) - 1 ≤ lj) = false := decide_eq_false hge
    have ck := HS1.out.1.pk.cell (k := j) (by rw [HO.out.kl]; exact Hn.out.2)
    have bk := HO.out.kk.at j
    have fk := HS1.out.1.fd.c3
    have Hps : Hid (s.pass j = passK (e.ks.getD j 0) ∧ s.loss j = lossK (e.ks.getD j 0)) := ⟨HO.out.pass j, HO.out.loss j⟩
    obtain ⟨kj, hkj⟩ : ∃ x, e.ks.getD j 0 = x := ⟨_, rfl⟩
    rw [hkj] at ck bk Hps
    clear hkj
    have hsh := rshut_c kj bk
    have hls := rloss_c kj bk
    have hlb : lossK kj ≤ 16 := by unfold lossK; split <;> (try split) <;> (try split) <;> (try split) <;> omega
    have Hpl : Hid (passK kj = true → 1 ≤ lossK kj) := fun h => (pass_loss h).1
    obtain ⟨bk0, bk1⟩ := bk
    generalize lossK kj = lo at *
    generalize passK kj = pa at *
    have wv : IntKind.i64.wrap ((level : Int) - (lo : Int)) = (level : Int) - (lo : Int) := by rw [IntKind.wrap_i64]; omega
    go_wp2_with fail
    refine (hsh _).mono ?_
    clear hsh
    rintro _ w2 ⟨rfl, hw2⟩
    subst w2
    go_wp2_with fail
    refine (hls _).mono ?_
    clear hls
    rintro _ w2 ⟨rfl, hw2⟩
    subst w2
    cases pa with
    | false =>
      have HE : Hid (Sp6 e s level k m (X + 1) WL w1) := ⟨ls, wait, av, cv, HS1.out.1, HS1.out.2.1, fun _ => ways_next HS1.out.2.2 (fun j' h hp => by
        rw [Hn.out.1] at h
        cases h
        rw [Hps.out.1] at hp
        cases hp)⟩
      rw [show (!false) = true from rfl]
      clear HS1 HO Hm HL Hn Hlj Hps Hpl
      go_wp2
      exact ⟨⟨X + 1, by omega, rfl, HE⟩, by simp [intOf]; omega⟩
    | true =>
    rw [show (!true) = false from rfl]
    by_cases hgt : lj < (level : Int) - (lo : Int)
    case neg =>
      have hgt' : decide (lj < (level : Int) - (lo : Int)) = false := decide_eq_false hgt
      have HE : Hid (Sp6 e s level k m (X + 1) WL w1) := ⟨ls, wait, av, cv, HS1.out.1, HS1.out.2.1, fun _ => ways_next HS1.out.2.2 (fun j' h hp => by
        rw [Hn.out.1] at h
        cases h
        have h2 : li ls j = lj.toNat := by unfold li; rw [Hlj.out]
        rw [Hps.out.2]
        omega)⟩
      clear HS1 HO Hm HL Hn Hlj Hps Hpl
      go_wp2
      exact ⟨⟨X + 1, by omega, rfl, HE⟩, by simp [intOf]; omega⟩
    have hlo := Hpl.out rfl
    obtain ⟨v, hv⟩ := Int.eq_ofNat_of_zero_le (show 0 ≤ (level : Int) - (lo : Int) by omega)
    rw [hv] at wv hgt
    have v15 : v < 16 := by omega
    have hvl : v + lo = level := by omega
    have v15' : (v : Int) < 16 := by omega
    have wb : IntKind.u8.wrap (v : Int) = (v : Int) := by rw [IntKind.wrap_u8]; omega
    have fj := HS1.out.1.pl.free j
    obtain ⟨w2, hw2⟩ : ∃ w2, w2 = w1.setCell ⟨e.gl, j, none⟩ (.int .u8 (v : Int)) := ⟨_, rfl⟩
    have HW2 : Hid (w2 = w1.setCell ⟨e.gl, j, none⟩ (.int .u8 (v : Int))) := hw2
    have hwt2 : Wt e.w0.heap.size w2 e.gw av cv (wI wait) := by
      obtain ⟨cur, hcur, _⟩ := HS1.out.1.pl
      rw [hw2]
      exact HS1.out.1.wt.byte hcur
    have Hwt2 : Hid (Wt e.w0.heap.size w2 e.gw av cv (wI wait)) := hwt2
    have hsm := HS1.out.1.small HO.out v
    have hwl : (wI wait v).length = (wait v).length := by unfold wI; rw [List.length_map]
    clear hw2
    go_upto_region 21 with fail
    rw [← HW2.out]
    clear cj fj ck fk
    have y0 : w2.cell? ⟨e.gw, v, none⟩ = some (.slice (av v) (wI wait v).length (cv v)) := hwt2.out v v15
    have hb2 : Below w2.heap.size w2 (w2.alloc (.cells #[.int .i64 (j : Int)] 3)) := (Below.refl _ _).alloc (Nat.le_refl _) _
    have Hw3 : Hid (Wt e.w0.heap.size (w2.alloc (.cells #[.int .i64 (j : Int)] 3)) e.gw av cv (wI wait)) := hwt2.on hb2
    have HB : Hid (e.w0.heap.size ≤ (w2.alloc (.cells #[.int .i64 (j : Int)] 3)).heap.size) := by
      show e.w0.heap.size ≤ (w2.alloc (.cells #[.int .i64 (j : Int)] 3)).heap.size
      have h1 := hwt2.base
      have h2 := hwt2.lt
      simp
      omega
    have Hlen : Hid ((wI wait v).length ≤ 100000000) := by show (wI wait v).length ≤ 100000000; omega
    have HSl : Hid (∀ xs : List Int, xs = wI wait v → OwnI (w2.alloc (.cells #[.int .i64 (j : Int)] 3)) e.w0.heap.size (av v) (cv v) xs) := fun xs h => by rw [h]; exact Hw3.out.own v v15
    have Hbl2 : Hid (Below w2.heap.size w2 (w2.alloc (.cells #[.int .i64 (j : Int)] 3))) := hb2
    clear hwt2 hb2 hsm hwl
    generalize hLn : (wI wait v).length = Ln at *
    have HLn : Hid ((wI wait v).length = Ln) := hLn
    clear hLn
    have Hadj : Hid (s.adj m j) := (HO.out.adj m j).2 ⟨Hm.out, X, hx, Hn.out.1⟩
    go_wp2_with (at_builtin; refine wpList_append_int rfl _ _ rfl e.w0.heap.size (av v) Ln (cv v) (wI wait v) HLn.out rfl (HSl.out _ rfl) ⟨w2.heap.size, 0, none⟩ (j : Int) rfl (cell_one_int _ _ _) Hlen.out HB.out ?_; intro a9 c9 w9 HO3 hg3 hat3; have f1 := (Hw3.out.kept v15 HLn.out hg3).1; have f2 := (Hw3.out.kept v15 HLn.out hg3).2; have Hg3 : Hid _ := hg3; have Hat3 : Hid _ := hat3; clear hg3 hat3)
    have HE : Hid (Sp6 e s level k m (X + 1) WL (w9.setCell ⟨e.gw, v, none⟩ (.slice a9 (Ln + 1) c9))) := by
      have hLn := HLn.out
      have hjl : j < ls.length := by rw [HS1.out.1.len]; exact Hn.out.2
      have hlj : li ls j = lj.toNat := by unfold li; rw [Hlj.out]
      have hpa := Hps.out.1
      have hlo2 := Hps.out.2
      have hr := HS1.out.1.raise HO.out HL.out Hadj.out hpa (v := v) (by rw [hlo2]; exact hvl) (by rw [hlj]; omega) (by omega) (w2 := w2.alloc (.cells #[.int .i64 (j : Int)] 3)) (w3 := w9) (a' := a9) (c' := c9) (by rw [← HW2.out]; exact Hbl2.out) HO3.out (by have := Hg3.out; rw [← hLn] at this; exact this) (by have := Hat3.out; rw [← hLn] at this; exact this)
      rw [hLn] at hr
      refine ⟨_, _, _, _, hr, ?_, fun _ => ?_⟩
      · show (if level = v then wait v ++ [j] else wait level) = WL
        rw [if_neg (by omega)]
        exact HS1.out.2.1
      · rw [li_set hjl]
        refine ways_next (ways_up HS1.out.2.2 (upd_le (by rw [hlj]; omega))) (fun j' h hp => ?_)
        rw [Hn.out.1] at h
        cases h
        rw [upd_same, hlo2]
        omega
    exact ⟨⟨X + 1, by omega, by simp, HE⟩, by simp [intOf]; omega⟩
end
end Go.Proofs.YtmfjmcaaoljjlaaDoor
