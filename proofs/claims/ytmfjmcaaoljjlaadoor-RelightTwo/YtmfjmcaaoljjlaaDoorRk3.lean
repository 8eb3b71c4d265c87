/-
  The landed darken: what is laid ahead of its walk.
-/
import Derived.Test.YtmfjmcaaoljjlaaDoorRk2
import Derived.Test.YtmfjmcaaoljjlaaDoorRs
set_option maxRecDepth 20000
namespace Go.Proofs.YtmfjmcaaoljjlaaDoor
open C Go.RowKit L

def LE.at (e : LE) (ks0 : List Int) : LE := { e with ks := ks0 }
/-- The kinds were others at the cell c alone. -/
structure Chg (e : LE) (ks0 : List Int) (c : Nat) : Prop where
  len : ks0.length = e.n
  kk : Kinds ks0
  lt : c < e.n
  same : ∀ i, i ≠ c → e.ks.getD i 0 = ks0.getD i 0
theorem LO.at {e : LE} (o : LO e) {ks0 : List Int} (hl : ks0.length = e.n) (hk : Kinds ks0) : LO (e.at ks0) := ⟨o.bx, hl, hk, o.gp, o.gq, o.gk, o.g0⟩
/-- The light as a system, as the kinds were. -/
def sys0 (e : LE) (hb : Bx e.W e.D e.T) (ks0 : List Int) : L.Sys := LE.sys (e.at ks0) hb
section
variable {e : LE} (hb : Bx e.W e.D e.T) (ks0 : List Int)
theorem sys0_n : (sys0 e hb ks0).n = e.n := sys_n (e := e.at ks0) hb
theorem sys0_pass (i : Nat) : (sys0 e hb ks0).pass i = passK (ks0.getD i 0) := sys_pass (e := e.at ks0) hb i
theorem sys0_loss (i : Nat) : (sys0 e hb ks0).loss i = lossK (ks0.getD i 0) := sys_loss (e := e.at ks0) hb i
theorem sys0_adj (i j : Nat) : (sys0 e hb ks0).adj i j ↔ (i < e.n ∧ j ∈ nbl e.W e.D e.T i) := sys_adj (e := e.at ks0) hb i j
theorem sys0_src (i : Nat) : (sys0 e hb ks0).src i = if e.sky = true then skyN e.W e.D e.T (fun j => ks0.getD j 0) i else lampN e.W e.D e.T (fun j => ks0.getD j 0) i := sys_src (e := e.at ks0) hb i
end
theorem near_of {e : LE} (o : LO e) {ks0 : List Int} {c : Nat} (h : Chg e ks0 c) {d : List Nat} (hm : c ∈ d) (hs : ∀ i, i < e.n → i ∉ d → (e.sys o.bx).src i = (sys0 e o.bx ks0).src i) : Near (sys0 e o.bx ks0) (e.sys o.bx) c d where
  n := (sys_n (e := e) o.bx).trans (sys0_n o.bx ks0).symm
  adj i j := (sys_adj (e := e) o.bx i j).trans (sys0_adj o.bx ks0 i j).symm
  pass i hi := by rw [sys_pass, sys0_pass, h.same i hi]
  loss i hi := by rw [sys_loss, sys0_loss, h.same i hi]
  src i hi hd := hs i (by rw [sys0_n] at hi; exact hi) hd
  mem := hm
/-- What was darkened may be made anew. -/
theorem dark_ready {e : LE} (o : LO e) {ks0 ls0 : List Int} {c : Nat} (h : Chg e ks0 c) {d : List Nat} (hm : c ∈ d) (hs : ∀ i, i < e.n → i ∉ d → (e.sys o.bx).src i = (sys0 e o.bx ks0).src i)
    (hl : LightOf (sys0 e o.bx ks0) e.n ls0) (hsh : L.Shut (e.sys o.bx) (li ls0) d d.length) {ls1 : List Int} (hd : ∀ i, li ls1 i = dim (li ls0) d i) : L.Ready (e.sys o.bx) (li ls1) d := by
  have e1 : li ls1 = dim (li ls0) d := funext hd
  rw [e1]
  refine (near_of o h hm hs).ready hl.told (fun i hi => ?_) hsh (fun j i ha => ?_)
  · rw [sys0_n] at hi
    unfold li
    rw [List.getD_eq_getElem?_getD, List.getElem?_eq_none (by rw [hl.len]; exact hi)]
    rfl
  · rw [sys0_n]
    exact ((sys0_adj o.bx ks0 j i).1 ha).1
/-- The cells of a column from c down. -/
def colD (c S t : Nat) : List Nat := (List.range t).map fun u => c - u * S
theorem colD_succ (c S t : Nat) : colD c S (t + 1) = colD c S t ++ [c - t * S] := by
  unfold colD
  rw [List.range_succ, List.map_append]
  rfl
theorem colD_mem {c S t x : Nat} : x ∈ colD c S t ↔ ∃ u, u < t ∧ c - u * S = x := by
  unfold colD
  rw [List.mem_map]
  simp only [List.mem_range]
theorem colD_not {c S t : Nat} (hS : 0 < S) (hle : t * S ≤ c) : c - t * S ∉ colD c S t := fun h => by
  obtain ⟨u, hu, e⟩ := colD_mem.1 h
  have h1 : (u + 1) * S ≤ t * S := Nat.mul_le_mul_right S hu
  rw [Nat.succ_mul] at h1
  omega
theorem col_src {e : LE} (o : LO e) {ks0 : List Int} {c t : Nat} (h : Chg e ks0 c) (ht : 0 < t)
    (hx : c < t * (e.W * e.D) ∨ (e.sky = true → skyN e.W e.D e.T (fun j => e.ks.getD j 0) (c - t * (e.W * e.D)) = skyN e.W e.D e.T (fun j => ks0.getD j 0) (c - t * (e.W * e.D)))) :
    ∀ i, i < e.n → i ∉ colD c (e.W * e.D) t → (e.sys o.bx).src i = (sys0 e o.bx ks0).src i := fun i hi hid => by
  rw [sys_src, sys0_src]
  have hK : ∀ j, j ≠ c → (fun j => e.ks.getD j 0) j = (fun j => ks0.getD j 0) j := h.same
  by_cases q : e.sky = true
  · rw [if_pos q, if_pos q]
    exact sky_same o.bx.w0 o.bx.d0 hK (colD c (e.W * e.D) t) (k := t) (fun u hu _ => colD_mem.2 ⟨u, hu, rfl⟩) h.lt ⟨ht, hx.imp id (fun f => f q)⟩ hi hid
  · rw [if_neg q, if_neg q]
    refine lamp_same hK (fun e1 => hid ?_)
    rw [e1]
    exact colD_mem.2 ⟨0, ht, by omega⟩
theorem chain3 (w : World) (o0 o1 o2 : Obj) {W : World} (h : W = ((w.alloc o0).alloc o1).alloc o2) :
    W.heap.size = w.heap.size + 3 ∧ Below w.heap.size w W ∧ W.heap[w.heap.size]? = some o0 ∧ W.heap[w.heap.size + 1]? = some o1 ∧ W.heap[w.heap.size + 1 + 1]? = some o2 := by
  subst h
  refine ⟨by simp, (((Below.refl _ w).alloc (Nat.le_refl _) _).alloc (by simp) _).alloc (by simp; omega) _, ?_, ?_, ?_⟩
  · exact (Below.heap_alloc _ _ _ (by simp <;> omega)).trans ((Below.heap_alloc _ _ _ (by simp <;> omega)).trans (heap_alloc_new w _))
  · have := heap_alloc_new (w.alloc o0) o1
    rw [World.size_alloc] at this
    exact (Below.heap_alloc _ _ _ (by simp <;> omega)).trans this
  · have := heap_alloc_new ((w.alloc o0).alloc o1) o2
    simp only [World.size_alloc] at this
    exact this
/-- The column: t cells of it were taken. -/
def C1 (e : LE) (B : World) (b5 bx b6 : Nat) (ls0 : List Int) (c t : Nat) (w : World) : Prop := ∃ a cc ls, Dq e B b5 bx b6 ls0 (colD c (e.W * e.D) t) a cc ls w
/-- The list: its first k cells have darkened what had its light from them. -/
def C3 (r : DE) (o : LO r.e) (k : Nat) (w : World) : Prop := ∃ d a cc ls, Dc r o k d a cc ls w
/-- The answer. -/
structure DarkG (e : LE) (o : LO e) (w : World) (d : List Nat) (db : Nat) (w' : World) : Prop where
  dk : Dk w' db d
  ls : ∃ ls1, Pre w' e.g 5 ls1 ∧ ls1.length = e.n ∧ Lv ls1 ∧ L.Ready (e.sys o.bx) (li ls1) d
  lt : ∀ x ∈ d, x < e.n
  len : d.length ≤ e.n
  gr : w.grownBy w' (some e.g)
/-- What the region of a darkened cell's neighbours reads. -/
structure ReadsK (bx b5 q o ga k : Nat) (pv sl mv : Value) (w : World) : Prop where
  b : w.cell? ⟨bx, 0, none⟩ = some (.pointer (some ⟨q, o, none⟩))
  l : w.cell? ⟨q, o, none⟩ = some pv
  s : w.cell? ⟨b5, 0, none⟩ = some sl
  a : w.cell? ⟨ga, k * 2, none⟩ = some mv
theorem run_store_func {P : Program} {w : World} {a : Addr} {m : Mode} {f : Fn} {x y : Array Value} : (store a (.func f x y) m).run P w = stored P w a (.func f x y) m := run_store P w a _ m rfl
end Go.Proofs.YtmfjmcaaoljjlaaDoor
