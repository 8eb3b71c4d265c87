/-
  The landed due: what the function does that is shown the neighbours.
  The landed due: the neighbours are gone round.
-/
import Derived.Test.YtmfjmcaaoljjlaaDoorRa0
import Derived.StillTailTactics
import Derived.Lib.MinMax
import Derived.Test.YtmfjmcaaoljjlaaDoorRa41
set_option maxRecDepth 20000
namespace Go.Proofs.YtmfjmcaaoljjlaaDoor
section
open C Go.RowKit L

/-- The more of two numbers. -/
def mxI (a b : Int) : Int := if a ≤ b then b else a
set_option maxHeartbeats 1000000 in
theorem due1_c (e : LE) (ls : List Int) (g5 bx g6 j : Nat) (v u : Int) (w : World) (hM : LM e w) (hp : Pre w e.g 5 ls) (hll : ls.length = e.n) (hj : j < e.n) (_hnb : e.n ≤ 294912) (hlv : 0 ≤ ls.getD j 0 ∧ ls.getD j 0 ≤ 15) (hv : 0 ≤ v ∧ v ≤ 15) (hu : 0 ≤ u ∧ u ≤ 16)
    (x0 : w.cell? ⟨g5, 0, none⟩ = some (.int .i64 v)) (fz : w.frozen? ⟨g5, 0, none⟩ = false) (x1 : w.cell? ⟨bx, 0, none⟩ = some (.pointer (some ⟨e.q, e.o, none⟩))) (x2 : w.cell? ⟨g6, 0, none⟩ = some (.int .i64 u)) :
    Calls Tryd.prog 41 #[.int .i64 (j : Int), .pointer (some ⟨g5, 0, none⟩), .pointer (some ⟨bx, 0, none⟩), .pointer (some ⟨g6, 0, none⟩)] w fun x w' => x = .returned (.tuple #[]) ∧ w' = (w.drewN 1).setCell ⟨g5, 0, none⟩ (.int .i64 (mxI v (ls.getD j 0 - u))) := by
  have y2 := hM.l2
  have cl := hp.cell (k := j) (by rw [hll]; exact hj)
  obtain ⟨A, hA⟩ : ∃ A, ls.getD j 0 = A := ⟨_, rfl⟩
  rw [hA] at cl hlv ⊢
  obtain ⟨n, hn⟩ : ∃ n, e.n = n := ⟨_, rfl⟩
  rw [hn] at y2 hj _hnb
  obtain ⟨l0, l1⟩ := hlv
  obtain ⟨v0, v1⟩ := hv
  obtain ⟨u0, u1⟩ := hu
  have wu : IntKind.i64.wrap (A - u) = A - u := by rw [IntKind.wrap_i64]; omega
  have hj1 : (j : Int) < n := by omega
  clear hM hp hll hA hn
  go_enter Tryd.func41, Tryd.ntmps41
  go_wp2_with fail
  refine wp_region_tail 12 (by kernel_rfl) (by kernel_rfl) ?_
  simp only [List.take_succ_cons, List.take_zero, List.drop_succ_cons, List.drop_zero]
  repeat still_step
  refine wpStill_nil ?_
  go_wp2
  go_end0
  exact ⟨rfl, rfl⟩
end
section
open C Go.RowKit L

theorem mem_of_nbr {W D T i k j : Nat} (hk : k < 6) (h : nbr W D T i k = some j) : j ∈ nbl W D T i := mem_nbl.2 ⟨k, hk, h⟩
theorem li_int {ls : List Int} (h : Lv ls) (j : Nat) : ls.getD j 0 = (li ls j : Int) := by
  have := (h j).1
  unfold li
  omega
theorem lossF_pass {k : Int} (h : passK k = true) : lossF k = lossK k := if_pos h
theorem lossF_shut {k : Int} (h : passK k = false) : lossF k = 16 := if_neg (by rw [h]; decide)
/-- What due holds while it goes round. -/
structure DueI (e : LE) (o : LO e) (ls : List Int) (i g5 bx g6 : Nat) (W0 : World) (dn : List Nat) (w : World) : Prop where
  bel : Below W0.heap.size W0 w
  v : ∃ v : Nat, Due (e.sys o.bx) (li ls) dn i v ∧ w.heap[g5]? = some (.cells #[.int .i64 (v : Int)] 3 (0, 0))
  h6 : w.heap[g6]? = some (.cells #[.int .i64 (lossF (e.ks.getD i 0) : Nat)] 3 (0, 0))
  hb : w.heap[bx]? = some (.cells #[.pointer (some ⟨e.q, e.o, none⟩)] 67 (0, 0))
theorem due_sh (e : LE) (o : LO e) (ls : List Int) (hll : ls.length = e.n) (hlv : Lv ls) (i : Nat) (g5 bx g6 : Nat) (W0 : World) (hM : LM e W0) (hp : Pre W0 e.g 5 ls) (n5 : W0.heap.size ≤ g5) (n6 : g5 ≠ g6) (nb : g5 ≠ bx) (hi : i < e.n) :
    Sh e i 41 g5 bx g6 (DueI e o ls i g5 bx g6 W0) where
  bm dn w h := (hM.on h.bel).bm
  on dn w w' h hb := by
    obtain ⟨v, h1, h2⟩ := h.v
    exact ⟨h.bel.trans (hb.mono h.bel.size), ⟨v, h1, (hb.block _ (Array.getElem?_eq_some_iff.1 h2).1).trans h2⟩, (hb.block _ (Array.getElem?_eq_some_iff.1 h.h6).1).trans h.h6, (hb.block _ (Array.getElem?_eq_some_iff.1 h.hb).1).trans h.hb⟩
  call k j dn w hk _ hn h := by
    obtain ⟨v, h1, h2⟩ := h.v
    have hl15 : ∀ j, li ls j ≤ 15 := fun j => by have := hlv j; unfold li; omega
    have hv := h1.le hl15
    have hu := lossBd (e.ks.getD i 0)
    have hj : j < e.n := nbr_lt o.bx.w0 o.bx.d0 hi hn
    have x0 : w.cell? ⟨g5, 0, none⟩ = some (.int .i64 (v : Int)) := (cell_of_row w g5 0 _ 3 (0, 0) h2).trans rfl
    have fz : w.frozen? ⟨g5, 0, none⟩ = false := frozen_of_row w g5 0 _ 3 h2
    have x1 : w.cell? ⟨bx, 0, none⟩ = some (.pointer (some ⟨e.q, e.o, none⟩)) := (cell_of_row w bx 0 _ 67 (0, 0) h.hb).trans rfl
    have x2 : w.cell? ⟨g6, 0, none⟩ = some (.int .i64 (lossF (e.ks.getD i 0) : Nat)) := (cell_of_row w g6 0 _ 3 (0, 0) h.h6).trans rfl
    refine (due1_c e ls g5 bx g6 j v _ w (hM.on h.bel) (hp.on h.bel) hll hj o.nb (hlv j) (by omega) (by omega) x0 fz x1 x2).mono ?_
    rintro _ w' ⟨rfl, rfl⟩
    have hd : (w.drewN 1).heap[g5]? = some (.cells #[.int .i64 (v : Int)] 3 (0, 0)) := h2
    refine ⟨rfl, ⟨(below_drewN h.bel 1).setCell (p := ⟨g5, 0, none⟩) n5 _, ?_, ?_, ?_⟩, fun b cs q => Ty77.set _ hd (by decide) b cs q⟩
    · have hset := heap_setCell_same (w.drewN 1) g5 0 _ 3 (.int .i64 (mxI (v : Int) (ls.getD j 0 - (lossF (e.ks.getD i 0) : Nat)))) hd
      have hpe := sys_pass (e := e) o.bx i
      have hle := sys_loss (e := e) o.bx i
      have hA := li_int hlv j
      by_cases hps : passK (e.ks.getD i 0) = true
      · refine ⟨max v (li ls j - (e.sys o.bx).loss i), h1.step (hpe.trans hps) j, ?_⟩
        have e1 : mxI (v : Int) (ls.getD j 0 - (lossF (e.ks.getD i 0) : Nat)) = ((max v (li ls j - (e.sys o.bx).loss i) : Nat) : Int) := by
          rw [hle, lossF_pass hps, hA]
          unfold mxI
          split <;> omega
        rw [← e1]
        exact hset
      · have hps' : passK (e.ks.getD i 0) = false := by simpa using hps
        refine ⟨v, h1.shut (hpe.trans hps') j, ?_⟩
        have e1 : mxI (v : Int) (ls.getD j 0 - (lossF (e.ks.getD i 0) : Nat)) = (v : Int) := by
          rw [lossF_shut hps', hA]
          have := hl15 j
          unfold mxI
          split <;> omega
        rw [e1] at hset ⊢
        exact hset
    · exact (Below.heap_setCell (w.drewN 1) ⟨g5, 0, none⟩ _ g6 (Ne.symm n6)).trans h.h6
    · exact (Below.heap_setCell (w.drewN 1) ⟨g5, 0, none⟩ _ bx (Ne.symm nb)).trans h.hb
theorem due2_c (e : LE) (o : LO e) (ls : List Int) (hll : ls.length = e.n) (hlv : Lv ls) (i : Nat) (hi : i < e.n) (g5 bx g6 : Nat) (W0 W : World) (hM : LM e W0) (hp : Pre W0 e.g 5 ls) (hB : Below W0.heap.size W0 W) (n5 : W0.heap.size ≤ g5) (n6 : g5 ≠ g6) (nb : g5 ≠ bx)
    (h5 : W.heap[g5]? = some (.cells #[.int .i64 ((e.sys o.bx).src i : Nat)] 3 (0, 0))) (h6 : W.heap[g6]? = some (.cells #[.int .i64 (lossF (e.ks.getD i 0) : Nat)] 3 (0, 0))) (hb : W.heap[bx]? = some (.cells #[.pointer (some ⟨e.q, e.o, none⟩)] 67 (0, 0))) :
    Calls Tryd.prog 29 #[.pointer (some ⟨e.p, 0, none⟩), .int .i64 (i : Int), .func (.func 41) #[] #[.pointer (some ⟨g5, 0, none⟩), .pointer (some ⟨bx, 0, none⟩), .pointer (some ⟨g6, 0, none⟩)]] W fun x w' =>
      x = .returned (.tuple #[]) ∧ ∃ v : Nat, Due (e.sys o.bx) (li ls) (nbl e.W e.D e.T i) i v ∧ w'.cell? ⟨g5, 0, none⟩ = some (.int .i64 (v : Int)) ∧ Below W0.heap.size W0 w' :=
  (around41_c e o i hi g5 bx g6 _ (due_sh e o ls hll hlv i g5 bx g6 W0 hM hp n5 n6 nb hi) W ⟨hB, ⟨_, Due.start _ _ _, h5⟩, h6, hb⟩).mono (by
    rintro _ w' ⟨rfl, h⟩
    obtain ⟨v, h1, h2⟩ := h.v
    exact ⟨rfl, v, h1, (cell_of_row w' g5 0 _ 3 (0, 0) h2).trans rfl, h.bel⟩)
end
end Go.Proofs.YtmfjmcaaoljjlaaDoor
