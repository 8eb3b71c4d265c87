/-
  The landed build: the features of all sorts, gone over one by one.
-/
import Derived.Test.YtbdjgaagafnfaaaGreatPsoil
import Derived.Test.YtbdjgaagafnfaaaGreatPsit
set_option maxRecDepth 20000
namespace Go.Proofs.YtbdjgaagafnfaaaGreat
open C G Go.RowKit Go.Shelf

theorem run_store_func {P : Program} {w : World} {a : Addr} {m : Mode} (f : Fn) (x y : Array Value) : (store a (.func f x y) m).run P w = stored P w a (.func f x y) m := run_store P w a _ m rfl
attribute [local go_sem] run_store_func
theorem sorts_c (w : World) : Calls Tryz.prog 40 #[] w fun e w' => e = .returned (.agg #[.int .i64 41, .int .i64 35, .int .i64 32, .int .i64 8, .int .i64 4, .func (.func 54) #[] #[], .int .i64 42, .int .i64 20, .int .i64 16, .int .i64 0, .int .i64 4, .func (.func 55) #[] #[], .int .i64 40, .int .i64 70, .int .i64 8, .int .i64 0, .int .i64 3, .func (.func 56) #[] #[]]) ∧ Below w.heap.size w w' := by
  go_enter Tryz.func40, Tryz.ntmps40
  go_wp2
  exact bodyPost_ret (results_cell_row rfl _ _ w.heap.size 92 _ (0, 0) _ rfl (heap_alloc_new w _) Tryz.underlying92 rfl (by kernel_rfl)) rfl ⟨rfl, (Below.refl _ w).alloc (Nat.le_refl _) _⟩
theorem sort_c (X Z : Int) (a a' : Option Addr) (c c' S : Nat) (x0 x1 x2 x3 x4 x5 : Value) (w : World) : Calls Tryz.prog 41 #[.agg (landA X Z a a' c c'), .int .u64 S, .agg #[x0, x1, x2, x3, x4, x5]] w fun e w' =>
    ∃ g, e = .returned (.func (.func 57) #[] #[.pointer (some ⟨g, 0, none⟩), .pointer (some ⟨g + 1 + 1, 0, none⟩), .pointer (some ⟨g + 1, 0, none⟩)]) ∧ w.heap.size ≤ g ∧ Below w.heap.size w w' ∧ w'.heap[g]? = some (.cells (landA X Z a a' c c') 67 (0, 0)) ∧ w'.heap[g + 1]? = some (.cells #[.int .u64 (S : Int)] 22 (0, 0)) ∧ w'.heap[g + 1 + 1]? = some (.cells #[x0, x1, x2, x3, x4, x5] 91 (0, 0)) := by
  obtain ⟨W, hW⟩ : ∃ W, W = ((w.alloc (.cells (landA X Z a a' c c') 67)).alloc (.cells #[.int .u64 (S : Int)] 22)).alloc (.cells #[x0, x1, x2, x3, x4, x5] 91) := ⟨_, rfl⟩
  obtain ⟨hsz, hbel, k0, k1, k2⟩ := chain3 w _ _ _ hW
  go_enter Tryz.func41, Tryz.ntmps41
  go_wp2
  go_ret
  rw [← hW]
  exact ⟨w.heap.size, rfl, Nat.le_refl _, hbel, k0, k1, k2⟩
theorem ka_own {β : Type} (N : Nat) (A : World) : OwnFrom A.heap.size (fun (_ : β) W => KA N A W) := fun _ W W' row h hg hr =>
  ⟨Nat.le_trans h.size hg.size, fun k o hk ho => (hg.block k (Array.getElem?_eq_some_iff.1 (h.same k o hk ho)).1 (fun e => by
    have h1 := (hr k e.symm).1
    have h2 := (Array.getElem?_eq_some_iff.1 ho).1
    omega)).trans (h.same k o hk ho)⟩
end Go.Proofs.YtbdjgaagafnfaaaGreat
