/-
  The document's disk: Cut.
-/
import Derived.Test.YtfpcfgfpebdplaaRpower
namespace Go.Proofs.Ytfpcfgfpebdplaa
open Go.RowKit

theorem rcut_c (F : Nat → Prop) (g : Nat) (S : St) (n : Int) (hn : -9223372036854775808 ≤ n ∧ n ≤ 9223372036854775807) (w : World) (hD : RDisk F w g S) : Calls Try.prog 25 #[.pointer (some ⟨g, 0, none⟩), .int .i64 n] w fun e w' => e = .returned (.tuple #[]) ∧ RDisk F w' g (S.cut n) ∧ Only g w w' := by
  obtain ⟨a, c, q, hD⟩ := hD
  obtain ⟨c1, c2, c3, c4⟩ := hD.cell1
  have f2 : w.frozen? ⟨g, 2, none⟩ = false := frozen_of_row w g 2 _ 39 hD.head
  have h2 := heap_setCell_same w g 2 _ 39 (.bool true) hD.head
  have f3 : (w.setCell ⟨g, 2, none⟩ (.bool true)).frozen? ⟨g, 3, none⟩ = false := frozen_of_row _ g 3 _ 39 h2
  have h3 := heap_setCell_same _ g 3 _ 39 (.int .i64 n) h2
  have f1 : ((w.setCell ⟨g, 2, none⟩ (.bool true)).setCell ⟨g, 3, none⟩ (.int .i64 n)).frozen? ⟨g, 1, none⟩ = false := frozen_of_row _ g 1 _ 39 h3
  have k1 : ((w.setCell ⟨g, 2, none⟩ (.bool true)).setCell ⟨g, 3, none⟩ (.int .i64 n)).cell? ⟨g, 1, none⟩ = some (.bool S.out) := by rw [cell_of_row _ g 1 _ 39 (0, 0) h3]; rfl
  have HO : ∀ o, Hid (Only g w (((w.setCell ⟨g, 2, none⟩ (.bool true)).setCell ⟨g, 3, none⟩ (.int .i64 n)).setCell ⟨g, 1, none⟩ (.bool o))) := fun o => (((Only.refl g w).set 2 _).set 3 _).set 1 _
  have HR : ∀ o, Hid ((o = (S.out || decide (n < 1))) → RDisk F (((w.setCell ⟨g, 2, none⟩ (.bool true)).setCell ⟨g, 3, none⟩ (.int .i64 n)).setCell ⟨g, 1, none⟩ (.bool o)) g (S.cut n)) := fun o ho => ⟨a, c, q, by
    have h4 := heap_setCell_same _ g 1 _ 39 (.bool o) h3
    subst ho
    exact hD.reset (HO _).out h4 (fun _ h => by simp at h; omega) ⟨hn.1, hn.2, hD.bds.2.2.1, hD.bds.2.2.2.1⟩⟩
  clear hD h2 h3
  go_enter Try.func25, Try.ntmps25
  go_wp2
  all_goals
    go_end0
    exact ⟨rfl, (HR _).out (by simp_all), (HO _).out⟩
end Go.Proofs.Ytfpcfgfpebdplaa
