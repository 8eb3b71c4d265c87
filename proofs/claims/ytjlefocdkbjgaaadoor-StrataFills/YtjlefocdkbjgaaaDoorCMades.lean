/-
  Bytes, Counts, From, Full and Copy of the program.
-/
import Derived.Test.YtjlefocdkbjgaaaDoorCChunks
import Derived.Test.YtjlefocdkbjgaaaDoorCLays
namespace Go.Proofs.YtjlefocdkbjgaaaDoor.C
open Go.RowKit

set_option maxRecDepth 100000 in
theorem bytes_c (g : Nat) (cs : List Int) (w : World) (hB : Blk w g 56 cs) (hl : cs.length = 32768) :
    Calls Tryd.prog 13 #[.pointer (some ⟨g, 0, none⟩)] w fun e w' => e = .returned (.slice (some ⟨w.heap.size, 0, none⟩) 32768 32768) ∧ Blk w' w.heap.size 5 cs ∧ Below w.heap.size w w' := by
  have hmk := make_bytes
  obtain ⟨Z, hZe⟩ : ∃ Z, Z = List.replicate 32768 (0 : Int) := ⟨_, rfl⟩
  have hZ : Z.length = 32768 := by rw [hZe, List.length_replicate]
  rw [← hZe] at hmk
  clear hZe
  have hS : Blk (w.alloc (.cells (vals Z) 5)) g 56 cs := hB.below ((Below.refl _ _).alloc (Nat.le_refl _) _) hB.lt
  have hD := Blk.new w 5 Z
  have hcp := copy_row hS hD hl hZ
  have R1 : Blk ((w.alloc (.cells (vals Z) 5)).setRow w.heap.size (vals cs)) w.heap.size 5 cs := hD.copied
  have R2 : Below w.heap.size w ((w.alloc (.cells (vals Z) 5)).setRow w.heap.size (vals cs)) := ((Below.refl _ w).alloc (Nat.le_refl _) _).trans ((setRow_only _ _ _).below (Nat.le_refl _))
  clear hS hD
  go_enter Tryd.func13, Tryd.ntmps13
  go_wp2_with fail
  refine (all_c g _).mono ?_
  rintro _ _ ⟨rfl, rfl⟩
  go_wp2_with fail
  refine (all_c g _).mono ?_
  rintro _ _ ⟨rfl, rfl⟩
  go_wp2
  go_ret
  exact ⟨rfl, R1, R2⟩

theorem size56 : (Tryd.prog.info? 56).map (·.size) = some 32768 := by kernel_rfl
theorem Blk.range {w : World} {g : Nat} {t : TypeId} {cs : List Int} (h : Blk w g t cs) : w.rangeAt g 0 (cs.map (Value.int .u8)) := fun j v hv => by
  rw [Nat.zero_add, cell_of_row w g j _ t (0, 0) h]
  simpa [vals] using hv
theorem vals_one (cs : List Int) : (vals cs).all (·.oneCell') = true := by
  unfold vals
  exact all_oneCell_toArray fun v hv => by obtain ⟨x, _, rfl⟩ := List.mem_map.1 hv; rfl
end Go.Proofs.YtjlefocdkbjgaaaDoor.C