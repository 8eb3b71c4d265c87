/-
  Get, Bytes, Copy of the program.
-/
import Derived.Test.YthanmgejgmhccaaCCounts
import Derived.Laws.CopyRow
import Derived.Deep.WholeRow
namespace Go.Proofs.Ythanmgejgmhccaa.C
open Go.RowKit

theorem size5 : (Try.prog.info? 5).map (·.size) = some 1 := by kernel_rfl
theorem copy_row {w : World} {g h : Nat} {t t' : TypeId} {cs zs : List Int} (hS : Blk w g t cs) (hD : Blk w h t' zs) (lc : cs.length = 32768) (lz : zs.length = 32768) :
    (Builtin.copy_ #[32, 32] 3 #[.slice (some ⟨h, 0, none⟩) 32768 32768, .slice (some ⟨g, 0, none⟩) 32768 32768]).run Try.prog w = .ok (.int .i64 32768) (w.setRow h (vals cs)) := by
  have := run_copy_row (P := Try.prog) w 32 32 3 5 h 0 32768 32768 ⟨g, 0, none⟩ 32768 32768 (vals zs) t' (cs.map (Value.int .u8)) Try.underlying32 size5 hD (by rw [List.length_map, lc]; rfl)
    (fun j v hv => by
      rw [Addr.add_mid, Nat.zero_add, cell_of_row w g j _ t (0, 0) hS]
      simpa [vals] using hv) (by rw [List.length_map, vals_size]; omega) (by intro v hv; obtain ⟨x, _, rfl⟩ := List.mem_map.1 hv; rfl)
  rw [this, List.length_map, lc]
  have e : ((vals zs).toList.take 0 ++ cs.map (Value.int .u8) ++ (vals zs).toList.drop (0 + 32768)).toArray = vals cs := by
    rw [List.drop_eq_nil_of_le (by rw [Array.length_toList, vals_size]; omega), List.take_zero, List.nil_append, List.append_nil]
    rfl
  rw [e]
  rfl
theorem Blk.copied {w : World} {h : Nat} {t : TypeId} {cs zs : List Int} (hD : Blk w h t zs) : Blk (w.setRow h (vals cs)) h t cs := setRow_heap w h _ _ t _ hD
theorem setRow_only (w : World) (h : Nat) (a : Array Value) : Only h w (w.setRow h a) :=
  ⟨rfl, rfl, rfl, by simp [World.setRow], fun k hk => by simp [World.setRow, Array.getElem?_modify, Ne.symm hk]⟩

end Go.Proofs.Ythanmgejgmhccaa.C