/-
  The columns that the statements make: a list over and over.
-/
import Derived.Test.YtjlefocdkbjgaaaDoorTbase
set_option maxRecDepth 20000
namespace Go.Proofs.YtjlefocdkbjgaaaDoor
open C Go.RowKit

def colV (l : List Int) (other : Int) (j : Nat) : Int := if l.length = 0 then other else l.getD (j % l.length) 0
def colL (l : List Int) (other : Int) : List Int := (List.range 256).map (colV l other)
theorem colL_len (l : List Int) (other : Int) : (colL l other).length = 256 := by simp [colL]
theorem colL_at (l : List Int) (other : Int) (j : Nat) (h : j < 256) : (colL l other).getD j 0 = colV l other j := range_getD _ 256 j h
theorem colV_i64 {l : List Int} {other : Int} (hl : ∀ x ∈ l, I64 x) (ho : I64 other) (j : Nat) : I64 (colV l other j) := by
  unfold colV
  by_cases h : l.length = 0
  · rw [if_pos h]; exact ho
  · rw [if_neg h, List.getD_eq_getElem?_getD, List.getElem?_eq_getElem (Nat.mod_lt _ (by omega))]
    exact hl _ (List.getElem_mem _)
theorem colL_i64 {l : List Int} {other : Int} (hl : ∀ x ∈ l, I64 x) (ho : I64 other) : ∀ x ∈ colL l other, I64 x := range_all _ _ 256 (colV_i64 hl ho)
theorem info3' : (Tryd.prog.info? 3).map (fun i => (i.zero, i.size, i.bytes)) = some (some (.int .i64 0), 1, 8) := by kernel_rfl
theorem make_ints (w : World) : (Instr.makeSlice 25 (.int .i64 256) (.int .i64 256)).run Tryd.prog w = .ok (.slice (some ⟨w.heap.size, 0, none⟩) 256 256) (w.alloc (.cells ((List.replicate 256 (0 : Int)).map (Value.int .i64)).toArray 3)) := by
  obtain ⟨i0, hi, hz0, hz1, hz2⟩ := info_parts info3'
  have := run_makeSlice (P := Tryd.prog) w 25 3 i0 _ Tryd.underlying25 hi hz0 .i64 .i64 256 256 (by omega) (by omega) (by rw [hz1]; omega) (by rw [hz2]; omega) (by omega)
  rw [hz1] at this
  have e : madeCells (Value.cells (.int .i64 0)) (Int.toNat 256 * 1) = ((List.replicate 256 (0 : Int)).map (Value.int .i64)).toArray := by kernel_rfl
  rw [e] at this
  exact this

set_option maxRecDepth 100000 in
set_option maxHeartbeats 1000000 in
theorem columns_c (a : Option Addr) (n c : Nat) (l : List Int) (other : Int) (w : World) (hl : IntsAt w a n l) (hn : n ≤ 9223372036854775807) :
    Calls Tryd.prog 10 #[.slice a n c, .int .i64 other] w fun e w' => e = .returned (.slice (some ⟨w.heap.size, 0, none⟩) 256 256) ∧ IBlk w' w.heap.size (colL l other) ∧ Below w.heap.size w w' := by
  obtain ⟨Post, hPost⟩ : ∃ Post : Ending → World → Prop, Post = fun e w' => e = .returned (.slice (some ⟨w.heap.size, 0, none⟩) 256 256) ∧ IBlk w' w.heap.size (colL l other) ∧ Below w.heap.size w w' := ⟨_, rfl⟩
  rw [← hPost]
  have HP : Hid (∀ w', IBlk w' w.heap.size (colL l other) → Below w.heap.size w w' → Post (.returned (.slice (some ⟨w.heap.size, 0, none⟩) 256 256)) w') := fun w' h1 h2 => by rw [hPost]; exact ⟨rfl, h1, h2⟩
  clear hPost
  have hmk := make_ints
  obtain ⟨Z, hZe⟩ : ∃ Z, Z = List.replicate 256 (0 : Int) := ⟨_, rfl⟩
  have hZ : Z.length = 256 := by rw [hZe, List.length_replicate]
  rw [← hZe] at hmk
  clear hZe
  have HZ : Hid (IBlk (w.alloc (.cells (Z.map (Value.int .i64)).toArray 3)) w.heap.size Z ∧ Below w.heap.size w (w.alloc (.cells (Z.map (Value.int .i64)).toArray 3)) ∧ Z.length = 256) := ⟨heap_alloc_new w _, (Below.refl _ w).alloc (Nat.le_refl _) _, hZ⟩
  have HL : Hid (IntsAt w a n l) := hl
  clear hZ hl
  go_enter Tryd.func10, Tryd.ntmps10
  go_wp2
  go_loopw [6] (fun y wr => ∃ (I : Nat) (zs : List Int), y = .int .i64 (I : Int) ∧ I ≤ 256 ∧ Hid (IBlk wr w.heap.size zs ∧ zs.length = 256 ∧ (∀ j, j < I → zs.getD j 0 = colV l other j) ∧ Below w.heap.size w wr)) (fun y _ => 256 - (intOf y).toNat)
  case atStart => exact ⟨0, Z, rfl, by omega, HZ.out.1, HZ.out.2.2, fun j hj => by omega, HZ.out.2.1⟩
  case round =>
    clear HZ hmk
    obtain ⟨I, zs, rfl, hI, HI⟩ := hrel
    by_cases hlt : I < 256
    · have hlt' : (I : Int) < 256 := by omega
      obtain ⟨h1, h2, h3, h4⟩ := HI.out
      have c2 := h1.cell (k := I) (by omega)
      have c3 := h1.free I
      have h1' := h1.set I other
      have c4 := h1'.cell (k := I) (by rw [List.length_set]; omega)
      have c5 := h1'.free I
      have hb' : Below w.heap.size w (wr.setCell ⟨w.heap.size, I, none⟩ (.int .i64 other)) := h4.setCell (p := ⟨w.heap.size, I, none⟩) (Nat.le_refl _) _
      have hlen := HL.out.len
      by_cases hn0 : n = 0
      · have HI2 : Hid (IBlk (wr.setCell ⟨w.heap.size, I, none⟩ (.int .i64 other)) w.heap.size (zs.set I other) ∧ (zs.set I other).length = 256 ∧ (∀ j, j < I + 1 → (zs.set I other).getD j 0 = colV l other j) ∧ Below w.heap.size w (wr.setCell ⟨w.heap.size, I, none⟩ (.int .i64 other))) := by
          refine ⟨h1', by rw [List.length_set]; exact h2, fun j hj => ?_, hb'⟩
          rw [getD_set zs I j _ (by omega)]
          by_cases e : I = j
          · rw [if_pos e]; unfold colV; rw [if_pos (by omega)]
          · rw [if_neg e]; exact h3 j (by omega)
        subst hn0
        clear h1 h2 h3 h4 h1' c4 c5 hb' HI hlen
        go_wp2
        exact ⟨⟨I + 1, _, by simp, by omega, HI2⟩, by simp [intOf]; omega⟩
      · have hn1 : (0 : Int) < (n : Int) := by omega
        obtain ⟨b, o, rfl⟩ := HL.out.some (by omega)
        have hr : Int.tmod (I : Int) (n : Int) = ((I % n : Nat) : Int) := by rw [Int.tmod_eq_emod_of_nonneg (by omega)]; simp
        have hRn : I % n < n := Nat.mod_lt _ (by omega)
        have hV : colV l other I = l.getD (I % n) 0 := by unfold colV; rw [if_neg (by omega), hlen]
        generalize I % n = R at *
        have hRi : (R : Int) < (n : Int) := by omega
        have hnz : (n : Int) ≠ 0 := by omega
        have c0 := cell_below (HL.out.at R hRn) hb'
        have HI2 : Hid (IBlk ((wr.setCell ⟨w.heap.size, I, none⟩ (.int .i64 other)).setCell ⟨w.heap.size, I, none⟩ (.int .i64 (l.getD R 0))) w.heap.size ((zs.set I other).set I (l.getD R 0)) ∧ ((zs.set I other).set I (l.getD R 0)).length = 256 ∧ (∀ j, j < I + 1 → ((zs.set I other).set I (l.getD R 0)).getD j 0 = colV l other j) ∧ Below w.heap.size w ((wr.setCell ⟨w.heap.size, I, none⟩ (.int .i64 other)).setCell ⟨w.heap.size, I, none⟩ (.int .i64 (l.getD R 0)))) := by
          refine ⟨h1'.set I _, by rw [List.length_set, List.length_set]; exact h2, fun j hj => ?_, hb'.setCell (p := ⟨w.heap.size, I, none⟩) (Nat.le_refl _) _⟩
          rw [getD_set _ I j _ (by rw [List.length_set]; omega), getD_set zs I j _ (by omega)]
          by_cases e : I = j
          · rw [if_pos e, ← e, hV]
          · rw [if_neg e, if_neg e]; exact h3 j (by omega)
        clear h1 h2 h3 h4 h1' hb' HI hlen hV
        generalize l.getD R 0 = x at *
        go_wp2
        exact ⟨⟨I + 1, _, by simp, by omega, HI2⟩, by simp [intOf]; omega⟩
    · have hge : ¬ (I : Int) < 256 := by omega
      have R := HP.out wr (by
        have e : zs = colL l other := getD_ext (by rw [HI.out.2.1, colL_len]) (fun j hj => by rw [HI.out.2.1] at hj; rw [colL_at l other j hj]; exact HI.out.2.2.1 j (by omega))
        rw [← e]
        exact HI.out.1) HI.out.2.2.2
      clear HP
      go_wp2
      exact R
end Go.Proofs.YtjlefocdkbjgaaaDoor