/-
  Bytes, Counts, From, Full and Copy of the program.
-/
import Derived.Test.YthanmgejgmhccaaCChunks
import Derived.Test.YthanmgejgmhccaaCLays
namespace Go.Proofs.Ythanmgejgmhccaa.C
open Go.RowKit

set_option maxRecDepth 100000 in
theorem bytes_c (g : Nat) (cs : List Int) (w : World) (hB : Blk w g 67 cs) (hl : cs.length = 32768) :
    Calls Try.prog 21 #[.pointer (some ⟨g, 0, none⟩)] w fun e w' => e = .returned (.slice (some ⟨w.heap.size, 0, none⟩) 32768 32768) ∧ Blk w' w.heap.size 5 cs ∧ Below w.heap.size w w' := by
  have hmk := make_bytes
  obtain ⟨Z, hZe⟩ : ∃ Z, Z = List.replicate 32768 (0 : Int) := ⟨_, rfl⟩
  have hZ : Z.length = 32768 := by rw [hZe, List.length_replicate]
  rw [← hZe] at hmk
  clear hZe
  have hS : Blk (w.alloc (.cells (vals Z) 5)) g 67 cs := hB.below ((Below.refl _ _).alloc (Nat.le_refl _) _) hB.lt
  have hD := Blk.new w 5 Z
  have hcp := copy_row hS hD hl hZ
  have R1 : Blk ((w.alloc (.cells (vals Z) 5)).setRow w.heap.size (vals cs)) w.heap.size 5 cs := hD.copied
  have R2 : Below w.heap.size w ((w.alloc (.cells (vals Z) 5)).setRow w.heap.size (vals cs)) := ((Below.refl _ w).alloc (Nat.le_refl _) _).trans ((setRow_only _ _ _).below (Nat.le_refl _))
  clear hS hD
  go_enter Try.func21, Try.ntmps21
  go_wp2_with fail
  refine (all_c g _).mono ?_
  rintro _ _ ⟨rfl, rfl⟩
  go_wp2_with fail
  refine (all_c g _).mono ?_
  rintro _ _ ⟨rfl, rfl⟩
  go_wp2
  go_ret
  exact ⟨rfl, R1, R2⟩

set_option maxRecDepth 100000 in
theorem counts_c (g : Nat) (cs : List Int) (w : World) (hB : Blk w g 67 cs) (hl : cs.length = 32768) (hk : Kinds cs) :
    Calls Try.prog 38 #[.pointer (some ⟨g, 0, none⟩)] w fun e w' => e = .returned (.slice (some ⟨w.heap.size, 0, none⟩) 17 17) ∧ B64k w' w.heap.size 3 (cntTo cs 32768) ∧ Below w.heap.size w w' := by
  have hmk := make17
  have hb := B64k.new w 3 (cntTo cs 0)
  have hg := hB.lt
  rw [show List.replicate 17 (0 : Int) = cntTo cs 0 from rfl] at hmk
  generalize hL : cntTo cs 0 = L at hmk hb
  go_enter Try.func38, Try.ntmps38
  go_wp2_with fail
  refine (all_c g _).mono ?_
  rintro _ w1 ⟨rfl, hw⟩
  rw [hw]
  clear hw w1
  go_wp2
  subst hL
  go_loopw [10] (fun i wr => ∃ n : Nat, n ≤ 32768 ∧ i = .int .i64 n ∧ B64k wr w.heap.size 3 (cntTo cs n) ∧ Below w.heap.size w wr) (fun i _ => 32768 - (intOf i).toNat)
  case atStart => exact ⟨0, Nat.zero_le _, rfl, hb, (Below.refl _ _).alloc (Nat.le_refl _) _⟩
  case round =>
    obtain ⟨n, hn, rfl, hC, hb1⟩ := hrel
    by_cases hlt : n < 32768
    · have hc : wr.cell? ⟨g, n, none⟩ = some (.int .u8 (cs.getD n 0)) := (hB.below hb1 hg).cell (by omega)
      obtain ⟨v0, v1⟩ := hk.at n
      obtain ⟨V, hV⟩ := Int.eq_ofNat_of_zero_le v0
      have hV17 : V < 17 := by omega
      have hd := hC.cell (k := V) (by rw [cntTo_length]; exact hV17)
      have hf := hC.free V
      obtain ⟨c0, c1⟩ := cntTo_at cs n V hV17
      have R1 : B64k (wr.setCell ⟨w.heap.size, V, none⟩ (.int .i64 ((cntTo cs n).getD V 0 + 1))) w.heap.size 3 (cntTo cs (n + 1)) := by
        have := hC.set V ((cntTo cs n).getD V 0 + 1)
        rw [show cntTo cs (n + 1) = (cntTo cs n).set (cs.getD n 0).toNat ((cntTo cs n).getD (cs.getD n 0).toNat 0 + 1) from rfl, hV, Int.toNat_natCast]
        exact this
      have R2 : Below w.heap.size w (wr.setCell ⟨w.heap.size, V, none⟩ (.int .i64 ((cntTo cs n).getD V 0 + 1))) := hb1.setCell (p := ⟨w.heap.size, V, none⟩) (Nat.le_refl _) _
      rw [hV] at hc
      have hlt' : (n : Int) < 32768 := by omega
      have hg' : ¬ g = w.heap.size := by omega
      generalize (cntTo cs n).getD V 0 = c at *
      clear hC hb1 hV v0 v1
      go_wp2
      go_roundw
      case rel => exact ⟨n + 1, by omega, by go_num, R1, R2⟩
      case measure => simp [intOf]; omega
    · obtain rfl : n = 32768 := by omega
      go_wp2
      go_ret
      exact ⟨rfl, hC, hb1⟩

theorem full_yes (k : Int) (hk : 0 ≤ k ∧ k ≤ 16) (w : World) : Calls Try.prog 34 #[.int .i64 k] w fun e w' => e = .returned (.pointer (some ⟨w.heap.size, 0, none⟩)) ∧ Blk w' w.heap.size 67 (List.replicate 32768 k) ∧ Below w.heap.size w w' := by
  obtain ⟨Z, hZe⟩ : ∃ Z, Z = List.replicate 32768 (0 : Int) := ⟨_, rfl⟩
  have hZ : Z.length = 32768 := by rw [hZe, List.length_replicate]
  have hn := new_c w
  rw [← hZe] at hn
  clear hZe
  obtain ⟨e1, e2⟩ := okFill_yes (a := 0) (b := 127) (k := k) (by omega) Z
  have e3 : filTo Z (Int.toNat 0 * 256) k ((Int.toNat 127 + 1 - Int.toNat 0) * 256) = List.replicate 32768 k := filTo_full Z k 32768 hZ
  rw [e3] at e2
  clear e3
  have H1 : Hid (okFill 0 127 k = true) := e1
  have H2 : Hid (filC Z 0 127 k = List.replicate 32768 k) := e2
  clear e1 e2
  generalize List.replicate 32768 k = F at *
  go_enter Try.func34, Try.ntmps34
  go_wp2_with fail
  refine hn.mono ?_
  clear hn
  rintro _ w1 ⟨rfl, hw⟩
  have hB : Blk w1 w.heap.size 67 Z := by rw [hw]; exact Blk.new w 67 _
  have hb1 : Below w.heap.size w w1 := by rw [hw]; exact (Below.refl _ _).alloc (Nat.le_refl _) _
  clear hw
  go_wp2_with fail
  refine (fill_c _ Z 0 127 k _ hB hZ).mono ?_
  rw [H1.out, H2.out]
  rintro _ w2 ⟨rfl, hB2, ho⟩
  have R := hb1.trans (ho.below (Nat.le_refl _))
  clear hB hb1 ho
  go_wp2
  go_ret
  exact ⟨rfl, hB2, R⟩
theorem full_no (k : Int) (hk : ¬ (0 ≤ k ∧ k ≤ 16)) (w : World) : Calls Try.prog 34 #[.int .i64 k] w fun e w' => e = .returned (.pointer none) ∧ Below w.heap.size w w' := by
  obtain ⟨Z, hZe⟩ : ∃ Z, Z = List.replicate 32768 (0 : Int) := ⟨_, rfl⟩
  have hZ : Z.length = 32768 := by rw [hZe, List.length_replicate]
  have hn := new_c w
  rw [← hZe] at hn
  clear hZe
  obtain ⟨e1, e2⟩ := okFill_no (a := 0) (b := 127) (k := k) (by omega) Z
  have H1 : Hid (okFill 0 127 k = false) := e1
  clear e1 e2
  go_enter Try.func34, Try.ntmps34
  go_wp2_with fail
  refine hn.mono ?_
  clear hn
  rintro _ w1 ⟨rfl, hw⟩
  have hB : Blk w1 w.heap.size 67 Z := by rw [hw]; exact Blk.new w 67 _
  have hb1 : Below w.heap.size w w1 := by rw [hw]; exact (Below.refl _ _).alloc (Nat.le_refl _) _
  clear hw
  go_wp2_with fail
  refine (fill_c _ Z 0 127 k _ hB hZ).mono ?_
  rw [H1.out]
  rintro _ w2 ⟨rfl, hB2, ho⟩
  have R := hb1.trans (ho.below (Nat.le_refl _))
  clear hB hb1 ho hB2
  go_wp2
  go_ret
  exact ⟨rfl, R⟩

theorem size67 : (Try.prog.info? 67).map (·.size) = some 32768 := by kernel_rfl
theorem Blk.range {w : World} {g : Nat} {t : TypeId} {cs : List Int} (h : Blk w g t cs) : w.rangeAt g 0 (cs.map (Value.int .u8)) := fun j v hv => by
  rw [Nat.zero_add, cell_of_row w g j _ t (0, 0) h]
  simpa [vals] using hv
theorem vals_one (cs : List Int) : (vals cs).all (·.oneCell') = true := by
  unfold vals
  exact all_oneCell_toArray fun v hv => by obtain ⟨x, _, rfl⟩ := List.mem_map.1 hv; rfl
theorem copy_c (g : Nat) (cs : List Int) (w : World) (hB : Blk w g 67 cs) (hl : cs.length = 32768) :
    Calls Try.prog 36 #[.pointer (some ⟨g, 0, none⟩)] w fun e w' => e = .returned (.pointer (some ⟨w.heap.size, 0, none⟩)) ∧ w' = w.alloc (.cells (vals cs) 67) := by
  have hz := zero67
  have hr := hB.range
  have hlen : (Try.prog.info? 67).map (·.size) = some (cs.map (Value.int .u8)).length := by rw [size67, List.length_map, hl]
  have hst : (storeCells ⟨w.heap.size, 0, none⟩ (cs.map (Value.int .u8)) 0).run Try.prog (w.alloc (.cells (vals (List.replicate 32768 0)) 67)) = .ok () (w.alloc (.cells (vals cs) 67)) :=
    run_storeCells_new w 67 _ (vals cs) (by rw [size67, vals_size, hl]) (by rw [vals_size, vals_size, List.length_replicate, hl]) (vals_one cs)
  have hv : (cs.map (Value.int .u8)).toArray = vals cs := rfl
  have hL : (cs.map (Value.int .u8)).length = 32768 := by rw [List.length_map, hl]
  generalize hV : vals (List.replicate 32768 0) = V at hz hst
  have hs : V.size = 32768 := by rw [← hV, vals_size, List.length_replicate]
  clear hV hB
  generalize cs.map (Value.int .u8) = L at *
  generalize vals cs = C at *
  subst hv
  go_enter Try.func36, Try.ntmps36
  go_wp2_with (refine wpList_load_mid rfl 67 _ rfl g 0 rfl L _ hr Try.underlying67 rfl hlen ?_)
  go_ret
  exact ⟨rfl, rfl⟩
end Go.Proofs.Ythanmgejgmhccaa.C