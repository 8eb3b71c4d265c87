/-
  The program's packed numbers.
-/
import Derived.Test.YtdkihhjhjfkjjaaEpure
import Derived.Test.YtdkihhjhjfkjjaaDkind
import Derived.StillTailTactics
namespace Go.Proofs.Ytdkihhjhjfkjjaa
open Go.RowKit

theorem wp_region_tail {P : Program} {id : Nat} {Q : Exit → Act → World → Prop} {a : Act} {w : World} {l : List Oper} (n : Nat) (hm : P.follows .mixedOrders = true) (hB : Region.lexTailB .any l.toArray n = true)
    (h : wpStill P l.toArray (w.drewN 1) (fun a' => wpList P l.toArray Q (l.drop n) a' (w.drewN 1)) (l.take n) a) : (Code.region id l.toArray true).wp P Q a w :=
  wp_region_still_tail n hm hB h

set_option maxRecDepth 1000000 in
set_option maxHeartbeats 2000000 in
theorem packed_1 (g : Nat) (l cs : List Int) (w : World) (hB : Blk w g 5 (cs.map fun c => (plc l c : Int))) (hlen : cs.length = 32768) (hm : ∀ x ∈ cs, x ∈ l) (hw : l.length ≤ 2 ^ 1) (hl : l.length ≤ 17) :
    Calls Try.prog 27 #[.slice (some ⟨g, 0, none⟩) 32768 32768, .int .i64 1] w fun e w' => e = .returned (.slice (some ⟨w.heap.size, 0, none⟩) 4096 4096) ∧ Blk w' w.heap.size 5 (packTo l cs 1 8 4096) ∧ Below w.heap.size w w' := by
  obtain ⟨Post, hPost⟩ : ∃ Post : Ending → World → Prop, Post = fun e w' => e = .returned (.slice (some ⟨w.heap.size, 0, none⟩) 4096 4096) ∧ Blk w' w.heap.size 5 (packTo l cs 1 8 4096) ∧ Below w.heap.size w w' := ⟨_, rfl⟩
  rw [← hPost]
  have HPost : Hid (∀ w', Blk w' w.heap.size 5 (packTo l cs 1 8 4096) → Below w.heap.size w w' → Post (.returned (.slice (some ⟨w.heap.size, 0, none⟩) 4096 4096)) w') := fun w' h1 h2 => by rw [hPost]; exact ⟨rfl, h1, h2⟩
  clear hPost
  have hgl := hB.lt
  have HB : Hid (Blk w g 5 (cs.map fun c => (plc l c : Int))) := hB
  have Hlen : Hid (cs.length = 32768) := hlen
  have HM : Hid (∀ x ∈ cs, x ∈ l) := hm
  have HW : Hid (l.length ≤ 2 ^ 1) := hw
  have HL : Hid (l.length ≤ 17) := hl
  have hs := size_c 1 w (by omega)
  clear hB hlen hm hw hl
  go_enter Try.func27, Try.ntmps27
  go_wp2_with fail
  refine hs.mono ?_
  clear hs
  rintro _ w9 ⟨rfl, e9⟩
  rw [e9]
  clear e9 w9
  go_wp2_with (refine wpList_make_bytes w rfl (.tmp 10) (.tmp 10) rfl 4096 4096 rfl rfl rfl (by omega) ?_; intro w2 hR2 hb2)
  have HD2 : Hid (Blk w2 w.heap.size 5 (packTo l (cs.take 0) 1 8 4096)) := by show Blk _ _ _ _; rw [packTo_zero]; exact hR2.out
  have HB2 : Hid (Blk w2 g 5 (cs.map fun c => (plc l c : Int))) := HB.out.below hb2 hgl
  have Hb2 : Hid (Below w.heap.size w w2) := hb2
  clear hR2 hb2 HB
  go_loopw [14] (fun v14 wr => ∃ (I : Nat), I ≤ 32768 ∧ v14 = .int .i64 (I : Int) ∧ Hid (Blk wr w.heap.size 5 (packTo l (cs.take I) 1 8 4096)) ∧ Hid (Blk wr g 5 (cs.map fun c => (plc l c : Int))) ∧ Hid (Below w.heap.size w wr)) (fun v _ => 32768 - (intOf v).toNat)
  case atStart => exact ⟨0, by omega, rfl, HD2, HB2, Hb2⟩
  case round =>
    obtain ⟨I, hI, rfl, HD, HB, Hb⟩ := hrel
    clear HD2 HB2 Hb2
    by_cases hlt : I < 32768
    · have hlt' : (I : Int) < 32768 := by omega
      have hIl : I < cs.length := by rw [Hlen.out]; exact hlt
      obtain ⟨J, HJ⟩ : ∃ J, Hid (J = I / 8) := ⟨_, rfl⟩
      have hJM : J < 4096 := by have := HJ.out; omega
      have hJ1 : J * 8 ≤ I := by have := HJ.out; omega
      have hJ2 : I < J * 8 + 8 := by have := HJ.out; omega
      have hst := pack_step l cs 1 8 4096 I J hIl hJM hJ1 hJ2
      obtain ⟨y0, y1, y2⟩ := byte_now l cs 1 8 4096 I J hIl hJM hJ1 hJ2 HM.out HW.out
      have cx := HD.out.cell (k := J) (by rw [packTo_len]; exact hJM)
      have hfr := HD.out.free J
      have hcp := HB.out.cell (k := I) (by rw [List.length_map]; exact hIl)
      have hpe : (cs.map fun c => (plc l c : Int)).getD I 0 = (plc l cs[I] : Int) := by
        rw [List.getD_eq_getElem?_getD, List.getElem?_map, List.getElem?_eq_getElem hIl]; rfl
      rw [hpe] at hcp
      have hp16 : plc l cs[I] ≤ 16 := by
        have := plc_lt (HM.out _ (List.getElem_mem hIl))
        have := HL.out
        omega
      generalize plc l cs[I] = p at *
      have hDs := fun z => HD.out.set J z
      obtain ⟨x, hx⟩ : ∃ x, x = (packTo l (cs.take I) 1 8 4096).getD J 0 := ⟨_, rfl⟩
      rw [← hx] at hst y0 y1 cx
      have hbf := byte_fit (w := 1) (m := 8) (r := I - J * 8) (by omega) y1 y2 (by omega)
      have hor := or8_join x (p : Int) (1 * (I - J * 8)) y0 y1 (by omega) hbf
      obtain ⟨S, HS⟩ : ∃ S, Hid (S = 1 * (I - J * 8)) := ⟨_, rfl⟩
      rw [← HS.out] at hst hbf hor y1
      have hS7 : S ≤ 7 := by have := HS.out; omega
      have hsh0 : IntKind.u8.wrap ((p : Int) * 2 ^ S) = (p : Int) * 2 ^ S := by
        have hpp : (0 : Int) ≤ (p : Int) * 2 ^ S := Int.mul_nonneg (by omega) (Int.le_of_lt (Int.pow_pos (by omega)))
        rw [IntKind.wrap_u8]
        exact Int.emod_eq_of_lt hpp (by omega)
      obtain ⟨yy, Hyy⟩ : ∃ yy : Int, Hid (yy = (p : Int) * 2 ^ S) := ⟨_, rfl⟩
      rw [← Hyy.out] at hst hor
      have hsh : IntKind.u8.wrap ((p : Int) * 2 ^ S) = yy := by rw [hsh0]; exact Hyy.out.symm
      obtain ⟨zz, Hzz⟩ : ∃ zz : Int, Hid (zz = x + yy) := ⟨_, rfl⟩
      rw [← Hzz.out] at hst hor
      have HD2 : Hid (Blk (wr.setCell ⟨w.heap.size, J, none⟩ (.int .u8 zz)) w.heap.size 5 (packTo l (cs.take (I + 1)) 1 8 4096)) := by show Blk _ _ _ _; rw [hst]; exact hDs zz
      have HB2 : Hid (Blk (wr.setCell ⟨w.heap.size, J, none⟩ (.int .u8 zz)) g 5 (cs.map fun c => (plc l c : Int))) := HB.out.other (by omega)
      have Hb2 : Hid (Below w.heap.size w (wr.setCell ⟨w.heap.size, J, none⟩ (.int .u8 zz))) := Hb.out.setCell (p := ⟨w.heap.size, J, none⟩) (by simp) _
      clear hst y0 y1 y2 hpe hIl hDs hx hbf hsh0 HD HB Hb hJ1 hJ2
      have hq : IntKind.i64.wrap ((I : Int) / 8) = (J : Int) := by have := HJ.out; rw [IntKind.wrap_i64]; omega
      have hr : (I : Int).tmod 8 = (S : Int) := by have := HJ.out; have := HS.out; rw [Int.tmod_eq_emod_of_nonneg (by omega)]; omega
      have hJi : (J : Int) < 4096 := by omega
      clear hJM
      go_wp2_with fail
      have cx1 : (wr.drewN 1).cell? ⟨w.heap.size, J, none⟩ = some (.int .u8 x) := cx
      have hfr1 : (wr.drewN 1).frozen? ⟨w.heap.size, J, none⟩ = false := hfr
      refine wp_region_tail 11 (by kernel_rfl) (by kernel_rfl) ?_
      simp only [List.take_succ_cons, List.take_zero, List.drop_succ_cons, List.drop_zero]
      repeat still_step
      refine wpStill_nil ?_
      have HD3 : Hid (Blk ((wr.drewN 1).setCell ⟨w.heap.size, J, none⟩ (.int .u8 zz)) w.heap.size 5 (packTo l (cs.take (I + 1)) 1 8 4096)) := HD2.out
      have HB3 : Hid (Blk ((wr.drewN 1).setCell ⟨w.heap.size, J, none⟩ (.int .u8 zz)) g 5 (cs.map fun c => (plc l c : Int))) := HB2.out
      have Hb3 : Hid (Below w.heap.size w ((wr.drewN 1).setCell ⟨w.heap.size, J, none⟩ (.int .u8 zz))) := ⟨Hb2.out.os, Hb2.out.tape, Hb2.out.output, Hb2.out.size, Hb2.out.block⟩
      go_wp2
      go_roundw
      case rel => exact ⟨I + 1, by omega, by go_num, HD3, HB3, Hb3⟩
      case measure => simp [intOf]; omega
    · obtain rfl : I = 32768 := by omega
      have hlt' : ¬ (32768 : Int) < 32768 := by omega
      have hD := HD.out
      rw [List.take_of_length_le (Nat.le_of_eq Hlen.out)] at hD
      have R := HPost.out wr hD Hb.out
      clear HPost HD HB Hb hD
      go_wp2
      exact R
set_option maxRecDepth 1000000 in
set_option maxHeartbeats 2000000 in
theorem packed_2 (g : Nat) (l cs : List Int) (w : World) (hB : Blk w g 5 (cs.map fun c => (plc l c : Int))) (hlen : cs.length = 32768) (hm : ∀ x ∈ cs, x ∈ l) (hw : l.length ≤ 2 ^ 2) (hl : l.length ≤ 17) :
    Calls Try.prog 27 #[.slice (some ⟨g, 0, none⟩) 32768 32768, .int .i64 2] w fun e w' => e = .returned (.slice (some ⟨w.heap.size, 0, none⟩) 8192 8192) ∧ Blk w' w.heap.size 5 (packTo l cs 2 4 8192) ∧ Below w.heap.size w w' := by
  obtain ⟨Post, hPost⟩ : ∃ Post : Ending → World → Prop, Post = fun e w' => e = .returned (.slice (some ⟨w.heap.size, 0, none⟩) 8192 8192) ∧ Blk w' w.heap.size 5 (packTo l cs 2 4 8192) ∧ Below w.heap.size w w' := ⟨_, rfl⟩
  rw [← hPost]
  have HPost : Hid (∀ w', Blk w' w.heap.size 5 (packTo l cs 2 4 8192) → Below w.heap.size w w' → Post (.returned (.slice (some ⟨w.heap.size, 0, none⟩) 8192 8192)) w') := fun w' h1 h2 => by rw [hPost]; exact ⟨rfl, h1, h2⟩
  clear hPost
  have hgl := hB.lt
  have HB : Hid (Blk w g 5 (cs.map fun c => (plc l c : Int))) := hB
  have Hlen : Hid (cs.length = 32768) := hlen
  have HM : Hid (∀ x ∈ cs, x ∈ l) := hm
  have HW : Hid (l.length ≤ 2 ^ 2) := hw
  have HL : Hid (l.length ≤ 17) := hl
  have hs := size_c 2 w (by omega)
  clear hB hlen hm hw hl
  go_enter Try.func27, Try.ntmps27
  go_wp2_with fail
  refine hs.mono ?_
  clear hs
  rintro _ w9 ⟨rfl, e9⟩
  rw [e9]
  clear e9 w9
  go_wp2_with (refine wpList_make_bytes w rfl (.tmp 10) (.tmp 10) rfl 8192 8192 rfl rfl rfl (by omega) ?_; intro w2 hR2 hb2)
  have HD2 : Hid (Blk w2 w.heap.size 5 (packTo l (cs.take 0) 2 4 8192)) := by show Blk _ _ _ _; rw [packTo_zero]; exact hR2.out
  have HB2 : Hid (Blk w2 g 5 (cs.map fun c => (plc l c : Int))) := HB.out.below hb2 hgl
  have Hb2 : Hid (Below w.heap.size w w2) := hb2
  clear hR2 hb2 HB
  go_loopw [14] (fun v14 wr => ∃ (I : Nat), I ≤ 32768 ∧ v14 = .int .i64 (I : Int) ∧ Hid (Blk wr w.heap.size 5 (packTo l (cs.take I) 2 4 8192)) ∧ Hid (Blk wr g 5 (cs.map fun c => (plc l c : Int))) ∧ Hid (Below w.heap.size w wr)) (fun v _ => 32768 - (intOf v).toNat)
  case atStart => exact ⟨0, by omega, rfl, HD2, HB2, Hb2⟩
  case round =>
    obtain ⟨I, hI, rfl, HD, HB, Hb⟩ := hrel
    clear HD2 HB2 Hb2
    by_cases hlt : I < 32768
    · have hlt' : (I : Int) < 32768 := by omega
      have hIl : I < cs.length := by rw [Hlen.out]; exact hlt
      obtain ⟨J, HJ⟩ : ∃ J, Hid (J = I / 4) := ⟨_, rfl⟩
      have hJM : J < 8192 := by have := HJ.out; omega
      have hJ1 : J * 4 ≤ I := by have := HJ.out; omega
      have hJ2 : I < J * 4 + 4 := by have := HJ.out; omega
      have hst := pack_step l cs 2 4 8192 I J hIl hJM hJ1 hJ2
      obtain ⟨y0, y1, y2⟩ := byte_now l cs 2 4 8192 I J hIl hJM hJ1 hJ2 HM.out HW.out
      have cx := HD.out.cell (k := J) (by rw [packTo_len]; exact hJM)
      have hfr := HD.out.free J
      have hcp := HB.out.cell (k := I) (by rw [List.length_map]; exact hIl)
      have hpe : (cs.map fun c => (plc l c : Int)).getD I 0 = (plc l cs[I] : Int) := by
        rw [List.getD_eq_getElem?_getD, List.getElem?_map, List.getElem?_eq_getElem hIl]; rfl
      rw [hpe] at hcp
      have hp16 : plc l cs[I] ≤ 16 := by
        have := plc_lt (HM.out _ (List.getElem_mem hIl))
        have := HL.out
        omega
      generalize plc l cs[I] = p at *
      have hDs := fun z => HD.out.set J z
      obtain ⟨x, hx⟩ : ∃ x, x = (packTo l (cs.take I) 2 4 8192).getD J 0 := ⟨_, rfl⟩
      rw [← hx] at hst y0 y1 cx
      have hbf := byte_fit (w := 2) (m := 4) (r := I - J * 4) (by omega) y1 y2 (by omega)
      have hor := or8_join x (p : Int) (2 * (I - J * 4)) y0 y1 (by omega) hbf
      obtain ⟨S, HS⟩ : ∃ S, Hid (S = 2 * (I - J * 4)) := ⟨_, rfl⟩
      rw [← HS.out] at hst hbf hor y1
      have hS7 : S ≤ 7 := by have := HS.out; omega
      have hsh0 : IntKind.u8.wrap ((p : Int) * 2 ^ S) = (p : Int) * 2 ^ S := by
        have hpp : (0 : Int) ≤ (p : Int) * 2 ^ S := Int.mul_nonneg (by omega) (Int.le_of_lt (Int.pow_pos (by omega)))
        rw [IntKind.wrap_u8]
        exact Int.emod_eq_of_lt hpp (by omega)
      obtain ⟨yy, Hyy⟩ : ∃ yy : Int, Hid (yy = (p : Int) * 2 ^ S) := ⟨_, rfl⟩
      rw [← Hyy.out] at hst hor
      have hsh : IntKind.u8.wrap ((p : Int) * 2 ^ S) = yy := by rw [hsh0]; exact Hyy.out.symm
      obtain ⟨zz, Hzz⟩ : ∃ zz : Int, Hid (zz = x + yy) := ⟨_, rfl⟩
      rw [← Hzz.out] at hst hor
      have HD2 : Hid (Blk (wr.setCell ⟨w.heap.size, J, none⟩ (.int .u8 zz)) w.heap.size 5 (packTo l (cs.take (I + 1)) 2 4 8192)) := by show Blk _ _ _ _; rw [hst]; exact hDs zz
      have HB2 : Hid (Blk (wr.setCell ⟨w.heap.size, J, none⟩ (.int .u8 zz)) g 5 (cs.map fun c => (plc l c : Int))) := HB.out.other (by omega)
      have Hb2 : Hid (Below w.heap.size w (wr.setCell ⟨w.heap.size, J, none⟩ (.int .u8 zz))) := Hb.out.setCell (p := ⟨w.heap.size, J, none⟩) (by simp) _
      clear hst y0 y1 y2 hpe hIl hDs hx hbf hsh0 HD HB Hb hJ1 hJ2
      obtain ⟨A, HA⟩ : ∃ A : Nat, Hid (A = I * 2) := ⟨_, rfl⟩
      have hA : (I : Int) * 2 = (A : Int) := by have := HA.out; omega
      have hq : IntKind.i64.wrap ((A : Int) / 8) = (J : Int) := by have := HA.out; have := HJ.out; rw [IntKind.wrap_i64]; omega
      have hr : (A : Int).tmod 8 = (S : Int) := by have := HA.out; have := HJ.out; have := HS.out; rw [Int.tmod_eq_emod_of_nonneg (by omega)]; omega
      have hA2 : (A : Int) ≤ 1000000 := by have := HA.out; omega
      have hJi : (J : Int) < 8192 := by omega
      clear hJM
      go_wp2_with fail
      have cx1 : (wr.drewN 1).cell? ⟨w.heap.size, J, none⟩ = some (.int .u8 x) := cx
      have hfr1 : (wr.drewN 1).frozen? ⟨w.heap.size, J, none⟩ = false := hfr
      refine wp_region_tail 11 (by kernel_rfl) (by kernel_rfl) ?_
      simp only [List.take_succ_cons, List.take_zero, List.drop_succ_cons, List.drop_zero]
      repeat still_step
      refine wpStill_nil ?_
      have HD3 : Hid (Blk ((wr.drewN 1).setCell ⟨w.heap.size, J, none⟩ (.int .u8 zz)) w.heap.size 5 (packTo l (cs.take (I + 1)) 2 4 8192)) := HD2.out
      have HB3 : Hid (Blk ((wr.drewN 1).setCell ⟨w.heap.size, J, none⟩ (.int .u8 zz)) g 5 (cs.map fun c => (plc l c : Int))) := HB2.out
      have Hb3 : Hid (Below w.heap.size w ((wr.drewN 1).setCell ⟨w.heap.size, J, none⟩ (.int .u8 zz))) := ⟨Hb2.out.os, Hb2.out.tape, Hb2.out.output, Hb2.out.size, Hb2.out.block⟩
      go_wp2
      go_roundw
      case rel => exact ⟨I + 1, by omega, by go_num, HD3, HB3, Hb3⟩
      case measure => simp [intOf]; omega
    · obtain rfl : I = 32768 := by omega
      have hlt' : ¬ (32768 : Int) < 32768 := by omega
      have hD := HD.out
      rw [List.take_of_length_le (Nat.le_of_eq Hlen.out)] at hD
      have R := HPost.out wr hD Hb.out
      clear HPost HD HB Hb hD
      go_wp2
      exact R
set_option maxRecDepth 1000000 in
set_option maxHeartbeats 2000000 in
theorem packed_4 (g : Nat) (l cs : List Int) (w : World) (hB : Blk w g 5 (cs.map fun c => (plc l c : Int))) (hlen : cs.length = 32768) (hm : ∀ x ∈ cs, x ∈ l) (hw : l.length ≤ 2 ^ 4) (hl : l.length ≤ 17) :
    Calls Try.prog 27 #[.slice (some ⟨g, 0, none⟩) 32768 32768, .int .i64 4] w fun e w' => e = .returned (.slice (some ⟨w.heap.size, 0, none⟩) 16384 16384) ∧ Blk w' w.heap.size 5 (packTo l cs 4 2 16384) ∧ Below w.heap.size w w' := by
  obtain ⟨Post, hPost⟩ : ∃ Post : Ending → World → Prop, Post = fun e w' => e = .returned (.slice (some ⟨w.heap.size, 0, none⟩) 16384 16384) ∧ Blk w' w.heap.size 5 (packTo l cs 4 2 16384) ∧ Below w.heap.size w w' := ⟨_, rfl⟩
  rw [← hPost]
  have HPost : Hid (∀ w', Blk w' w.heap.size 5 (packTo l cs 4 2 16384) → Below w.heap.size w w' → Post (.returned (.slice (some ⟨w.heap.size, 0, none⟩) 16384 16384)) w') := fun w' h1 h2 => by rw [hPost]; exact ⟨rfl, h1, h2⟩
  clear hPost
  have hgl := hB.lt
  have HB : Hid (Blk w g 5 (cs.map fun c => (plc l c : Int))) := hB
  have Hlen : Hid (cs.length = 32768) := hlen
  have HM : Hid (∀ x ∈ cs, x ∈ l) := hm
  have HW : Hid (l.length ≤ 2 ^ 4) := hw
  have HL : Hid (l.length ≤ 17) := hl
  have hs := size_c 4 w (by omega)
  clear hB hlen hm hw hl
  go_enter Try.func27, Try.ntmps27
  go_wp2_with fail
  refine hs.mono ?_
  clear hs
  rintro _ w9 ⟨rfl, e9⟩
  rw [e9]
  clear e9 w9
  go_wp2_with (refine wpList_make_bytes w rfl (.tmp 10) (.tmp 10) rfl 16384 16384 rfl rfl rfl (by omega) ?_; intro w2 hR2 hb2)
  have HD2 : Hid (Blk w2 w.heap.size 5 (packTo l (cs.take 0) 4 2 16384)) := by show Blk _ _ _ _; rw [packTo_zero]; exact hR2.out
  have HB2 : Hid (Blk w2 g 5 (cs.map fun c => (plc l c : Int))) := HB.out.below hb2 hgl
  have Hb2 : Hid (Below w.heap.size w w2) := hb2
  clear hR2 hb2 HB
  go_loopw [14] (fun v14 wr => ∃ (I : Nat), I ≤ 32768 ∧ v14 = .int .i64 (I : Int) ∧ Hid (Blk wr w.heap.size 5 (packTo l (cs.take I) 4 2 16384)) ∧ Hid (Blk wr g 5 (cs.map fun c => (plc l c : Int))) ∧ Hid (Below w.heap.size w wr)) (fun v _ => 32768 - (intOf v).toNat)
  case atStart => exact ⟨0, by omega, rfl, HD2, HB2, Hb2⟩
  case round =>
    obtain ⟨I, hI, rfl, HD, HB, Hb⟩ := hrel
    clear HD2 HB2 Hb2
    by_cases hlt : I < 32768
    · have hlt' : (I : Int) < 32768 := by omega
      have hIl : I < cs.length := by rw [Hlen.out]; exact hlt
      obtain ⟨J, HJ⟩ : ∃ J, Hid (J = I / 2) := ⟨_, rfl⟩
      have hJM : J < 16384 := by have := HJ.out; omega
      have hJ1 : J * 2 ≤ I := by have := HJ.out; omega
      have hJ2 : I < J * 2 + 2 := by have := HJ.out; omega
      have hst := pack_step l cs 4 2 16384 I J hIl hJM hJ1 hJ2
      obtain ⟨y0, y1, y2⟩ := byte_now l cs 4 2 16384 I J hIl hJM hJ1 hJ2 HM.out HW.out
      have cx := HD.out.cell (k := J) (by rw [packTo_len]; exact hJM)
      have hfr := HD.out.free J
      have hcp := HB.out.cell (k := I) (by rw [List.length_map]; exact hIl)
      have hpe : (cs.map fun c => (plc l c : Int)).getD I 0 = (plc l cs[I] : Int) := by
        rw [List.getD_eq_getElem?_getD, List.getElem?_map, List.getElem?_eq_getElem hIl]; rfl
      rw [hpe] at hcp
      have hp16 : plc l cs[I] ≤ 16 := by
        have := plc_lt (HM.out _ (List.getElem_mem hIl))
        have := HL.out
        omega
      generalize plc l cs[I] = p at *
      have hDs := fun z => HD.out.set J z
      obtain ⟨x, hx⟩ : ∃ x, x = (packTo l (cs.take I) 4 2 16384).getD J 0 := ⟨_, rfl⟩
      rw [← hx] at hst y0 y1 cx
      have hbf := byte_fit (w := 4) (m := 2) (r := I - J * 2) (by omega) y1 y2 (by omega)
      have hor := or8_join x (p : Int) (4 * (I - J * 2)) y0 y1 (by omega) hbf
      obtain ⟨S, HS⟩ : ∃ S, Hid (S = 4 * (I - J * 2)) := ⟨_, rfl⟩
      rw [← HS.out] at hst hbf hor y1
      have hS7 : S ≤ 7 := by have := HS.out; omega
      have hsh0 : IntKind.u8.wrap ((p : Int) * 2 ^ S) = (p : Int) * 2 ^ S := by
        have hpp : (0 : Int) ≤ (p : Int) * 2 ^ S := Int.mul_nonneg (by omega) (Int.le_of_lt (Int.pow_pos (by omega)))
        rw [IntKind.wrap_u8]
        exact Int.emod_eq_of_lt hpp (by omega)
      obtain ⟨yy, Hyy⟩ : ∃ yy : Int, Hid (yy = (p : Int) * 2 ^ S) := ⟨_, rfl⟩
      rw [← Hyy.out] at hst hor
      have hsh : IntKind.u8.wrap ((p : Int) * 2 ^ S) = yy := by rw [hsh0]; exact Hyy.out.symm
      obtain ⟨zz, Hzz⟩ : ∃ zz : Int, Hid (zz = x + yy) := ⟨_, rfl⟩
      rw [← Hzz.out] at hst hor
      have HD2 : Hid (Blk (wr.setCell ⟨w.heap.size, J, none⟩ (.int .u8 zz)) w.heap.size 5 (packTo l (cs.take (I + 1)) 4 2 16384)) := by show Blk _ _ _ _; rw [hst]; exact hDs zz
      have HB2 : Hid (Blk (wr.setCell ⟨w.heap.size, J, none⟩ (.int .u8 zz)) g 5 (cs.map fun c => (plc l c : Int))) := HB.out.other (by omega)
      have Hb2 : Hid (Below w.heap.size w (wr.setCell ⟨w.heap.size, J, none⟩ (.int .u8 zz))) := Hb.out.setCell (p := ⟨w.heap.size, J, none⟩) (by simp) _
      clear hst y0 y1 y2 hpe hIl hDs hx hbf hsh0 HD HB Hb hJ1 hJ2
      obtain ⟨A, HA⟩ : ∃ A : Nat, Hid (A = I * 4) := ⟨_, rfl⟩
      have hA : (I : Int) * 4 = (A : Int) := by have := HA.out; omega
      have hq : IntKind.i64.wrap ((A : Int) / 8) = (J : Int) := by have := HA.out; have := HJ.out; rw [IntKind.wrap_i64]; omega
      have hr : (A : Int).tmod 8 = (S : Int) := by have := HA.out; have := HJ.out; have := HS.out; rw [Int.tmod_eq_emod_of_nonneg (by omega)]; omega
      have hA2 : (A : Int) ≤ 1000000 := by have := HA.out; omega
      have hJi : (J : Int) < 16384 := by omega
      clear hJM
      go_wp2_with fail
      have cx1 : (wr.drewN 1).cell? ⟨w.heap.size, J, none⟩ = some (.int .u8 x) := cx
      have hfr1 : (wr.drewN 1).frozen? ⟨w.heap.size, J, none⟩ = false := hfr
      refine wp_region_tail 11 (by kernel_rfl) (by kernel_rfl) ?_
      simp only [List.take_succ_cons, List.take_zero, List.drop_succ_cons, List.drop_zero]
      repeat still_step
      refine wpStill_nil ?_
      have HD3 : Hid (Blk ((wr.drewN 1).setCell ⟨w.heap.size, J, none⟩ (.int .u8 zz)) w.heap.size 5 (packTo l (cs.take (I + 1)) 4 2 16384)) := HD2.out
      have HB3 : Hid (Blk ((wr.drewN 1).setCell ⟨w.heap.size, J, none⟩ (.int .u8 zz)) g 5 (cs.map fun c => (plc l c : Int))) := HB2.out
      have Hb3 : Hid (Below w.heap.size w ((wr.drewN 1).setCell ⟨w.heap.size, J, none⟩ (.int .u8 zz))) := ⟨Hb2.out.os, Hb2.out.tape, Hb2.out.output, Hb2.out.size, Hb2.out.block⟩
      go_wp2
      go_roundw
      case rel => exact ⟨I + 1, by omega, by go_num, HD3, HB3, Hb3⟩
      case measure => simp [intOf]; omega
    · obtain rfl : I = 32768 := by omega
      have hlt' : ¬ (32768 : Int) < 32768 := by omega
      have hD := HD.out
      rw [List.take_of_length_le (Nat.le_of_eq Hlen.out)] at hD
      have R := HPost.out wr hD Hb.out
      clear HPost HD HB Hb hD
      go_wp2
      exact R
set_option maxRecDepth 1000000 in
set_option maxHeartbeats 2000000 in
theorem packed_8 (g : Nat) (l cs : List Int) (w : World) (hB : Blk w g 5 (cs.map fun c => (plc l c : Int))) (hlen : cs.length = 32768) (hm : ∀ x ∈ cs, x ∈ l) (hw : l.length ≤ 2 ^ 8) (hl : l.length ≤ 17) :
    Calls Try.prog 27 #[.slice (some ⟨g, 0, none⟩) 32768 32768, .int .i64 8] w fun e w' => e = .returned (.slice (some ⟨w.heap.size, 0, none⟩) 32768 32768) ∧ Blk w' w.heap.size 5 (packTo l cs 8 1 32768) ∧ Below w.heap.size w w' := by
  obtain ⟨Post, hPost⟩ : ∃ Post : Ending → World → Prop, Post = fun e w' => e = .returned (.slice (some ⟨w.heap.size, 0, none⟩) 32768 32768) ∧ Blk w' w.heap.size 5 (packTo l cs 8 1 32768) ∧ Below w.heap.size w w' := ⟨_, rfl⟩
  rw [← hPost]
  have HPost : Hid (∀ w', Blk w' w.heap.size 5 (packTo l cs 8 1 32768) → Below w.heap.size w w' → Post (.returned (.slice (some ⟨w.heap.size, 0, none⟩) 32768 32768)) w') := fun w' h1 h2 => by rw [hPost]; exact ⟨rfl, h1, h2⟩
  clear hPost
  have hgl := hB.lt
  have HB : Hid (Blk w g 5 (cs.map fun c => (plc l c : Int))) := hB
  have Hlen : Hid (cs.length = 32768) := hlen
  have HM : Hid (∀ x ∈ cs, x ∈ l) := hm
  have HW : Hid (l.length ≤ 2 ^ 8) := hw
  have HL : Hid (l.length ≤ 17) := hl
  have hs := size_c 8 w (by omega)
  clear hB hlen hm hw hl
  go_enter Try.func27, Try.ntmps27
  go_wp2_with fail
  refine hs.mono ?_
  clear hs
  rintro _ w9 ⟨rfl, e9⟩
  rw [e9]
  clear e9 w9
  go_wp2_with (refine wpList_make_bytes w rfl (.tmp 10) (.tmp 10) rfl 32768 32768 rfl rfl rfl (by omega) ?_; intro w2 hR2 hb2)
  have HD2 : Hid (Blk w2 w.heap.size 5 (packTo l (cs.take 0) 8 1 32768)) := by show Blk _ _ _ _; rw [packTo_zero]; exact hR2.out
  have HB2 : Hid (Blk w2 g 5 (cs.map fun c => (plc l c : Int))) := HB.out.below hb2 hgl
  have Hb2 : Hid (Below w.heap.size w w2) := hb2
  clear hR2 hb2 HB
  go_loopw [14] (fun v14 wr => ∃ (I : Nat), I ≤ 32768 ∧ v14 = .int .i64 (I : Int) ∧ Hid (Blk wr w.heap.size 5 (packTo l (cs.take I) 8 1 32768)) ∧ Hid (Blk wr g 5 (cs.map fun c => (plc l c : Int))) ∧ Hid (Below w.heap.size w wr)) (fun v _ => 32768 - (intOf v).toNat)
  case atStart => exact ⟨0, by omega, rfl, HD2, HB2, Hb2⟩
  case round =>
    obtain ⟨I, hI, rfl, HD, HB, Hb⟩ := hrel
    clear HD2 HB2 Hb2
    by_cases hlt : I < 32768
    · have hlt' : (I : Int) < 32768 := by omega
      have hIl : I < cs.length := by rw [Hlen.out]; exact hlt
      obtain ⟨J, HJ⟩ : ∃ J, Hid (J = I / 1) := ⟨_, rfl⟩
      have hJM : J < 32768 := by have := HJ.out; omega
      have hJ1 : J * 1 ≤ I := by have := HJ.out; omega
      have hJ2 : I < J * 1 + 1 := by have := HJ.out; omega
      have hst := pack_step l cs 8 1 32768 I J hIl hJM hJ1 hJ2
      obtain ⟨y0, y1, y2⟩ := byte_now l cs 8 1 32768 I J hIl hJM hJ1 hJ2 HM.out HW.out
      have cx := HD.out.cell (k := J) (by rw [packTo_len]; exact hJM)
      have hfr := HD.out.free J
      have hcp := HB.out.cell (k := I) (by rw [List.length_map]; exact hIl)
      have hpe : (cs.map fun c => (plc l c : Int)).getD I 0 = (plc l cs[I] : Int) := by
        rw [List.getD_eq_getElem?_getD, List.getElem?_map, List.getElem?_eq_getElem hIl]; rfl
      rw [hpe] at hcp
      have hp16 : plc l cs[I] ≤ 16 := by
        have := plc_lt (HM.out _ (List.getElem_mem hIl))
        have := HL.out
        omega
      generalize plc l cs[I] = p at *
      have hDs := fun z => HD.out.set J z
      obtain ⟨x, hx⟩ : ∃ x, x = (packTo l (cs.take I) 8 1 32768).getD J 0 := ⟨_, rfl⟩
      rw [← hx] at hst y0 y1 cx
      have hbf := byte_fit (w := 8) (m := 1) (r := I - J * 1) (by omega) y1 y2 (by omega)
      have hor := or8_join x (p : Int) (8 * (I - J * 1)) y0 y1 (by omega) hbf
      obtain ⟨S, HS⟩ : ∃ S, Hid (S = 8 * (I - J * 1)) := ⟨_, rfl⟩
      rw [← HS.out] at hst hbf hor y1
      have hS7 : S ≤ 7 := by have := HS.out; omega
      have hsh0 : IntKind.u8.wrap ((p : Int) * 2 ^ S) = (p : Int) * 2 ^ S := by
        have hpp : (0 : Int) ≤ (p : Int) * 2 ^ S := Int.mul_nonneg (by omega) (Int.le_of_lt (Int.pow_pos (by omega)))
        rw [IntKind.wrap_u8]
        exact Int.emod_eq_of_lt hpp (by omega)
      obtain ⟨yy, Hyy⟩ : ∃ yy : Int, Hid (yy = (p : Int) * 2 ^ S) := ⟨_, rfl⟩
      rw [← Hyy.out] at hst hor
      have hsh : IntKind.u8.wrap ((p : Int) * 2 ^ S) = yy := by rw [hsh0]; exact Hyy.out.symm
      obtain ⟨zz, Hzz⟩ : ∃ zz : Int, Hid (zz = x + yy) := ⟨_, rfl⟩
      rw [← Hzz.out] at hst hor
      have HD2 : Hid (Blk (wr.setCell ⟨w.heap.size, J, none⟩ (.int .u8 zz)) w.heap.size 5 (packTo l (cs.take (I + 1)) 8 1 32768)) := by show Blk _ _ _ _; rw [hst]; exact hDs zz
      have HB2 : Hid (Blk (wr.setCell ⟨w.heap.size, J, none⟩ (.int .u8 zz)) g 5 (cs.map fun c => (plc l c : Int))) := HB.out.other (by omega)
      have Hb2 : Hid (Below w.heap.size w (wr.setCell ⟨w.heap.size, J, none⟩ (.int .u8 zz))) := Hb.out.setCell (p := ⟨w.heap.size, J, none⟩) (by simp) _
      clear hst y0 y1 y2 hpe hIl hDs hx hbf hsh0 HD HB Hb hJ1 hJ2
      obtain ⟨A, HA⟩ : ∃ A : Nat, Hid (A = I * 8) := ⟨_, rfl⟩
      have hA : (I : Int) * 8 = (A : Int) := by have := HA.out; omega
      have hq : IntKind.i64.wrap ((A : Int) / 8) = (J : Int) := by have := HA.out; have := HJ.out; rw [IntKind.wrap_i64]; omega
      have hr : (A : Int).tmod 8 = (S : Int) := by have := HA.out; have := HJ.out; have := HS.out; rw [Int.tmod_eq_emod_of_nonneg (by omega)]; omega
      have hA2 : (A : Int) ≤ 1000000 := by have := HA.out; omega
      have hJi : (J : Int) < 32768 := by omega
      clear hJM
      go_wp2_with fail
      have cx1 : (wr.drewN 1).cell? ⟨w.heap.size, J, none⟩ = some (.int .u8 x) := cx
      have hfr1 : (wr.drewN 1).frozen? ⟨w.heap.size, J, none⟩ = false := hfr
      refine wp_region_tail 11 (by kernel_rfl) (by kernel_rfl) ?_
      simp only [List.take_succ_cons, List.take_zero, List.drop_succ_cons, List.drop_zero]
      repeat still_step
      refine wpStill_nil ?_
      have HD3 : Hid (Blk ((wr.drewN 1).setCell ⟨w.heap.size, J, none⟩ (.int .u8 zz)) w.heap.size 5 (packTo l (cs.take (I + 1)) 8 1 32768)) := HD2.out
      have HB3 : Hid (Blk ((wr.drewN 1).setCell ⟨w.heap.size, J, none⟩ (.int .u8 zz)) g 5 (cs.map fun c => (plc l c : Int))) := HB2.out
      have Hb3 : Hid (Below w.heap.size w ((wr.drewN 1).setCell ⟨w.heap.size, J, none⟩ (.int .u8 zz))) := ⟨Hb2.out.os, Hb2.out.tape, Hb2.out.output, Hb2.out.size, Hb2.out.block⟩
      go_wp2
      go_roundw
      case rel => exact ⟨I + 1, by omega, by go_num, HD3, HB3, Hb3⟩
      case measure => simp [intOf]; omega
    · obtain rfl : I = 32768 := by omega
      have hlt' : ¬ (32768 : Int) < 32768 := by omega
      have hD := HD.out
      rw [List.take_of_length_le (Nat.le_of_eq Hlen.out)] at hD
      have R := HPost.out wr hD Hb.out
      clear HPost HD HB Hb hD
      go_wp2
      exact R
theorem packed_c (g : Nat) (l cs : List Int) (w : World) (hB : Blk w g 5 (cs.map fun c => (plc l c : Int))) (hlen : cs.length = 32768) (hm : ∀ x ∈ cs, x ∈ l) (hl : l.length ≤ 17) :
    Calls Try.prog 27 #[.slice (some ⟨g, 0, none⟩) 32768 32768, .int .i64 (wid l.length : Int)] w fun e w' => e = .returned (.slice (some ⟨w.heap.size, 0, none⟩) (4096 * wid l.length) (4096 * wid l.length)) ∧ Blk w' w.heap.size 5 (packTo l cs (wid l.length) (8 / wid l.length) (4096 * wid l.length)) ∧ Below w.heap.size w w' := by
  have hw := wid_fit hl
  rcases wid_is l.length with h | h | h | h <;> rw [h] at hw ⊢
  · exact packed_1 g l cs w hB hlen hm hw hl
  · exact packed_2 g l cs w hB hlen hm hw hl
  · exact packed_4 g l cs w hB hlen hm hw hl
  · exact packed_8 g l cs w hB hlen hm hw hl
end Go.Proofs.Ytdkihhjhjfkjjaa
