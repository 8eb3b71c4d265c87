/-
  GridBack: a cell that is asked for by its chunk and its place there is the cell; a place's cell has that chunk and that place.
-/
import Derived.Test.YtbodopfghejoiaaFrame
namespace Go.Proofs.Ytbodopfghejoiaa
open Go.ChangeShapes Go.WideShapes Go.ChangeAt Go.RowKit Go.BigFrame

theorem wrap_id {n : Int} (h0 : -9223372036854775808 ≤ n) (h1 : n ≤ 9223372036854775807) : wrap64 n = n := by unfold wrap64; omega
theorem back_place (cx cz i : Int) (hi : 0 ≤ i ∧ i ≤ 32767) (hx : -1099511627776 ≤ cx ∧ cx ≤ 1099511627776) (hz : -1099511627776 ≤ cz ∧ cz ≤ 1099511627776) :
    cellX cx i / 16 = cx ∧ cellZ cz i / 16 = cz ∧ indexN (cellX cx i) (cellY i) (cellZ cz i) = i ∧ B64 (cellX cx i) ∧ B64 (cellZ cz i) := by
  have e1 : cellX cx i = cx * 16 + i % 16 := by unfold cellX; rw [if_pos hi, wrap_id (n := cx * 16) (by omega) (by omega), wrap_id (by omega) (by omega)]
  have e2 : cellZ cz i = cz * 16 + i % 256 / 16 := by unfold cellZ; rw [if_pos hi, wrap_id (n := cz * 16) (by omega) (by omega), wrap_id (by omega) (by omega)]
  have e3 : cellY i = i / 256 := by unfold cellY; rw [if_pos hi]
  rw [e1, e2, e3]
  refine ⟨by omega, by omega, ?_, by constructor <;> omega, by constructor <;> omega⟩
  unfold indexN
  rw [if_pos (by omega)]
  omega
theorem back_cell (x y z : Int) (bx : B64 x) (bz : B64 z) (hy : 0 ≤ y ∧ y ≤ 127) :
    cellX (x / 16) (indexN x y z) = x ∧ cellY (indexN x y z) = y ∧ cellZ (z / 16) (indexN x y z) = z := by
  have e : indexN x y z = y * 256 + z % 16 * 16 + x % 16 := by unfold indexN; rw [if_pos hy]
  have b : 0 ≤ indexN x y z ∧ indexN x y z ≤ 32767 := by omega
  refine ⟨?_, ?_, ?_⟩
  · unfold cellX; rw [if_pos b, wrap_id (n := x / 16 * 16) (by omega) (by omega), wrap_id (by omega) (by omega), e]; omega
  · unfold cellY; rw [if_pos b, e]; omega
  · unfold cellZ; rw [if_pos b, wrap_id (n := z / 16 * 16) (by omega) (by omega), wrap_id (by omega) (by omega), e]; omega
theorem cell_bd (cx cz i : Int) : B64 (cellX cx i) ∧ B64 (cellZ cz i) := by
  unfold cellX cellZ wrap64
  constructor <;> constructor <;> split <;> omega

set_option maxRecDepth 100000 in
set_option maxHeartbeats 16000000 in
theorem gridBack_any (x y z cx cz i : Int) (bx : B64 x) (bz : B64 z) (w : World) : Calls Try.prog 4 #[.agg #[.int .i64 x, .int .i64 y, .int .i64 z], .agg #[.int .i64 cx, .int .i64 cz], .int .i64 i] w fun e w' => e = .returned (.bool true) ∧ Below w.heap.size w w' := by
  have x0 := bx.1
  have x1 := bx.2
  have z0 := bz.1
  have z1 := bz.2
  obtain ⟨⟨m0, m1⟩, m2, m3⟩ := cell_bd cx cz i
  have HJ : Hid ((0 ≤ i ∧ i ≤ 32767) → (-1099511627776 ≤ cx ∧ cx ≤ 1099511627776) → (-1099511627776 ≤ cz ∧ cz ≤ 1099511627776) → cellX cx i / 16 = cx ∧ cellZ cz i / 16 = cz ∧ indexN (cellX cx i) (cellY i) (cellZ cz i) = i) := fun h1 h2 h3 => by
    obtain ⟨k1, k2, k3, _⟩ := back_place cx cz i h1 h2 h3
    exact ⟨k1, k2, k3⟩
  have HK : Hid ((0 ≤ y ∧ y ≤ 127) → cellX (x / 16) (indexN x y z) = x ∧ cellY (indexN x y z) = y ∧ cellZ (z / 16) (indexN x y z) = z) := back_cell x y z bx bz
  clear bx bz
  go_enter Try.func4, Try.ntmps4
  go_wp2_with fail
  refine (awake_c _).mono ?_
  rintro e w1 ⟨rfl, hw1⟩
  have HB1 : Hid (Below w.heap.size w w1) := (below_two w _ _).trans (hw1.mono (by simp; omega))
  have hC1 := (hw1.block (w.heap.size + 1) (by simp)).trans (new_two w _ _)
  have hP1 := (hw1.block w.heap.size (by simp; omega)).trans ((Below.heap_alloc _ _ _ (by simp)).trans (heap_alloc_new w _))
  have k0 := (cell_of_row w1 (w.heap.size + 1) 0 _ 27 (0, 0) hC1).trans rfl
  have k1 := (cell_of_row w1 (w.heap.size + 1) 1 _ 27 (0, 0) hC1).trans rfl
  clear hw1
  go_wp2_with fail
  refine (cell_c _ _ _ _).mono ?_
  rintro e w2 ⟨rfl, hw2⟩
  have HB2 : Hid (Below w.heap.size w w2) := HB1.out.trans (hw2.mono HB1.out.size)
  have hC2 := (hw2.block _ (Array.getElem?_eq_some_iff.1 hC1).1).trans hC1
  have hP2 := (hw2.block _ (Array.getElem?_eq_some_iff.1 hP1).1).trans hP1
  have hC := (Below.heap_alloc w2 (.cells #[.int .i64 (cellX cx i), .int .i64 (cellY i), .int .i64 (cellZ cz i)] 23) _ (Array.getElem?_eq_some_iff.1 hC2).1).trans hC2
  have hP := (Below.heap_alloc w2 (.cells #[.int .i64 (cellX cx i), .int .i64 (cellY i), .int .i64 (cellZ cz i)] 23) _ (Array.getElem?_eq_some_iff.1 hP2).1).trans hP2
  have hQ := heap_alloc_new w2 (.cells #[.int .i64 (cellX cx i), .int .i64 (cellY i), .int .i64 (cellZ cz i)] 23)
  have p0 := (cell_of_row _ w.heap.size 0 _ 23 (0, 0) hP).trans rfl
  have p1 := (cell_of_row _ w.heap.size 1 _ 23 (0, 0) hP).trans rfl
  have p2 := (cell_of_row _ w.heap.size 2 _ 23 (0, 0) hP).trans rfl
  have c0 := (cell_of_row _ (w.heap.size + 1) 0 _ 27 (0, 0) hC).trans rfl
  have c1 := (cell_of_row _ (w.heap.size + 1) 1 _ 27 (0, 0) hC).trans rfl
  have q0 := (cell_of_row _ w2.heap.size 0 _ 23 (0, 0) hQ).trans rfl
  have q1 := (cell_of_row _ w2.heap.size 1 _ 23 (0, 0) hQ).trans rfl
  have q2 := (cell_of_row _ w2.heap.size 2 _ 23 (0, 0) hQ).trans rfl
  clear hw2 hC1 hP1 hC2 hP2 hC hP hQ k0 k1
  go_wp2_with fail
  have HB2' : Hid (Below w.heap.size w (w2.alloc (.cells #[.int .i64 (cellX cx i), .int .i64 (cellY i), .int .i64 (cellZ cz i)] 23))) := HB2.out.alloc HB2.out.size _
  have tp0 := fun s : Since (w2.alloc (.cells #[.int .i64 (cellX cx i), .int .i64 (cellY i), .int .i64 (cellZ cz i)] 23)) => Since.cell p0 s
  have tp1 := fun s : Since (w2.alloc (.cells #[.int .i64 (cellX cx i), .int .i64 (cellY i), .int .i64 (cellZ cz i)] 23)) => Since.cell p1 s
  have tp2 := fun s : Since (w2.alloc (.cells #[.int .i64 (cellX cx i), .int .i64 (cellY i), .int .i64 (cellZ cz i)] 23)) => Since.cell p2 s
  have tc0 := fun s : Since (w2.alloc (.cells #[.int .i64 (cellX cx i), .int .i64 (cellY i), .int .i64 (cellZ cz i)] 23)) => Since.cell c0 s
  have tc1 := fun s : Since (w2.alloc (.cells #[.int .i64 (cellX cx i), .int .i64 (cellY i), .int .i64 (cellZ cz i)] 23)) => Since.cell c1 s
  have tq0 := fun s : Since (w2.alloc (.cells #[.int .i64 (cellX cx i), .int .i64 (cellY i), .int .i64 (cellZ cz i)] 23)) => Since.cell q0 s
  have tq1 := fun s : Since (w2.alloc (.cells #[.int .i64 (cellX cx i), .int .i64 (cellY i), .int .i64 (cellZ cz i)] 23)) => Since.cell q1 s
  have tq2 := fun s : Since (w2.alloc (.cells #[.int .i64 (cellX cx i), .int .i64 (cellY i), .int .i64 (cellZ cz i)] 23)) => Since.cell q2 s
  refine wp_region_since (by kernel_rfl) (by kernel_rfl) ?_
  repeat (go_big_quiet_step (first
    | (go_at_call 17; exact Calls.since (rcell_c _ _ _ _))))
  refine wpQuiet_nil ?_
  rintro _ ⟨sa, rfl⟩
  go_wp2_with fail
  have HB3 : Hid (Below w.heap.size w sa.w) := HB2'.out.trans (sa.bel.mono HB2'.out.size)
  by_cases c0' : 0 ≤ i
  case neg =>
    have up0 := fun s : Since sa.w => Since.cell (tp0 sa) s
    have up1 := fun s : Since sa.w => Since.cell (tp1 sa) s
    have up2 := fun s : Since sa.w => Since.cell (tp2 sa) s
    have uc0 := fun s : Since sa.w => Since.cell (tc0 sa) s
    have uc1 := fun s : Since sa.w => Since.cell (tc1 sa) s
    have uq0 := fun s : Since sa.w => Since.cell (tq0 sa) s
    have uq1 := fun s : Since sa.w => Since.cell (tq1 sa) s
    have uq2 := fun s : Since sa.w => Since.cell (tq2 sa) s
    refine wp_region_since (by kernel_rfl) (by kernel_rfl) ?_
    repeat (go_big_quiet_step (first
      | (go_at_call 12; exact Calls.since (chunk_c _ _ _ (by assumption) (by assumption) (by assumption) (by assumption) _))
      | (go_at_call 14; exact Calls.since (index_c _ _ _ (by assumption) (by assumption) (by assumption) (by assumption) _))))
    refine wpQuiet_nil ?_
    rintro _ ⟨sb, rfl⟩
    go_wp2_with fail
    have HB4 : Hid (Below w.heap.size w sb.w) := HB3.out.trans (sb.bel.mono HB3.out.size)
    by_cases d0 : y < 0
    case pos =>
      have vp0 := fun s : Since sb.w => Since.cell (up0 sb) s
      have vp1 := fun s : Since sb.w => Since.cell (up1 sb) s
      have vp2 := fun s : Since sb.w => Since.cell (up2 sb) s
      have vc0 := fun s : Since sb.w => Since.cell (uc0 sb) s
      have vc1 := fun s : Since sb.w => Since.cell (uc1 sb) s
      have vq0 := fun s : Since sb.w => Since.cell (uq0 sb) s
      have vq1 := fun s : Since sb.w => Since.cell (uq1 sb) s
      have vq2 := fun s : Since sb.w => Since.cell (uq2 sb) s
      refine wp_region_since (by kernel_rfl) (by kernel_rfl) ?_
      repeat (go_big_quiet_step (first
        | (go_at_call 12; exact Calls.since (chunk_c _ _ _ (by assumption) (by assumption) (by assumption) (by assumption) _))
        | (go_at_call 14; exact Calls.since (index_c _ _ _ (by assumption) (by assumption) (by assumption) (by assumption) _))
        | (go_at_call 16; exact Calls.since (cell_c _ _ _ _))))
      refine wpQuiet_nil ?_
      rintro _ ⟨sc, rfl⟩
      go_wp2
      go_ret
      exact ⟨rfl, HB4.out.trans (sc.bel.mono HB4.out.size)⟩
    by_cases d1 : 128 ≤ y
    case pos =>
      have vp0 := fun s : Since sb.w => Since.cell (up0 sb) s
      have vp1 := fun s : Since sb.w => Since.cell (up1 sb) s
      have vp2 := fun s : Since sb.w => Since.cell (up2 sb) s
      have vc0 := fun s : Since sb.w => Since.cell (uc0 sb) s
      have vc1 := fun s : Since sb.w => Since.cell (uc1 sb) s
      have vq0 := fun s : Since sb.w => Since.cell (uq0 sb) s
      have vq1 := fun s : Since sb.w => Since.cell (uq1 sb) s
      have vq2 := fun s : Since sb.w => Since.cell (uq2 sb) s
      refine wp_region_since (by kernel_rfl) (by kernel_rfl) ?_
      repeat (go_big_quiet_step (first
        | (go_at_call 12; exact Calls.since (chunk_c _ _ _ (by assumption) (by assumption) (by assumption) (by assumption) _))
        | (go_at_call 14; exact Calls.since (index_c _ _ _ (by assumption) (by assumption) (by assumption) (by assumption) _))
        | (go_at_call 16; exact Calls.since (cell_c _ _ _ _))))
      refine wpQuiet_nil ?_
      rintro _ ⟨sc, rfl⟩
      go_wp2
      go_ret
      exact ⟨rfl, HB4.out.trans (sc.bel.mono HB4.out.size)⟩
    have vp0 := fun s : Since sb.w => Since.cell (up0 sb) s
    have vp1 := fun s : Since sb.w => Since.cell (up1 sb) s
    have vp2 := fun s : Since sb.w => Since.cell (up2 sb) s
    have vc0 := fun s : Since sb.w => Since.cell (uc0 sb) s
    have vc1 := fun s : Since sb.w => Since.cell (uc1 sb) s
    have vq0 := fun s : Since sb.w => Since.cell (uq0 sb) s
    have vq1 := fun s : Since sb.w => Since.cell (uq1 sb) s
    have vq2 := fun s : Since sb.w => Since.cell (uq2 sb) s
    obtain ⟨g1, g2, g3⟩ := HK.out ⟨by omega, by omega⟩
    refine wp_region_since (by kernel_rfl) (by kernel_rfl) ?_
    repeat (go_big_quiet_step (first
      | (go_at_call 12; exact Calls.since (chunk_c _ _ _ (by assumption) (by assumption) (by assumption) (by assumption) _))
      | (go_at_call 14; exact Calls.since (index_c _ _ _ (by assumption) (by assumption) (by assumption) (by assumption) _))
      | (go_at_call 16; exact Calls.since (cell_c _ _ _ _))))
    refine wpQuiet_nil ?_
    rintro _ ⟨sc, rfl⟩
    go_wp2
    go_ret
    exact ⟨rfl, HB4.out.trans (sc.bel.mono HB4.out.size)⟩
  by_cases c1' : i < 32768
  case neg =>
    have up0 := fun s : Since sa.w => Since.cell (tp0 sa) s
    have up1 := fun s : Since sa.w => Since.cell (tp1 sa) s
    have up2 := fun s : Since sa.w => Since.cell (tp2 sa) s
    have uc0 := fun s : Since sa.w => Since.cell (tc0 sa) s
    have uc1 := fun s : Since sa.w => Since.cell (tc1 sa) s
    have uq0 := fun s : Since sa.w => Since.cell (tq0 sa) s
    have uq1 := fun s : Since sa.w => Since.cell (tq1 sa) s
    have uq2 := fun s : Since sa.w => Since.cell (tq2 sa) s
    refine wp_region_since (by kernel_rfl) (by kernel_rfl) ?_
    repeat (go_big_quiet_step (first
      | (go_at_call 12; exact Calls.since (chunk_c _ _ _ (by assumption) (by assumption) (by assumption) (by assumption) _))
      | (go_at_call 14; exact Calls.since (index_c _ _ _ (by assumption) (by assumption) (by assumption) (by assumption) _))))
    refine wpQuiet_nil ?_
    rintro _ ⟨sb, rfl⟩
    go_wp2_with fail
    have HB4 : Hid (Below w.heap.size w sb.w) := HB3.out.trans (sb.bel.mono HB3.out.size)
    by_cases d0 : y < 0
    case pos =>
      have vp0 := fun s : Since sb.w => Since.cell (up0 sb) s
      have vp1 := fun s : Since sb.w => Since.cell (up1 sb) s
      have vp2 := fun s : Since sb.w => Since.cell (up2 sb) s
      have vc0 := fun s : Since sb.w => Since.cell (uc0 sb) s
      have vc1 := fun s : Since sb.w => Since.cell (uc1 sb) s
      have vq0 := fun s : Since sb.w => Since.cell (uq0 sb) s
      have vq1 := fun s : Since sb.w => Since.cell (uq1 sb) s
      have vq2 := fun s : Since sb.w => Since.cell (uq2 sb) s
      refine wp_region_since (by kernel_rfl) (by kernel_rfl) ?_
      repeat (go_big_quiet_step (first
        | (go_at_call 12; exact Calls.since (chunk_c _ _ _ (by assumption) (by assumption) (by assumption) (by assumption) _))
        | (go_at_call 14; exact Calls.since (index_c _ _ _ (by assumption) (by assumption) (by assumption) (by assumption) _))
        | (go_at_call 16; exact Calls.since (cell_c _ _ _ _))))
      refine wpQuiet_nil ?_
      rintro _ ⟨sc, rfl⟩
      go_wp2
      go_ret
      exact ⟨rfl, HB4.out.trans (sc.bel.mono HB4.out.size)⟩
    by_cases d1 : 128 ≤ y
    case pos =>
      have vp0 := fun s : Since sb.w => Since.cell (up0 sb) s
      have vp1 := fun s : Since sb.w => Since.cell (up1 sb) s
      have vp2 := fun s : Since sb.w => Since.cell (up2 sb) s
      have vc0 := fun s : Since sb.w => Since.cell (uc0 sb) s
      have vc1 := fun s : Since sb.w => Since.cell (uc1 sb) s
      have vq0 := fun s : Since sb.w => Since.cell (uq0 sb) s
      have vq1 := fun s : Since sb.w => Since.cell (uq1 sb) s
      have vq2 := fun s : Since sb.w => Since.cell (uq2 sb) s
      refine wp_region_since (by kernel_rfl) (by kernel_rfl) ?_
      repeat (go_big_quiet_step (first
        | (go_at_call 12; exact Calls.since (chunk_c _ _ _ (by assumption) (by assumption) (by assumption) (by assumption) _))
        | (go_at_call 14; exact Calls.since (index_c _ _ _ (by assumption) (by assumption) (by assumption) (by assumption) _))
        | (go_at_call 16; exact Calls.since (cell_c _ _ _ _))))
      refine wpQuiet_nil ?_
      rintro _ ⟨sc, rfl⟩
      go_wp2
      go_ret
      exact ⟨rfl, HB4.out.trans (sc.bel.mono HB4.out.size)⟩
    have vp0 := fun s : Since sb.w => Since.cell (up0 sb) s
    have vp1 := fun s : Since sb.w => Since.cell (up1 sb) s
    have vp2 := fun s : Since sb.w => Since.cell (up2 sb) s
    have vc0 := fun s : Since sb.w => Since.cell (uc0 sb) s
    have vc1 := fun s : Since sb.w => Since.cell (uc1 sb) s
    have vq0 := fun s : Since sb.w => Since.cell (uq0 sb) s
    have vq1 := fun s : Since sb.w => Since.cell (uq1 sb) s
    have vq2 := fun s : Since sb.w => Since.cell (uq2 sb) s
    obtain ⟨g1, g2, g3⟩ := HK.out ⟨by omega, by omega⟩
    refine wp_region_since (by kernel_rfl) (by kernel_rfl) ?_
    repeat (go_big_quiet_step (first
      | (go_at_call 12; exact Calls.since (chunk_c _ _ _ (by assumption) (by assumption) (by assumption) (by assumption) _))
      | (go_at_call 14; exact Calls.since (index_c _ _ _ (by assumption) (by assumption) (by assumption) (by assumption) _))
      | (go_at_call 16; exact Calls.since (cell_c _ _ _ _))))
    refine wpQuiet_nil ?_
    rintro _ ⟨sc, rfl⟩
    go_wp2
    go_ret
    exact ⟨rfl, HB4.out.trans (sc.bel.mono HB4.out.size)⟩
  by_cases c2' : -1099511627776 ≤ cx
  case neg =>
    have up0 := fun s : Since sa.w => Since.cell (tp0 sa) s
    have up1 := fun s : Since sa.w => Since.cell (tp1 sa) s
    have up2 := fun s : Since sa.w => Since.cell (tp2 sa) s
    have uc0 := fun s : Since sa.w => Since.cell (tc0 sa) s
    have uc1 := fun s : Since sa.w => Since.cell (tc1 sa) s
    have uq0 := fun s : Since sa.w => Since.cell (tq0 sa) s
    have uq1 := fun s : Since sa.w => Since.cell (tq1 sa) s
    have uq2 := fun s : Since sa.w => Since.cell (tq2 sa) s
    refine wp_region_since (by kernel_rfl) (by kernel_rfl) ?_
    repeat (go_big_quiet_step (first
      | (go_at_call 12; exact Calls.since (chunk_c _ _ _ (by assumption) (by assumption) (by assumption) (by assumption) _))
      | (go_at_call 14; exact Calls.since (index_c _ _ _ (by assumption) (by assumption) (by assumption) (by assumption) _))))
    refine wpQuiet_nil ?_
    rintro _ ⟨sb, rfl⟩
    go_wp2_with fail
    have HB4 : Hid (Below w.heap.size w sb.w) := HB3.out.trans (sb.bel.mono HB3.out.size)
    by_cases d0 : y < 0
    case pos =>
      have vp0 := fun s : Since sb.w => Since.cell (up0 sb) s
      have vp1 := fun s : Since sb.w => Since.cell (up1 sb) s
      have vp2 := fun s : Since sb.w => Since.cell (up2 sb) s
      have vc0 := fun s : Since sb.w => Since.cell (uc0 sb) s
      have vc1 := fun s : Since sb.w => Since.cell (uc1 sb) s
      have vq0 := fun s : Since sb.w => Since.cell (uq0 sb) s
      have vq1 := fun s : Since sb.w => Since.cell (uq1 sb) s
      have vq2 := fun s : Since sb.w => Since.cell (uq2 sb) s
      refine wp_region_since (by kernel_rfl) (by kernel_rfl) ?_
      repeat (go_big_quiet_step (first
        | (go_at_call 12; exact Calls.since (chunk_c _ _ _ (by assumption) (by assumption) (by assumption) (by assumption) _))
        | (go_at_call 14; exact Calls.since (index_c _ _ _ (by assumption) (by assumption) (by assumption) (by assumption) _))
        | (go_at_call 16; exact Calls.since (cell_c _ _ _ _))))
      refine wpQuiet_nil ?_
      rintro _ ⟨sc, rfl⟩
      go_wp2
      go_ret
      exact ⟨rfl, HB4.out.trans (sc.bel.mono HB4.out.size)⟩
    by_cases d1 : 128 ≤ y
    case pos =>
      have vp0 := fun s : Since sb.w => Since.cell (up0 sb) s
      have vp1 := fun s : Since sb.w => Since.cell (up1 sb) s
      have vp2 := fun s : Since sb.w => Since.cell (up2 sb) s
      have vc0 := fun s : Since sb.w => Since.cell (uc0 sb) s
      have vc1 := fun s : Since sb.w => Since.cell (uc1 sb) s
      have vq0 := fun s : Since sb.w => Since.cell (uq0 sb) s
      have vq1 := fun s : Since sb.w => Since.cell (uq1 sb) s
      have vq2 := fun s : Since sb.w => Since.cell (uq2 sb) s
      refine wp_region_since (by kernel_rfl) (by kernel_rfl) ?_
      repeat (go_big_quiet_step (first
        | (go_at_call 12; exact Calls.since (chunk_c _ _ _ (by assumption) (by assumption) (by assumption) (by assumption) _))
        | (go_at_call 14; exact Calls.since (index_c _ _ _ (by assumption) (by assumption) (by assumption) (by assumption) _))
        | (go_at_call 16; exact Calls.since (cell_c _ _ _ _))))
      refine wpQuiet_nil ?_
      rintro _ ⟨sc, rfl⟩
      go_wp2
      go_ret
      exact ⟨rfl, HB4.out.trans (sc.bel.mono HB4.out.size)⟩
    have vp0 := fun s : Since sb.w => Since.cell (up0 sb) s
    have vp1 := fun s : Since sb.w => Since.cell (up1 sb) s
    have vp2 := fun s : Since sb.w => Since.cell (up2 sb) s
    have vc0 := fun s : Since sb.w => Since.cell (uc0 sb) s
    have vc1 := fun s : Since sb.w => Since.cell (uc1 sb) s
    have vq0 := fun s : Since sb.w => Since.cell (uq0 sb) s
    have vq1 := fun s : Since sb.w => Since.cell (uq1 sb) s
    have vq2 := fun s : Since sb.w => Since.cell (uq2 sb) s
    obtain ⟨g1, g2, g3⟩ := HK.out ⟨by omega, by omega⟩
    refine wp_region_since (by kernel_rfl) (by kernel_rfl) ?_
    repeat (go_big_quiet_step (first
      | (go_at_call 12; exact Calls.since (chunk_c _ _ _ (by assumption) (by assumption) (by assumption) (by assumption) _))
      | (go_at_call 14; exact Calls.since (index_c _ _ _ (by assumption) (by assumption) (by assumption) (by assumption) _))
      | (go_at_call 16; exact Calls.since (cell_c _ _ _ _))))
    refine wpQuiet_nil ?_
    rintro _ ⟨sc, rfl⟩
    go_wp2
    go_ret
    exact ⟨rfl, HB4.out.trans (sc.bel.mono HB4.out.size)⟩
  by_cases c3' : cx ≤ 1099511627776
  case neg =>
    have up0 := fun s : Since sa.w => Since.cell (tp0 sa) s
    have up1 := fun s : Since sa.w => Since.cell (tp1 sa) s
    have up2 := fun s : Since sa.w => Since.cell (tp2 sa) s
    have uc0 := fun s : Since sa.w => Since.cell (tc0 sa) s
    have uc1 := fun s : Since sa.w => Since.cell (tc1 sa) s
    have uq0 := fun s : Since sa.w => Since.cell (tq0 sa) s
    have uq1 := fun s : Since sa.w => Since.cell (tq1 sa) s
    have uq2 := fun s : Since sa.w => Since.cell (tq2 sa) s
    refine wp_region_since (by kernel_rfl) (by kernel_rfl) ?_
    repeat (go_big_quiet_step (first
      | (go_at_call 12; exact Calls.since (chunk_c _ _ _ (by assumption) (by assumption) (by assumption) (by assumption) _))
      | (go_at_call 14; exact Calls.since (index_c _ _ _ (by assumption) (by assumption) (by assumption) (by assumption) _))))
    refine wpQuiet_nil ?_
    rintro _ ⟨sb, rfl⟩
    go_wp2_with fail
    have HB4 : Hid (Below w.heap.size w sb.w) := HB3.out.trans (sb.bel.mono HB3.out.size)
    by_cases d0 : y < 0
    case pos =>
      have vp0 := fun s : Since sb.w => Since.cell (up0 sb) s
      have vp1 := fun s : Since sb.w => Since.cell (up1 sb) s
      have vp2 := fun s : Since sb.w => Since.cell (up2 sb) s
      have vc0 := fun s : Since sb.w => Since.cell (uc0 sb) s
      have vc1 := fun s : Since sb.w => Since.cell (uc1 sb) s
      have vq0 := fun s : Since sb.w => Since.cell (uq0 sb) s
      have vq1 := fun s : Since sb.w => Since.cell (uq1 sb) s
      have vq2 := fun s : Since sb.w => Since.cell (uq2 sb) s
      refine wp_region_since (by kernel_rfl) (by kernel_rfl) ?_
      repeat (go_big_quiet_step (first
        | (go_at_call 12; exact Calls.since (chunk_c _ _ _ (by assumption) (by assumption) (by assumption) (by assumption) _))
        | (go_at_call 14; exact Calls.since (index_c _ _ _ (by assumption) (by assumption) (by assumption) (by assumption) _))
        | (go_at_call 16; exact Calls.since (cell_c _ _ _ _))))
      refine wpQuiet_nil ?_
      rintro _ ⟨sc, rfl⟩
      go_wp2
      go_ret
      exact ⟨rfl, HB4.out.trans (sc.bel.mono HB4.out.size)⟩
    by_cases d1 : 128 ≤ y
    case pos =>
      have vp0 := fun s : Since sb.w => Since.cell (up0 sb) s
      have vp1 := fun s : Since sb.w => Since.cell (up1 sb) s
      have vp2 := fun s : Since sb.w => Since.cell (up2 sb) s
      have vc0 := fun s : Since sb.w => Since.cell (uc0 sb) s
      have vc1 := fun s : Since sb.w => Since.cell (uc1 sb) s
      have vq0 := fun s : Since sb.w => Since.cell (uq0 sb) s
      have vq1 := fun s : Since sb.w => Since.cell (uq1 sb) s
      have vq2 := fun s : Since sb.w => Since.cell (uq2 sb) s
      refine wp_region_since (by kernel_rfl) (by kernel_rfl) ?_
      repeat (go_big_quiet_step (first
        | (go_at_call 12; exact Calls.since (chunk_c _ _ _ (by assumption) (by assumption) (by assumption) (by assumption) _))
        | (go_at_call 14; exact Calls.since (index_c _ _ _ (by assumption) (by assumption) (by assumption) (by assumption) _))
        | (go_at_call 16; exact Calls.since (cell_c _ _ _ _))))
      refine wpQuiet_nil ?_
      rintro _ ⟨sc, rfl⟩
      go_wp2
      go_ret
      exact ⟨rfl, HB4.out.trans (sc.bel.mono HB4.out.size)⟩
    have vp0 := fun s : Since sb.w => Since.cell (up0 sb) s
    have vp1 := fun s : Since sb.w => Since.cell (up1 sb) s
    have vp2 := fun s : Since sb.w => Since.cell (up2 sb) s
    have vc0 := fun s : Since sb.w => Since.cell (uc0 sb) s
    have vc1 := fun s : Since sb.w => Since.cell (uc1 sb) s
    have vq0 := fun s : Since sb.w => Since.cell (uq0 sb) s
    have vq1 := fun s : Since sb.w => Since.cell (uq1 sb) s
    have vq2 := fun s : Since sb.w => Since.cell (uq2 sb) s
    obtain ⟨g1, g2, g3⟩ := HK.out ⟨by omega, by omega⟩
    refine wp_region_since (by kernel_rfl) (by kernel_rfl) ?_
    repeat (go_big_quiet_step (first
      | (go_at_call 12; exact Calls.since (chunk_c _ _ _ (by assumption) (by assumption) (by assumption) (by assumption) _))
      | (go_at_call 14; exact Calls.since (index_c _ _ _ (by assumption) (by assumption) (by assumption) (by assumption) _))
      | (go_at_call 16; exact Calls.since (cell_c _ _ _ _))))
    refine wpQuiet_nil ?_
    rintro _ ⟨sc, rfl⟩
    go_wp2
    go_ret
    exact ⟨rfl, HB4.out.trans (sc.bel.mono HB4.out.size)⟩
  by_cases c4' : -1099511627776 ≤ cz
  case neg =>
    have up0 := fun s : Since sa.w => Since.cell (tp0 sa) s
    have up1 := fun s : Since sa.w => Since.cell (tp1 sa) s
    have up2 := fun s : Since sa.w => Since.cell (tp2 sa) s
    have uc0 := fun s : Since sa.w => Since.cell (tc0 sa) s
    have uc1 := fun s : Since sa.w => Since.cell (tc1 sa) s
    have uq0 := fun s : Since sa.w => Since.cell (tq0 sa) s
    have uq1 := fun s : Since sa.w => Since.cell (tq1 sa) s
    have uq2 := fun s : Since sa.w => Since.cell (tq2 sa) s
    refine wp_region_since (by kernel_rfl) (by kernel_rfl) ?_
    repeat (go_big_quiet_step (first
      | (go_at_call 12; exact Calls.since (chunk_c _ _ _ (by assumption) (by assumption) (by assumption) (by assumption) _))
      | (go_at_call 14; exact Calls.since (index_c _ _ _ (by assumption) (by assumption) (by assumption) (by assumption) _))))
    refine wpQuiet_nil ?_
    rintro _ ⟨sb, rfl⟩
    go_wp2_with fail
    have HB4 : Hid (Below w.heap.size w sb.w) := HB3.out.trans (sb.bel.mono HB3.out.size)
    by_cases d0 : y < 0
    case pos =>
      have vp0 := fun s : Since sb.w => Since.cell (up0 sb) s
      have vp1 := fun s : Since sb.w => Since.cell (up1 sb) s
      have vp2 := fun s : Since sb.w => Since.cell (up2 sb) s
      have vc0 := fun s : Since sb.w => Since.cell (uc0 sb) s
      have vc1 := fun s : Since sb.w => Since.cell (uc1 sb) s
      have vq0 := fun s : Since sb.w => Since.cell (uq0 sb) s
      have vq1 := fun s : Since sb.w => Since.cell (uq1 sb) s
      have vq2 := fun s : Since sb.w => Since.cell (uq2 sb) s
      refine wp_region_since (by kernel_rfl) (by kernel_rfl) ?_
      repeat (go_big_quiet_step (first
        | (go_at_call 12; exact Calls.since (chunk_c _ _ _ (by assumption) (by assumption) (by assumption) (by assumption) _))
        | (go_at_call 14; exact Calls.since (index_c _ _ _ (by assumption) (by assumption) (by assumption) (by assumption) _))
        | (go_at_call 16; exact Calls.since (cell_c _ _ _ _))))
      refine wpQuiet_nil ?_
      rintro _ ⟨sc, rfl⟩
      go_wp2
      go_ret
      exact ⟨rfl, HB4.out.trans (sc.bel.mono HB4.out.size)⟩
    by_cases d1 : 128 ≤ y
    case pos =>
      have vp0 := fun s : Since sb.w => Since.cell (up0 sb) s
      have vp1 := fun s : Since sb.w => Since.cell (up1 sb) s
      have vp2 := fun s : Since sb.w => Since.cell (up2 sb) s
      have vc0 := fun s : Since sb.w => Since.cell (uc0 sb) s
      have vc1 := fun s : Since sb.w => Since.cell (uc1 sb) s
      have vq0 := fun s : Since sb.w => Since.cell (uq0 sb) s
      have vq1 := fun s : Since sb.w => Since.cell (uq1 sb) s
      have vq2 := fun s : Since sb.w => Since.cell (uq2 sb) s
      refine wp_region_since (by kernel_rfl) (by kernel_rfl) ?_
      repeat (go_big_quiet_step (first
        | (go_at_call 12; exact Calls.since (chunk_c _ _ _ (by assumption) (by assumption) (by assumption) (by assumption) _))
        | (go_at_call 14; exact Calls.since (index_c _ _ _ (by assumption) (by assumption) (by assumption) (by assumption) _))
        | (go_at_call 16; exact Calls.since (cell_c _ _ _ _))))
      refine wpQuiet_nil ?_
      rintro _ ⟨sc, rfl⟩
      go_wp2
      go_ret
      exact ⟨rfl, HB4.out.trans (sc.bel.mono HB4.out.size)⟩
    have vp0 := fun s : Since sb.w => Since.cell (up0 sb) s
    have vp1 := fun s : Since sb.w => Since.cell (up1 sb) s
    have vp2 := fun s : Since sb.w => Since.cell (up2 sb) s
    have vc0 := fun s : Since sb.w => Since.cell (uc0 sb) s
    have vc1 := fun s : Since sb.w => Since.cell (uc1 sb) s
    have vq0 := fun s : Since sb.w => Since.cell (uq0 sb) s
    have vq1 := fun s : Since sb.w => Since.cell (uq1 sb) s
    have vq2 := fun s : Since sb.w => Since.cell (uq2 sb) s
    obtain ⟨g1, g2, g3⟩ := HK.out ⟨by omega, by omega⟩
    refine wp_region_since (by kernel_rfl) (by kernel_rfl) ?_
    repeat (go_big_quiet_step (first
      | (go_at_call 12; exact Calls.since (chunk_c _ _ _ (by assumption) (by assumption) (by assumption) (by assumption) _))
      | (go_at_call 14; exact Calls.since (index_c _ _ _ (by assumption) (by assumption) (by assumption) (by assumption) _))
      | (go_at_call 16; exact Calls.since (cell_c _ _ _ _))))
    refine wpQuiet_nil ?_
    rintro _ ⟨sc, rfl⟩
    go_wp2
    go_ret
    exact ⟨rfl, HB4.out.trans (sc.bel.mono HB4.out.size)⟩
  by_cases c5' : cz ≤ 1099511627776
  case neg =>
    have up0 := fun s : Since sa.w => Since.cell (tp0 sa) s
    have up1 := fun s : Since sa.w => Since.cell (tp1 sa) s
    have up2 := fun s : Since sa.w => Since.cell (tp2 sa) s
    have uc0 := fun s : Since sa.w => Since.cell (tc0 sa) s
    have uc1 := fun s : Since sa.w => Since.cell (tc1 sa) s
    have uq0 := fun s : Since sa.w => Since.cell (tq0 sa) s
    have uq1 := fun s : Since sa.w => Since.cell (tq1 sa) s
    have uq2 := fun s : Since sa.w => Since.cell (tq2 sa) s
    refine wp_region_since (by kernel_rfl) (by kernel_rfl) ?_
    repeat (go_big_quiet_step (first
      | (go_at_call 12; exact Calls.since (chunk_c _ _ _ (by assumption) (by assumption) (by assumption) (by assumption) _))
      | (go_at_call 14; exact Calls.since (index_c _ _ _ (by assumption) (by assumption) (by assumption) (by assumption) _))))
    refine wpQuiet_nil ?_
    rintro _ ⟨sb, rfl⟩
    go_wp2_with fail
    have HB4 : Hid (Below w.heap.size w sb.w) := HB3.out.trans (sb.bel.mono HB3.out.size)
    by_cases d0 : y < 0
    case pos =>
      have vp0 := fun s : Since sb.w => Since.cell (up0 sb) s
      have vp1 := fun s : Since sb.w => Since.cell (up1 sb) s
      have vp2 := fun s : Since sb.w => Since.cell (up2 sb) s
      have vc0 := fun s : Since sb.w => Since.cell (uc0 sb) s
      have vc1 := fun s : Since sb.w => Since.cell (uc1 sb) s
      have vq0 := fun s : Since sb.w => Since.cell (uq0 sb) s
      have vq1 := fun s : Since sb.w => Since.cell (uq1 sb) s
      have vq2 := fun s : Since sb.w => Since.cell (uq2 sb) s
      refine wp_region_since (by kernel_rfl) (by kernel_rfl) ?_
      repeat (go_big_quiet_step (first
        | (go_at_call 12; exact Calls.since (chunk_c _ _ _ (by assumption) (by assumption) (by assumption) (by assumption) _))
        | (go_at_call 14; exact Calls.since (index_c _ _ _ (by assumption) (by assumption) (by assumption) (by assumption) _))
        | (go_at_call 16; exact Calls.since (cell_c _ _ _ _))))
      refine wpQuiet_nil ?_
      rintro _ ⟨sc, rfl⟩
      go_wp2
      go_ret
      exact ⟨rfl, HB4.out.trans (sc.bel.mono HB4.out.size)⟩
    by_cases d1 : 128 ≤ y
    case pos =>
      have vp0 := fun s : Since sb.w => Since.cell (up0 sb) s
      have vp1 := fun s : Since sb.w => Since.cell (up1 sb) s
      have vp2 := fun s : Since sb.w => Since.cell (up2 sb) s
      have vc0 := fun s : Since sb.w => Since.cell (uc0 sb) s
      have vc1 := fun s : Since sb.w => Since.cell (uc1 sb) s
      have vq0 := fun s : Since sb.w => Since.cell (uq0 sb) s
      have vq1 := fun s : Since sb.w => Since.cell (uq1 sb) s
      have vq2 := fun s : Since sb.w => Since.cell (uq2 sb) s
      refine wp_region_since (by kernel_rfl) (by kernel_rfl) ?_
      repeat (go_big_quiet_step (first
        | (go_at_call 12; exact Calls.since (chunk_c _ _ _ (by assumption) (by assumption) (by assumption) (by assumption) _))
        | (go_at_call 14; exact Calls.since (index_c _ _ _ (by assumption) (by assumption) (by assumption) (by assumption) _))
        | (go_at_call 16; exact Calls.since (cell_c _ _ _ _))))
      refine wpQuiet_nil ?_
      rintro _ ⟨sc, rfl⟩
      go_wp2
      go_ret
      exact ⟨rfl, HB4.out.trans (sc.bel.mono HB4.out.size)⟩
    have vp0 := fun s : Since sb.w => Since.cell (up0 sb) s
    have vp1 := fun s : Since sb.w => Since.cell (up1 sb) s
    have vp2 := fun s : Since sb.w => Since.cell (up2 sb) s
    have vc0 := fun s : Since sb.w => Since.cell (uc0 sb) s
    have vc1 := fun s : Since sb.w => Since.cell (uc1 sb) s
    have vq0 := fun s : Since sb.w => Since.cell (uq0 sb) s
    have vq1 := fun s : Since sb.w => Since.cell (uq1 sb) s
    have vq2 := fun s : Since sb.w => Since.cell (uq2 sb) s
    obtain ⟨g1, g2, g3⟩ := HK.out ⟨by omega, by omega⟩
    refine wp_region_since (by kernel_rfl) (by kernel_rfl) ?_
    repeat (go_big_quiet_step (first
      | (go_at_call 12; exact Calls.since (chunk_c _ _ _ (by assumption) (by assumption) (by assumption) (by assumption) _))
      | (go_at_call 14; exact Calls.since (index_c _ _ _ (by assumption) (by assumption) (by assumption) (by assumption) _))
      | (go_at_call 16; exact Calls.since (cell_c _ _ _ _))))
    refine wpQuiet_nil ?_
    rintro _ ⟨sc, rfl⟩
    go_wp2
    go_ret
    exact ⟨rfl, HB4.out.trans (sc.bel.mono HB4.out.size)⟩
  have up0 := fun s : Since sa.w => Since.cell (tp0 sa) s
  have up1 := fun s : Since sa.w => Since.cell (tp1 sa) s
  have up2 := fun s : Since sa.w => Since.cell (tp2 sa) s
  have uc0 := fun s : Since sa.w => Since.cell (tc0 sa) s
  have uc1 := fun s : Since sa.w => Since.cell (tc1 sa) s
  have uq0 := fun s : Since sa.w => Since.cell (tq0 sa) s
  have uq1 := fun s : Since sa.w => Since.cell (tq1 sa) s
  have uq2 := fun s : Since sa.w => Since.cell (tq2 sa) s
  obtain ⟨g1, g2, g3⟩ := HJ.out ⟨c0', by omega⟩ ⟨c2', c3'⟩ ⟨c4', c5'⟩
  refine wp_region_since (by kernel_rfl) (by kernel_rfl) ?_
  repeat (go_big_quiet_step (first
    | (go_at_call 12; exact Calls.since (chunk_c _ _ _ (by assumption) (by assumption) (by assumption) (by assumption) _))
    | (go_at_call 14; exact Calls.since (index_c _ _ _ (by assumption) (by assumption) (by assumption) (by assumption) _))))
  refine wpQuiet_nil ?_
  rintro _ ⟨sb, rfl⟩
  go_wp2_with fail
  clear g1 g2 g3
  have HB4 : Hid (Below w.heap.size w sb.w) := HB3.out.trans (sb.bel.mono HB3.out.size)
  by_cases d0 : y < 0
  case pos =>
    have vp0 := fun s : Since sb.w => Since.cell (up0 sb) s
    have vp1 := fun s : Since sb.w => Since.cell (up1 sb) s
    have vp2 := fun s : Since sb.w => Since.cell (up2 sb) s
    have vc0 := fun s : Since sb.w => Since.cell (uc0 sb) s
    have vc1 := fun s : Since sb.w => Since.cell (uc1 sb) s
    have vq0 := fun s : Since sb.w => Since.cell (uq0 sb) s
    have vq1 := fun s : Since sb.w => Since.cell (uq1 sb) s
    have vq2 := fun s : Since sb.w => Since.cell (uq2 sb) s
    refine wp_region_since (by kernel_rfl) (by kernel_rfl) ?_
    repeat (go_big_quiet_step (first
      | (go_at_call 12; exact Calls.since (chunk_c _ _ _ (by assumption) (by assumption) (by assumption) (by assumption) _))
      | (go_at_call 14; exact Calls.since (index_c _ _ _ (by assumption) (by assumption) (by assumption) (by assumption) _))
      | (go_at_call 16; exact Calls.since (cell_c _ _ _ _))))
    refine wpQuiet_nil ?_
    rintro _ ⟨sc, rfl⟩
    go_wp2
    go_ret
    exact ⟨rfl, HB4.out.trans (sc.bel.mono HB4.out.size)⟩
  by_cases d1 : 128 ≤ y
  case pos =>
    have vp0 := fun s : Since sb.w => Since.cell (up0 sb) s
    have vp1 := fun s : Since sb.w => Since.cell (up1 sb) s
    have vp2 := fun s : Since sb.w => Since.cell (up2 sb) s
    have vc0 := fun s : Since sb.w => Since.cell (uc0 sb) s
    have vc1 := fun s : Since sb.w => Since.cell (uc1 sb) s
    have vq0 := fun s : Since sb.w => Since.cell (uq0 sb) s
    have vq1 := fun s : Since sb.w => Since.cell (uq1 sb) s
    have vq2 := fun s : Since sb.w => Since.cell (uq2 sb) s
    refine wp_region_since (by kernel_rfl) (by kernel_rfl) ?_
    repeat (go_big_quiet_step (first
      | (go_at_call 12; exact Calls.since (chunk_c _ _ _ (by assumption) (by assumption) (by assumption) (by assumption) _))
      | (go_at_call 14; exact Calls.since (index_c _ _ _ (by assumption) (by assumption) (by assumption) (by assumption) _))
      | (go_at_call 16; exact Calls.since (cell_c _ _ _ _))))
    refine wpQuiet_nil ?_
    rintro _ ⟨sc, rfl⟩
    go_wp2
    go_ret
    exact ⟨rfl, HB4.out.trans (sc.bel.mono HB4.out.size)⟩
  have vp0 := fun s : Since sb.w => Since.cell (up0 sb) s
  have vp1 := fun s : Since sb.w => Since.cell (up1 sb) s
  have vp2 := fun s : Since sb.w => Since.cell (up2 sb) s
  have vc0 := fun s : Since sb.w => Since.cell (uc0 sb) s
  have vc1 := fun s : Since sb.w => Since.cell (uc1 sb) s
  have vq0 := fun s : Since sb.w => Since.cell (uq0 sb) s
  have vq1 := fun s : Since sb.w => Since.cell (uq1 sb) s
  have vq2 := fun s : Since sb.w => Since.cell (uq2 sb) s
  obtain ⟨g1, g2, g3⟩ := HK.out ⟨by omega, by omega⟩
  refine wp_region_since (by kernel_rfl) (by kernel_rfl) ?_
  repeat (go_big_quiet_step (first
    | (go_at_call 12; exact Calls.since (chunk_c _ _ _ (by assumption) (by assumption) (by assumption) (by assumption) _))
    | (go_at_call 14; exact Calls.since (index_c _ _ _ (by assumption) (by assumption) (by assumption) (by assumption) _))
    | (go_at_call 16; exact Calls.since (cell_c _ _ _ _))))
  refine wpQuiet_nil ?_
  rintro _ ⟨sc, rfl⟩
  go_wp2
  go_ret
  exact ⟨rfl, HB4.out.trans (sc.bel.mono HB4.out.size)⟩

set_option maxRecDepth 100000 in
theorem gridBack_lifted (os : Os) (started : os.Started) (H : Type) (enc : TypeId × Value → H) :
    ReturnsInHanded {} Try.checked os 4 .any (Rows.gridBackSpec.pre6 enc Try.prog Try.f4 Rows.gridBackRow.domain false) (Rows.gridBackSpec.post enc Try.prog Try.f4 false true false false) := by
  refine returnsInHanded_of_change (C := Try.checked) own started (by kernel_rfl) Try.func4
    (ChangeSpec.witness6 (enc := enc) (C := Try.checked) false ⟨#[], #[.agg #[.int .i64 0, .int .i64 0, .int .i64 0], .agg #[.int .i64 0, .int .i64 0], .int .i64 0], []⟩ 8 (by kernel_rfl) (by kernel_rfl) (by kernel_rfl) (by kernel_rfl)) ?_
  intro W base args ds gs before hval0 hW _ _
  have hval : ∀ (j : Nat) t v, Try.f4.params[j]? = some t → args[j]? = some v → Value.okWide Try.prog W .any base t v := hval0
  have hW' := hW
  obtain ⟨p, q, hA0, hV, rfl, hfz, hnd⟩ := hW
  have hA : DataW.TrodAll enc Try.prog W 0 (fun _ => true) true Try.f4.params.toList args.toList ds p := hA0
  rw [Try.params4] at hA hval
  obtain ⟨v0, vs0, d0, ds0, p0, q0, hargs, rfl, rfl, h0, r0⟩ := trodAll_cons hA
  obtain ⟨v1, vs1, d1, ds1, p1, q1, rfl, rfl, rfl, h1, r1⟩ := trodAll_cons r0
  obtain ⟨v2, vs2, d2, ds2, p2, q2, rfl, rfl, rfl, h2, r2⟩ := trodAll_cons r1
  obtain ⟨rfl, rfl, rfl⟩ := trodAll_nil r2
  obtain rfl : args = #[v0, v1, v2] := by cases args; simp_all
  obtain ⟨rfl, rfl⟩ := trodVars_none hV
  have lt0 : ∀ x ∈ p0, x.block < W.heap.size := by obtain ⟨m, hm⟩ := h0; exact DataW.trod_lt m _ _ _ hm
  obtain ⟨x, y, z, rfl, B_x, B_y, B_z⟩ := open_pos (hval 0 23 v0 rfl rfl) h0
  have lt1 : ∀ x ∈ p1, x.block < W.heap.size := by obtain ⟨m, hm⟩ := h1; exact DataW.trod_lt m _ _ _ hm
  obtain ⟨cx, cz, rfl, B_cx, B_cz⟩ := open_at (hval 1 27 v1 rfl rfl) h1
  obtain ⟨i, rfl, rfl, rfl, w2⟩ := open_int Try.underlying3 (hval 2 3 v2 rfl rfl) h2
  have B_i := bd64 w2
  clear hA0 hval0
  refine (gridBack_any x y z cx cz i B_x B_z W).mono fun e W' ⟨he, bel⟩ => ?_
  subst he
  exact ⟨_, rfl, _, _, _, [], _, [], hW', trodAll_mk1 (shut_bool Try.underlying4 _), (trodAll_cons_mk (Below.trod laidOut (by kernel_rfl) (of_decide_eq_true (by kernel_rfl)) h0 bel lt0) (trodAll_cons_mk (Below.trod laidOut (by kernel_rfl) (of_decide_eq_true (by kernel_rfl)) h1 bel lt1) (trodAll_cons_mk (shut_int Try.underlying3 w2) trodAll_mk0))), rfl, bel.frame _, fun h => by cases h⟩

theorem gridBack_holds : Rows.GridBackSaid :=
  OpenClaim.holds_of_wide 4 Try.f4 rfl rfl rfl rfl rfl rfl rfl ⟨rfl, rfl, rfl, rfl, rfl⟩ rfl rfl rfl rfl rfl (by kernel_rfl) Try.func4 (by kernel_rfl)
    (of_decide_eq_true (by kernel_rfl)) (by unfold Func.isWrapper; rw [if_neg (of_decide_eq_false (by kernel_rfl))]; exact ⟨rfl, rfl⟩)
    (fun os started H enc _ => gridBack_lifted os started H enc)
#print axioms gridBack_holds
end Go.Proofs.Ytbodopfghejoiaa
