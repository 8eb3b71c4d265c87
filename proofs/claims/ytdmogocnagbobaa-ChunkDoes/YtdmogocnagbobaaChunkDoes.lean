/-
  ChunkDoesSaid is proved: for every slice of calls and all integers the statement ChunkDoes returns true, without any condition.
-/
import Derived.Test.YtdmogocnagbobaaGrow
import Derived.Deep.DeepCutAuto
namespace Go.Proofs.Ytdmogocnagbobaa
open Go.ChangeShapes Go.WideShapes Go.ChangeAt Go.RowKit

set_option maxRecDepth 100000 in
set_option maxHeartbeats 8000000 in
theorem chunkDoes_walk (p : Option Addr) (n cap : Nat) (l : List Op4) (i x z : Int) (w : World) (hO : Ops w p n l) :
    Calls Try.prog 3 #[.slice p n cap, .int .i64 i, .int .i64 x, .int .i64 z] w fun e w' => e = .returned (.bool true) ∧ Below w.heap.size w w' := by
  go_enter Try.func3, Try.ntmps3
  go_wp2_with fail
  refine (awake_c w).mono ?_
  rintro _ w1 ⟨rfl, hb1⟩
  go_wp2_with fail
  refine (plays_c p n cap l w1 (hO.on hb1)).mono ?_
  rintro _ w2 ⟨rfl, hC, hR, hb2⟩
  have R2 := hb1.trans (hb2.mono hb1.size)
  have hlen := playTo_length l (min n 400)
  have hkin := playTo_kinds l (min n 400)
  have hg : w.heap.size ≤ w1.heap.size := hb1.size
  have hgl : w1.heap.size < w2.heap.size := hC.lt
  have hrl : w1.heap.size + 1 < w2.heap.size := hR.lt
  generalize playTo l (min n 400) = cs at *
  clear hb1 hb2
  generalize w1.heap.size = g at *
  obtain ⟨V, hV⟩ : ∃ V, getC cs i = V := ⟨_, rfl⟩
  have HG : Hid (getC cs i = V) := hV
  clear hV
  go_upto_region 6 with fail
  go_cut [37] (fun v wc => v = .bool (decide (0 ≤ i ∧ i < 32768)) ∧ wc = w2)
  case first =>
    by_cases i0 : 0 ≤ i
    · by_cases i1 : i < 32768
      · go_wp2
        go_meet
        case rel => exact ⟨congrArg Value.bool (by simp; omega), rfl⟩
      · go_wp2
        go_meet
        case rel => exact ⟨congrArg Value.bool (by simp; omega), rfl⟩
    · go_wp2
      go_meet
      case rel => exact ⟨congrArg Value.bool (by simp; omega), rfl⟩
  case rest =>
  obtain ⟨rfl, hwc⟩ := hcut
  replace hwc := hwc.symm
  subst hwc
  go_upto_if 37 with fail
  go_cut [13] (fun v wx => v = .int .i64 V ∧ wx = w2)
  case first =>
    have hV := HG.out
    unfold getC at hV
    by_cases hi : 0 ≤ i ∧ i < 32768
    · rw [decide_eq_true hi]
      rw [if_pos hi] at hV
      obtain ⟨I, rfl⟩ := Int.eq_ofNat_of_zero_le hi.1
      have hI : I < 32768 := by omega
      have hc := hR.cell (k := I) (by omega)
      have hv := hkin.at I
      rw [Int.toNat_natCast] at hV
      rw [hV] at hc hv
      clear hV HG
      go_wp2
      go_meet
      case rel => exact ⟨rfl, rfl⟩
    · rw [decide_eq_false hi]
      rw [if_neg hi] at hV
      subst hV
      clear HG
      go_wp2
      go_meet
      case rel => exact ⟨rfl, rfl⟩
  case rest =>
  obtain ⟨rfl, hwc⟩ := hcut
  replace hwc := hwc.symm
  subst hwc
  go_wp2_with fail
  refine (counts_c g cs _ hC hlen hkin).mono ?_
  rintro _ w3 ⟨rfl, hN3, hb3⟩
  have hC3 := hC.below hb3 hgl
  have hR3 := hR.below hb3 hrl
  have R3 := R2.trans (hb3.mono R2.size)
  have hn3 := hN3.lt
  clear hb3 R2 hC hR
  generalize w2.heap.size = b1 at *
  go_wp2_with fail
  refine (rcounts_c (g + 1) cs _ hR3 hlen hkin).mono ?_
  rintro _ w4 ⟨rfl, hM4, hb4⟩
  have hN4 := hN3.below hb4 hn3
  have hC4 := hC3.below hb4 hC3.lt
  have hR4 := hR3.below hb4 hR3.lt
  have R4 := R3.trans (hb4.mono R3.size)
  clear hb4 R3 hC3 hR3 hN3
  generalize w3.heap.size = b2 at *
  go_wp2_with fail
  have hlc := cntTo_length cs 32768
  generalize cntTo cs 32768 = N at *
  go_loopw [16] (fun i wr => ∃ k : Nat, k ≤ 17 ∧ i = .int .i64 k ∧ B64k wr b1 3 N ∧ B64k wr b2 3 N ∧ Blk wr g 59 cs ∧ Blk wr (g + 1) 5 cs ∧ Below w.heap.size w wr) (fun i _ => 17 - (intOf i).toNat)
  case atStart => exact ⟨0, by omega, rfl, hN4, hM4, hC4, hR4, R4⟩
  case round =>
    obtain ⟨k, hk, rfl, hN5, hM5, hC5, hR5, R5⟩ := hrel
    clear hN4 hM4 hC4 hR4 R4
    by_cases hlt : k < 17
    · have c1 := hN5.cell (k := k) (by omega)
      have c2 := hM5.cell (k := k) (by omega)
      have hlt' : (k : Int) < 17 := by omega
      generalize N.getD k 0 = v at c1 c2
      go_wp2_with fail
      go_quiet (fail)
      go_wp2
      go_roundw
      case rel => exact ⟨k + 1, by omega, by go_num, hN5, hM5, hC5, hR5, below_drewN R5 _⟩
      case measure => simp [intOf]; omega
    · obtain rfl : k = 17 := by omega
      clear hN5 hM5
      have hg5 := hC5.lt
      have hr5 := hR5.lt
      go_wp2_with fail
      refine wp_region_held_drew (S := fun w' => Blk w' (g + 1) 5 cs) (by kernel_rfl) (by exact hR5) (fun hHeld => ?_)
      have hne : Nonempty (Sub (fun w' => Blk w' (g + 1) 5 cs)) := ⟨⟨_, hHeld⟩⟩
      have hcv : ∀ s : Sub (fun w' => Blk w' (g + 1) 5 cs), (convert 25 9 (.slice (some ⟨g + 1, 0, none⟩) 32768 32768)).run Try.prog s.w = .ok (.string (strOfNums cs)) s.w := fun s => Blk.conv s.ok hlen hkin
      refine take_step (i := 0) rfl (by kernel_rfl) (by kernel_rfl) (by kernel_rfl) (fun _ _ _ _ h => h) (by exact hHeld) (fun K hK => ?_)
      go_simp
      refine hK _ ?_
      clear hK K
      refine take_step (i := 1) rfl (by kernel_rfl) (by kernel_rfl) (by kernel_rfl) (fun _ _ _ _ h => h) (by exact hHeld) (fun K hK => ?_)
      go_simp
      refine hK _ ?_
      clear hK K
      refine take_step (i := 3) rfl (by kernel_rfl) (by kernel_rfl) (by kernel_rfl) (fun _ _ _ _ h => h) (by exact hHeld) (fun K hK => ?_)
      go_simp
      refine hK _ ?_
      clear hK K
      refine wpAnyH_ready (rs := [2]) (by kernel_rfl) (by simp) ?_
      refine AllReadyH.cons rfl (fun K hK => ?_) AllReadyH.nil
      go_simp
      refine (get_c g cs i _ (by exact hC5) hlen hkin).mono ?_
      rw [HG.out]
      rintro e _ ⟨rfl, rfl⟩
      refine hK.out _ _ (by exact hR5) (fun hHeld => ?_)
      clear hK K
      refine take_step (i := 4) rfl (by kernel_rfl) (by kernel_rfl) (by kernel_rfl) (fun _ _ _ _ h => h) (by exact hHeld) (fun K hK => ?_)
      go_simp
      refine hK _ ?_
      clear hK K
      refine take_step (i := 5) rfl (by kernel_rfl) (by kernel_rfl) (by kernel_rfl) (fun _ _ _ _ h => h) (by exact hHeld) (fun K hK => ?_)
      go_simp
      refine hK _ ?_
      clear hK K
      refine take_step (i := 6) rfl (by kernel_rfl) (by kernel_rfl) (by kernel_rfl) (fun _ _ _ _ h => h) (by exact hHeld) (fun K hK => ?_)
      go_simp
      refine hK _ ?_
      clear hK K
      refine take_step (i := 7) rfl (by kernel_rfl) (by kernel_rfl) (by kernel_rfl) (fun _ _ _ _ h => h) (by exact hHeld) (fun K hK => ?_)
      go_simp
      refine hK _ ?_
      clear hK K
      refine take_step (i := 8) rfl (by kernel_rfl) (by kernel_rfl) (by kernel_rfl) (fun _ _ _ _ h => h) (by exact hHeld) (fun K hK => ?_)
      go_simp
      refine hK _ ?_
      clear hK K
      refine take_step (i := 10) rfl (by kernel_rfl) (by kernel_rfl) (by kernel_rfl) (fun _ _ _ _ h => h) (by exact hHeld) (fun K hK => ?_)
      go_simp
      refine hK _ ?_
      clear hK K
      refine take_step (i := 11) rfl (by kernel_rfl) (by kernel_rfl) (by kernel_rfl) (fun _ _ _ _ h => h) (by exact hHeld) (fun K hK => ?_)
      go_simp
      refine hK _ ?_
      clear hK K
      refine take_step (i := 12) rfl (by kernel_rfl) (by kernel_rfl) (by kernel_rfl) (fun _ _ _ _ h => h) (by exact hHeld) (fun K hK => ?_)
      go_simp
      refine hK _ ?_
      clear hK K
      refine wpAnyH_ready (rs := [9]) (by kernel_rfl) (by simp) ?_
      refine AllReadyH.cons rfl (fun K hK => ?_) AllReadyH.nil
      go_simp
      refine (top_c g cs x z _ (by exact hC5) hlen).mono ?_
      rintro e _ ⟨rfl, rfl⟩
      refine hK.out _ _ (by exact hR5) (fun hHeld => ?_)
      clear hK K
      refine wpAnyH_ready (rs := [13]) (by kernel_rfl) (by simp) ?_
      refine AllReadyH.cons rfl (fun K hK => ?_) AllReadyH.nil
      go_simp
      refine (rtop_c (g + 1) cs x z _ (by exact hR5) hlen).mono ?_
      rintro e _ ⟨rfl, rfl⟩
      refine hK.out _ _ (by exact hR5) (fun hHeld => ?_)
      clear hK K
      refine take_step (i := 14) rfl (by kernel_rfl) (by kernel_rfl) (by kernel_rfl) (fun _ _ _ _ h => h) (by exact hHeld) (fun K hK => ?_)
      go_simp
      refine hK _ ?_
      clear hK K
      refine take_step (i := 15) rfl (by kernel_rfl) (by kernel_rfl) (by kernel_rfl) (fun _ _ _ _ h => h) (by exact hHeld) (fun K hK => ?_)
      go_simp
      refine hK _ ?_
      clear hK K
      refine take_step (i := 16) rfl (by kernel_rfl) (by kernel_rfl) (by kernel_rfl) (fun _ _ _ _ h => h) (by exact hHeld) (fun K hK => ?_)
      go_simp
      refine hK _ ?_
      clear hK K
      refine take_step (i := 17) rfl (by kernel_rfl) (by kernel_rfl) (by kernel_rfl) (fun _ _ _ _ h => h) (by exact hHeld) (fun K hK => ?_)
      go_simp
      refine hK _ ?_
      clear hK K
      refine take_step (i := 20) rfl (by kernel_rfl) (by kernel_rfl) (by kernel_rfl) (fun _ _ _ _ h => h) (by exact hHeld) (fun K hK => ?_)
      go_simp
      refine hK _ ?_
      clear hK K
      refine take_step (i := 21) rfl (by kernel_rfl) (by kernel_rfl) (by kernel_rfl) (fun _ _ _ _ h => h) (by exact hHeld) (fun K hK => ?_)
      go_simp
      refine hK _ ?_
      clear hK K
      refine wpAnyH_ready (rs := [18]) (by kernel_rfl) (by simp) ?_
      refine AllReadyH.cons rfl (fun K hK => ?_) AllReadyH.nil
      go_simp
      refine (bytes_c g cs _ (by exact hC5) hlen).mono ?_
      rintro e w6 ⟨rfl, hB6, hb6⟩
      have R6 := R5.drew.trans (hb6.mono R5.size)
      have hR6 : Blk w6 (g + 1) 5 cs := Blk.below (by exact hR5) hb6 (by exact hr5)
      have hB6' : Blk w6 wr.heap.size 5 cs := hB6
      clear hb6 hB6
      refine hK.out _ _ hR6 (fun hHeld => ?_)
      clear hK K
      refine wpAnyH_strong (S' := fun w' => Blk w' (g + 1) 5 cs ∧ Blk w' wr.heap.size 5 cs) (fun _ h => h.1) ?_
      replace hHeld := And.intro hR6 hB6'
      have hne : Nonempty (Sub (fun w' => Blk w' (g + 1) 5 cs ∧ Blk w' wr.heap.size 5 cs)) := ⟨⟨_, hHeld⟩⟩
      have hcw : ∀ s : Sub (fun w' => Blk w' (g + 1) 5 cs ∧ Blk w' wr.heap.size 5 cs), (convert 25 9 (.slice (some ⟨wr.heap.size, 0, none⟩) 32768 32768)).run Try.prog s.w = .ok (.string (strOfNums cs)) s.w := fun s => Blk.conv s.ok.2 hlen hkin
      refine take_step (i := 19) rfl (by kernel_rfl) (by kernel_rfl) (by kernel_rfl) (fun _ _ _ _ h => h) (by exact hHeld) (fun K hK => ?_)
      go_simp
      refine hK _ ?_
      clear hK K
      refine take_step (i := 22) rfl (by kernel_rfl) (by kernel_rfl) (by kernel_rfl) (fun _ _ _ _ h => h) (by exact hHeld) (fun K hK => ?_)
      go_simp
      refine hK _ ?_
      clear hK K
      refine take_step (i := 23) rfl (by kernel_rfl) (by kernel_rfl) (by kernel_rfl) (fun _ _ _ _ h => h) (by exact hHeld) (fun K hK => ?_)
      go_simp
      refine hK _ ?_
      clear hK K
      refine take_step (i := 24) rfl (by kernel_rfl) (by kernel_rfl) (by kernel_rfl) (fun _ _ _ _ h => h) (by exact hHeld) (fun K hK => ?_)
      go_simp
      refine hK _ ?_
      clear hK K
      refine wpAnyH_done (by kernel_rfl) ?_ _
      go_wp2
      go_ret
      exact ⟨rfl, R6⟩

set_option maxRecDepth 100000 in
theorem chunkDoes_lifted (os : Os) (started : os.Started) (H : Type) (enc : TypeId × Value → H) :
    ReturnsInHanded {} Try.checked os 3 .any (Rows.chunkDoesSpec.pre6 enc Try.prog Try.f3 Rows.chunkDoesRow.domain false) (Rows.chunkDoesSpec.post enc Try.prog Try.f3 false true false false) := by
  refine returnsInHanded_of_change (C := Try.checked) own started (by kernel_rfl) Try.func3
    (ChangeSpec.witness6 (enc := enc) (C := Try.checked) false ⟨#[], #[.slice none 0 0, .int .i64 0, .int .i64 0, .int .i64 0], []⟩ 8 (by kernel_rfl) (by kernel_rfl) (by kernel_rfl) (by kernel_rfl)) ?_
  intro W base args ds gs before hval0 hW _ _
  have hval : ∀ (j : Nat) t v, Try.f3.params[j]? = some t → args[j]? = some v → Value.okWide Try.prog W .any base t v := hval0
  have hW' := hW
  obtain ⟨p, q, hA0, hV, rfl, hfz, hnd⟩ := hW
  have hA : DataW.TrodAll enc Try.prog W 0 (fun _ => true) true Try.f3.params.toList args.toList ds p := hA0
  rw [Try.params3] at hA hval
  obtain ⟨v0, vs0, d0, ds0, p0, q0, hargs, rfl, rfl, h0, r0⟩ := trodAll_cons hA
  obtain ⟨v1, vs1, d1, ds1, p1, q1, rfl, rfl, rfl, h1, r1⟩ := trodAll_cons r0
  obtain ⟨v2, vs2, d2, ds2, p2, q2, rfl, rfl, rfl, h2, r2⟩ := trodAll_cons r1
  obtain ⟨v3, vs3, d3, ds3, p3, q3, rfl, rfl, rfl, h3, r3⟩ := trodAll_cons r2
  obtain ⟨rfl, rfl, rfl⟩ := trodAll_nil r3
  obtain rfl : args = #[v0, v1, v2, v3] := by cases args; simp_all
  obtain ⟨rfl, rfl⟩ := trodVars_none hV
  obtain ⟨a_l, len_l, cap_l, rfl⟩ := okWide_slice Try.underlying22 (hval 0 22 v0 rfl rfl)
  have lt0 : ∀ x ∈ p0, x.block < W.heap.size := by obtain ⟨m, hm⟩ := h0; exact DataW.trod_lt m _ _ _ hm
  obtain ⟨l_l, O_l⟩ := open_ops h0
  obtain ⟨i, rfl, rfl, rfl, w_i⟩ := open_int Try.underlying3 (hval 1 3 v1 rfl rfl) h1
  obtain ⟨x, rfl, rfl, rfl, w_x⟩ := open_int Try.underlying3 (hval 2 3 v2 rfl rfl) h2
  obtain ⟨z, rfl, rfl, rfl, w_z⟩ := open_int Try.underlying3 (hval 3 3 v3 rfl rfl) h3
  clear hA0 hval0
  refine (chunkDoes_walk a_l len_l cap_l l_l i x z W O_l).mono fun e W' ⟨he, bel⟩ => ?_
  subst he
  exact ⟨_, rfl, _, _, _, [], _, [], hW', trodAll_mk1 (shut_bool Try.underlying4 _), (trodAll_cons_mk (Below.trod laidOut (by kernel_rfl) (of_decide_eq_true (by kernel_rfl)) h0 bel lt0) (trodAll_cons_mk (shut_int Try.underlying3 w_i) (trodAll_cons_mk (shut_int Try.underlying3 w_x) (trodAll_cons_mk (shut_int Try.underlying3 w_z) trodAll_mk0)))), rfl, bel.frame _, fun h => by cases h⟩

theorem chunkDoes_holds : Rows.ChunkDoesSaid :=
  OpenClaim.holds_of_wide 3 Try.f3 rfl rfl rfl rfl rfl rfl rfl ⟨rfl, rfl, rfl, rfl, rfl⟩ rfl rfl rfl rfl rfl (by kernel_rfl) Try.func3 (by kernel_rfl)
    (of_decide_eq_true (by kernel_rfl)) (by unfold Func.isWrapper; rw [if_neg (of_decide_eq_false (by kernel_rfl))]; exact ⟨rfl, rfl⟩)
    (fun os started H enc _ => chunkDoes_lifted os started H enc)
#print axioms chunkDoes_holds
end Go.Proofs.Ytdmogocnagbobaa
