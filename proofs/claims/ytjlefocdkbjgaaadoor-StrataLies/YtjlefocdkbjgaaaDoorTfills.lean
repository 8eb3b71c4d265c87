/-
  Walk of StrataFills.
-/
import Derived.Test.YtjlefocdkbjgaaaDoorTawake
import Derived.Test.YtjlefocdkbjgaaaDoorTheld
import Derived.Deep.DeepCutAuto
set_option maxRecDepth 20000
namespace Go.Proofs.YtjlefocdkbjgaaaDoor
open C Go.RowKit

theorem sizeOf3 (w : World) : (sizeOf 3).run Tryd.prog w = .ok 1 w := by kernel_rfl
theorem cut_ints (b m : Nat) (h2 : m ≤ 256) : ∀ w, (Instr.sliceAt 25 (.slice (some ⟨b, 0, none⟩) 256 256) none (some (.int .i64 (m : Int))) none).run Tryd.prog w = .ok (.slice (some ⟨b, 0, none⟩) m 256) w := fun w => by
  rw [run_sliceAt_slice w 25 _ _ _ _ (by kernel_rfl), run_slice_h w 25 (some ⟨b, 0, none⟩) 256 256 (by kernel_rfl) .i64 m (by omega) (by omega), show Tryd.prog.elem 25 = 3 by kernel_rfl, sizeOf3, Result.andThen_ok, Int.toNat_natCast]
  unfold sliced
  rw [if_neg (by omega), Nat.sub_zero, Nat.sub_zero]
  rfl
theorem Blk.conv' {w : World} {g : Nat} {t : TypeId} {cs : List Int} (h : Blk w g t cs) (hl : cs.length = 32768) (hk : Kinds cs) : (convert 31 9 (.slice (some ⟨g, 0, none⟩) 32768 32768)).run Tryd.prog w = .ok (.string (strOfNums cs)) w := by
  have := conv_c (cap := 32768) (h.src hk)
  rwa [hl] at this

set_option maxRecDepth 100000 in
set_option maxHeartbeats 2000000 in
theorem strataFills_walk (J : TSpec) (a a' : Option Addr) (n n' c c' : Nat) (l l' : List Int) (less : Int) (w : World) (hl : IntsAt w a n l) (hl' : IntsAt w a' n' l') (hn : n ≤ 9223372036854775807) (hn' : n' ≤ 9223372036854775807) (hi : ∀ x ∈ l, I64 x) (hi' : ∀ x ∈ l', I64 x) (hless : I64 less) (hG : J.G w) :
    Calls Tryd.prog 4 #[.slice a n c, .slice a' n' c', .int .i64 less] w fun e w' => e = .returned (.bool true) ∧ Below w.heap.size w w' := by
  obtain ⟨s0, s1⟩ := hless
  go_enter Tryd.func4, Tryd.ntmps4
  go_wp2_with fail
  refine (awake_c J w hG).mono ?_
  rintro _ w1 ⟨rfl, hb1⟩
  have hG1 := J.on hG hb1
  go_wp2_with fail
  refine (columns_c a n c l 50 w1 (hl.on hb1) hn).mono ?_
  rintro _ w2 ⟨rfl, hB2, hb2⟩
  have R2 := hb1.trans (hb2.mono hb1.size)
  have hG2 := J.on hG1 hb2
  have hgl : w1.heap.size < w2.heap.size := hB2.lt
  go_wp2_with fail
  refine (columns_c a' n' c' l' 0 w2 ((hl'.on hb1).on hb2) hn').mono ?_
  rintro _ w3 ⟨rfl, hB3, hb3⟩
  have R3 := R2.trans (hb3.mono R2.size)
  have hG3 := J.on hG2 hb3
  have hB3' : IBlk w3 w1.heap.size (colL l 50) := (hb3.block w1.heap.size hgl).trans hB2
  have HH : Hid (IntsAt w3 (some ⟨w1.heap.size, 0, none⟩) 256 (colL l 50) ∧ (∀ x ∈ colL l 50, I64 x)) := ⟨hB3'.ints (colL_len l 50), colL_i64 hi (by unfold I64; omega)⟩
  have HB : Hid (IntsAt w3 (some ⟨w2.heap.size, 0, none⟩) 256 (colL l' 0) ∧ (∀ x ∈ colL l' 0, I64 x)) := ⟨hB3.ints (colL_len l' 0), colL_i64 hi' (by unfold I64; omega)⟩
  have HR3 : Hid (Below w.heap.size w w3) := R3
  have HG3 : Hid (J.G w3) := hG3
  clear hG hG1 hG2 hG3 hB2 hB3 hB3' hb1 hb2 hb3 R2 R3 hl hl' hi hi' hgl hn hn'
  generalize colL l 50 = H at *
  generalize colL l' 0 = B at *
  generalize w1.heap.size = gh at *
  generalize w2.heap.size = gb at *
  go_upto_region 4 with fail
  obtain ⟨T1, HT1⟩ : ∃ T1 : Bool, Hid (T1 = decide (0 < less ∧ less ≤ 256)) := ⟨_, rfl⟩
  go_cut [24] (fun v wc => v = .bool T1 ∧ wc = w3)
  case first =>
    by_cases h0 : 0 < less
    · by_cases h1 : less ≤ 256
      · have HQ : Hid (T1 = true) := HT1.out.trans (decide_eq_true ⟨h0, h1⟩)
        clear HT1 HH HB HR3 HG3
        go_wp2
        go_meet
        case rel => exact ⟨congrArg Value.bool HQ.out.symm, rfl⟩
      · have HQ : Hid (T1 = false) := HT1.out.trans (decide_eq_false (fun h => h1 h.2))
        have HQ2 : Hid (decide (less ≤ 256) = false) := decide_eq_false h1
        clear HT1 HH HB HR3 HG3
        go_wp2
        go_meet
        case rel => first | exact ⟨congrArg Value.bool HQ.out.symm, rfl⟩ | exact ⟨congrArg Value.bool (HQ2.out.trans HQ.out.symm), rfl⟩
    · have HQ : Hid (T1 = false) := HT1.out.trans (decide_eq_false (fun h => h0 h.1))
      clear HT1 HH HB HR3 HG3
      go_wp2
      go_meet
      case rel => exact ⟨congrArg Value.bool HQ.out.symm, rfl⟩
  case rest =>
  obtain ⟨rfl, hwc⟩ := hcut
  replace hwc := hwc.symm
  subst hwc
  go_upto_if 24 with fail
  go_cut [9] (fun v wc => wc = w3 ∧ ∃ M : Nat, v = .slice (some ⟨gb, 0, none⟩) M 256 ∧ M ≤ 256)
  case first =>
    rcases T1 with _ | _
    · clear HT1 HH HB HR3 HG3
      go_wp2
      go_meet
      case rel => exact ⟨rfl, 256, rfl, Nat.le_refl _⟩
    · have h := of_decide_eq_true HT1.out.symm
      obtain ⟨M, hM⟩ : ∃ M : Nat, 256 - less = (M : Int) := ⟨(256 - less).toNat, by omega⟩
      have HM : Hid (M ≤ 256) := by show M ≤ 256; omega
      have hsl := cut_ints gb M HM.out
      have hwM : IntKind.i64.wrap (M : Int) = (M : Int) := by rw [IntKind.wrap_i64]; omega
      have hwM2 : wrap64 (M : Int) = (M : Int) := by unfold wrap64; omega
      clear HT1 HH HB HR3 HG3 h
      go_wp2
      go_meet
      case rel => exact ⟨rfl, M, rfl, HM.out⟩
  case rest =>
  obtain ⟨hwc, M, rfl, hM⟩ := hcut
  replace hwc := hwc.symm
  subst hwc
  clear HT1
  have HB2 : Hid (IntsAt w3 (some ⟨gb, 0, none⟩) M (B.take M) ∧ (∀ x ∈ B.take M, I64 x)) := ⟨HB.out.1.take hM, fun x hx => HB.out.2 x (List.mem_of_mem_take hx)⟩
  clear HB
  generalize B.take M = B' at *
  go_wp2_with fail
  refine (J.fill_ (some ⟨gh, 0, none⟩) (some ⟨gb, 0, none⟩) 256 M 256 256 H B' w3 HH.out.1 HB2.out.1 (by omega) hM HH.out.2 HB2.out.2 HG3.out).mono ?_
  rintro e w4 ⟨hb4, hyes, hno⟩
  have HH4 : Hid (IntsAt w4 (some ⟨gh, 0, none⟩) 256 H) := HH.out.1.on hb4
  have HB4 : Hid (IntsAt w4 (some ⟨gb, 0, none⟩) M B') := HB2.out.1.on hb4
  have HR4 : Hid (Below w.heap.size w w4) := HR3.out.trans (hb4.mono HR3.out.size)
  clear hb4 HH HB2 HG3
  by_cases hok : okCols H B'
  · obtain ⟨g, rfl, hg⟩ := hyes hok
    have Hg : Hid (Blk w4 g 56 (fillN H B')) := hg
    clear hyes hno hg
    go_wp2_with fail
    refine (rfill_c (some ⟨gh, 0, none⟩) (some ⟨gb, 0, none⟩) 256 M 256 256 H B' w4 HH4.out HB4.out (by omega) hM).mono ?_
    rintro e w5 ⟨hb5, hyes, hno5⟩
    clear hno5
    obtain ⟨g', _, rfl, hg'⟩ := hyes hok
    have HR5 : Hid (Below w.heap.size w w5) := HR4.out.trans (hb5.mono HR4.out.size)
    have Hg5 : Hid (Blk w5 g 56 (fillN H B')) := Hg.out.below hb5 Hg.out.lt
    have Hg' : Hid (Blk w5 g' 5 (fillN H B')) := hg'
    have HF : Hid ((fillN H B').length = 32768 ∧ Kinds (fillN H B')) := ⟨fillN_len H B', fillN_bd H B'⟩
    clear hb5 hyes hg' Hg HR4 HH4 HB4 hok HR3
    generalize fillN H B' = F at *
    go_wp2_with fail
    refine region_L (fun w' => Blk w' g' 5 F) 10 (by kernel_rfl) ?_
    have HRd : Hid (Below w.heap.size w w5.drew) := HR5.out.drew
    have Hgd : Hid (Blk w5.drew g 56 F) := Hg5.out
    have hHeld : Blk w5.drew g' 5 F := Hg'.out
    clear HR5 Hg5 Hg'
    generalize w5.drew = va at *
    have hne : Nonempty (Sub (fun w' => Blk w' g' 5 F)) := ⟨⟨_, hHeld⟩⟩
    have hcw : ∀ s : Sub (fun w' => Blk w' g' 5 F), (convert 31 9 (.slice (some ⟨g', 0, none⟩) 32768 32768)).run Tryd.prog s.w = .ok (.string (strOfNums F)) s.w := fun s => Blk.conv' s.ok HF.out.1 HF.out.2
    obtain ⟨X, hX⟩ : ∃ X, X = strOfNums F := ⟨_, rfl⟩
    rw [← hX] at hcw
    have HX : Hid (X = strOfNums F) := hX
    clear hX
    refine take_L (i := 0) rfl (by kernel_rfl) (by kernel_rfl) (by kernel_rfl) (by kernel_rfl) (fun _ _ _ _ h => h) (by exact hHeld) (fun K hK => ?_)
    go_simp
    refine hK _ ?_
    clear hK K
    refine take_L (i := 1) rfl (by kernel_rfl) (by kernel_rfl) (by kernel_rfl) (by kernel_rfl) (fun _ _ _ _ h => h) (by exact hHeld) (fun K hK => ?_)
    go_simp
    refine hK _ ?_
    clear hK K
    refine take_L (i := 2) rfl (by kernel_rfl) (by kernel_rfl) (by kernel_rfl) (by kernel_rfl) (fun _ _ _ _ h => h) (by exact hHeld) (fun K hK => ?_)
    go_simp
    refine hK _ ?_
    clear hK K
    refine take_L (i := 3) rfl (by kernel_rfl) (by kernel_rfl) (by kernel_rfl) (by kernel_rfl) (fun _ _ _ _ h => h) (by exact hHeld) (fun K hK => ?_)
    go_simp
    refine hK _ ?_
    clear hK K
    refine take_L (i := 6) rfl (by kernel_rfl) (by kernel_rfl) (by kernel_rfl) (by kernel_rfl) (fun _ _ _ _ h => h) (by exact hHeld) (fun K hK => ?_)
    go_simp
    refine hK _ ?_
    clear hK K
    refine take_L (i := 7) rfl (by kernel_rfl) (by kernel_rfl) (by kernel_rfl) (by kernel_rfl) (fun _ _ _ _ h => h) (by exact hHeld) (fun K hK => ?_)
    go_simp
    refine hK _ ?_
    clear hK K
    refine one_L (i := 4) (by kernel_rfl) rfl (fun K hK => ?_)
    go_simp
    refine (bytes_c g F va Hgd.out HF.out.1).mono ?_
    rintro _ w6 ⟨rfl, hB6, hb6⟩
    have v6 : (convert 31 9 (.slice (some ⟨va.heap.size, 0, none⟩) 32768 32768)).run Tryd.prog w6 = .ok (.string X) w6 := by rw [HX.out]; exact Blk.conv' hB6 HF.out.1 HF.out.2
    have HR6 : Hid (Below w.heap.size w w6) := HRd.out.trans (hb6.mono HRd.out.size)
    replace hHeld : Blk w6 g' 5 F := Blk.below hHeld hb6 hHeld.lt
    refine hK.out _ _ (fun _ => hHeld) ?_
    clear hK K hB6 hb6 HRd Hgd hcw hne HX
    generalize va.heap.size = gv at *
    refine one_L (i := 5) (by kernel_rfl) rfl (fun K hK => ?_)
    go_simp
    refine hK.out _ _ (fun _ => hHeld) ?_
    clear hK K v6
    refine one_L (i := 8) (by kernel_rfl) rfl (fun K hK => ?_)
    go_simp
    refine hK.out _ _ (fun _ => hHeld) ?_
    clear hK K
    refine one_L (i := 9) (by kernel_rfl) rfl (fun K hK => ?_)
    go_simp
    refine hK.out _ _ (fun _ => hHeld) ?_
    clear hK K
    refine one_L (i := 10) (by kernel_rfl) rfl (fun K hK => ?_)
    go_simp
    refine hK.out _ _ (fun h => absurd rfl h) ?_
    clear hK K
    refine done_L (by kernel_rfl) ?_ _
    go_wp2
    go_ret
    exact ⟨rfl, HR6.out⟩
  · obtain rfl := hno hok
    clear hyes hno
    go_wp2_with fail
    refine (rfill_c (some ⟨gh, 0, none⟩) (some ⟨gb, 0, none⟩) 256 M 256 256 H B' w4 HH4.out HB4.out (by omega) hM).mono ?_
    rintro e w5 ⟨hb5, hyes, hno5⟩
    obtain rfl := hno5 hok
    have HR5 : Hid (Below w.heap.size w w5) := HR4.out.trans (hb5.mono HR4.out.size)
    clear hb5 hyes hno5 HR4 HH4 HB4 hok HR3
    go_wp2_with fail
    go_quiet (fail)
    go_wp2
    go_ret
    exact ⟨rfl, below_drewN HR5.out _⟩
end Go.Proofs.YtjlefocdkbjgaaaDoor