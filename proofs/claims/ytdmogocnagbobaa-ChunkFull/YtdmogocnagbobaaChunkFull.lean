/-
  ChunkFullSaid is proved: for every integer the statement ChunkFull returns true, without any condition.
-/
import Derived.Test.YtdmogocnagbobaaFrame
import Derived.Deep.RegionWith
namespace Go.Proofs.Ytdmogocnagbobaa
open Go.ChangeShapes Go.WideShapes Go.ChangeAt Go.RowKit

theorem Blk.conv {w : World} {g : Nat} {t : TypeId} {cs : List Int} (h : Blk w g t cs) (hl : cs.length = 32768) (hk : Kinds cs) : (convert 25 9 (.slice (some ⟨g, 0, none⟩) 32768 32768)).run Try.prog w = .ok (.string (strOfNums cs)) w := by
  have := conv_c (cap := 32768) (h.src hk)
  rwa [hl] at this
set_option maxRecDepth 100000 in
set_option maxHeartbeats 2000000 in
theorem chunkFull_walk (k : Int) (w : World) : Calls Try.prog 5 #[.int .i64 k] w fun e w' => e = .returned (.bool true) ∧ Below w.heap.size w w' := by
  by_cases k0 : k < 0
  · go_enter Try.func5, Try.ntmps5
    go_wp2_with fail
    refine (awake_c w).mono ?_
    rintro _ w1 ⟨rfl, hb1⟩
    go_wp2_with fail
    refine (full_no k (by omega) w1).mono ?_
    rintro _ w2 ⟨rfl, hb2⟩
    have R := hb1.trans (hb2.mono hb1.size)
    clear hb1 hb2
    go_wp2
    go_ret
    exact ⟨rfl, R⟩
  · by_cases k1 : 16 < k
    · go_enter Try.func5, Try.ntmps5
      go_wp2_with fail
      refine (awake_c w).mono ?_
      rintro _ w1 ⟨rfl, hb1⟩
      go_wp2_with fail
      refine (full_no k (by omega) w1).mono ?_
      rintro _ w2 ⟨rfl, hb2⟩
      have R := hb1.trans (hb2.mono hb1.size)
      clear hb1 hb2
      go_wp2
      go_ret
      exact ⟨rfl, R⟩
    · have hK : Kinds (List.replicate 32768 k) := fun x hx => by rw [List.eq_of_mem_replicate hx]; omega
      have hn := fun w => rnew_c k (by omega) (by omega) w
      have hf := full_yes k (by omega)
      obtain ⟨F, hFe⟩ : ∃ F, F = List.replicate 32768 k := ⟨_, rfl⟩
      rw [← hFe] at hK
      simp only [← hFe] at hn hf
      have hF : F.length = 32768 := by rw [hFe, List.length_replicate]
      clear hFe
      have Hn : Hid (∀ w, Calls Try.prog 20 #[.int .i64 k] w fun e w' => e = .returned (.slice (some ⟨w.heap.size, 0, none⟩) 32768 32768) ∧ Blk w' w.heap.size 5 F ∧ Below w.heap.size w w') := hn
      clear hn
      go_enter Try.func5, Try.ntmps5
      go_wp2_with fail
      refine (awake_c w).mono ?_
      rintro _ w1 ⟨rfl, hb1⟩
      go_wp2_with fail
      refine (hf w1).mono ?_
      clear hf
      rintro _ w2 ⟨rfl, hB2, hb2⟩
      have R2 := hb1.trans (hb2.mono hb1.size)
      have hg2 := hB2.lt
      generalize w1.heap.size = g at *
      clear hb1 hb2
      go_wp2_with fail
      go_region_with (first | (go_at_call 16; refine (bytes_c g F _ (by exact hB2) hF).mono ?_; rintro e w3 ⟨rfl, hB3, hb3⟩; have R3 := R2.drew.trans (hb3.mono R2.size); have v3 : (convert 25 9 (.slice (some ⟨w2.heap.size, 0, none⟩) 32768 32768)).run Try.prog w3 = .ok (.string (strOfNums F)) w3 := hB3.conv hF hK; clear hb3) | (go_at_call 20; refine (Hn.out _).mono ?_; rintro e w4 ⟨rfl, hB4, hb4⟩; have v4 : (convert 25 9 (.slice (some ⟨w3.heap.size, 0, none⟩) 32768 32768)).run Try.prog w4 = .ok (.string (strOfNums F)) w4 := hB4.conv hF hK; have v5 : (convert 25 9 (.slice (some ⟨w2.heap.size, 0, none⟩) 32768 32768)).run Try.prog w4 = .ok (.string (strOfNums F)) w4 := (Blk.below hB3 hb4 hB3.lt).conv hF hK; have R4 := R3.trans (hb4.mono R3.size)))
      all_goals (go_wp2; go_ret; exact ⟨rfl, R4⟩)

set_option maxRecDepth 100000 in
theorem chunkFull_lifted (os : Os) (started : os.Started) (H : Type) (enc : TypeId × Value → H) :
    ReturnsInHanded {} Try.checked os 5 .any (Rows.chunkFullSpec.pre6 enc Try.prog Try.f5 Rows.chunkFullRow.domain false) (Rows.chunkFullSpec.post enc Try.prog Try.f5 false true false false) := by
  refine returnsInHanded_of_change (C := Try.checked) own started (by kernel_rfl) Try.func5
    (ChangeSpec.witness6 (enc := enc) (C := Try.checked) false ⟨#[], #[.int .i64 0], []⟩ 8 (by kernel_rfl) (by kernel_rfl) (by kernel_rfl) (by kernel_rfl)) ?_
  intro W base args ds gs before hval0 hW _ _
  have hval : ∀ (j : Nat) t v, Try.f5.params[j]? = some t → args[j]? = some v → Value.okWide Try.prog W .any base t v := hval0
  have hW' := hW
  obtain ⟨p, q, hA0, hV, rfl, hfz, hnd⟩ := hW
  have hA : DataW.TrodAll enc Try.prog W 0 (fun _ => true) true Try.f5.params.toList args.toList ds p := hA0
  rw [Try.params5] at hA hval
  obtain ⟨v0, vs0, d0, ds0, p0, q0, hargs, rfl, rfl, h0, r0⟩ := trodAll_cons hA
  obtain ⟨rfl, rfl, rfl⟩ := trodAll_nil r0
  obtain rfl : args = #[v0] := by cases args; simp_all
  obtain ⟨rfl, rfl⟩ := trodVars_none hV
  obtain ⟨k, rfl, rfl, rfl, w_k⟩ := open_int Try.underlying3 (hval 0 3 v0 rfl rfl) h0
  clear hA0 hval0
  refine (chunkFull_walk k W).mono fun e W' ⟨he, bel⟩ => ?_
  subst he
  exact ⟨_, rfl, _, _, _, [], _, [], hW', trodAll_mk1 (shut_bool Try.underlying4 _), (trodAll_cons_mk (shut_int Try.underlying3 w_k) trodAll_mk0), rfl, bel.frame _, fun h => by cases h⟩

theorem chunkFull_holds : Rows.ChunkFullSaid :=
  OpenClaim.holds_of_wide 5 Try.f5 rfl rfl rfl rfl rfl rfl rfl ⟨rfl, rfl, rfl, rfl, rfl⟩ rfl rfl rfl rfl rfl (by kernel_rfl) Try.func5 (by kernel_rfl)
    (of_decide_eq_true (by kernel_rfl)) (by unfold Func.isWrapper; rw [if_neg (of_decide_eq_false (by kernel_rfl))]; exact ⟨rfl, rfl⟩)
    (fun os started H enc _ => chunkFull_lifted os started H enc)
#print axioms chunkFull_holds
end Go.Proofs.Ytdmogocnagbobaa
