/-
  The landed overlay: Set, Final, Many.
-/
import Derived.Test.YthanmgejgmhccaaOc
import Derived.Test.YthanmgejgmhccaaLheld
import Derived.BigQuiet
import Derived.Deep.QuietTactic
set_option maxRecDepth 20000
namespace Go.Proofs.Ythanmgejgmhccaa
open C Go.RowKit Go.Shelf

theorem Ov.drewN {B : Nat} {w : World} {o e g : Nat} {E G : List Int} {d : Bool} (h : Ov B w o e g E G d) (n : Nat) : Ov B (w.drewN n) o e g E G d := ⟨h.hd, h.eb, h.gb, h.sp, h.ne, h.bo, h.be, h.bg⟩
theorem Only2.drewN (o e : Nat) (w : World) (n : Nat) : Only2 o e w (w.drewN n) := ⟨rfl, rfl, rfl, rfl, fun _ _ _ => rfl⟩
theorem Ov.put {B : Nat} {w w' : World} {o e g : Nat} {E E' G : List Int} {d : Bool} (h : Ov B w o e g E G d) (hB : Blk w' e 67 E') (ho : Only e w w') (hs : Sp E' G) : Ov B w' o e g E' G d :=
  ⟨(ho.block o h.oe).trans h.hd, hB, h.gb.only ho (Ne.symm h.ne), hs, h.ne, h.bo, h.be, h.bg⟩
theorem getC_out {l : List Int} {i : Int} (h : ¬ (0 ≤ i ∧ i < 32768)) : getC l i = -1 := if_neg h
/-- What Set answers, and what it leaves. -/
def SetSay (B o e g : Nat) (E G : List Int) (d : Bool) (i k : Int) (w : World) (r : Ending) (w' : World) : Prop := r = .returned (.int .i64 (codeO i k)) ∧ Ov B w' o e g (setE E G i k) G (setD E G d i k) ∧ Only2 o e w w'
set_option maxHeartbeats 2000000 in
theorem set_o {B : Nat} {o e g : Nat} {E G : List Int} {d : Bool} {w : World} (h : Ov B w o e g E G d) (i k : Int) : Calls Try.prog 11 #[.pointer (some ⟨o, 0, none⟩), .int .i64 i, .int .i64 k] w (SetSay B o e g E G d i k w) := by
  obtain ⟨Post, hPost⟩ : ∃ Post : Ending → World → Prop, Post = SetSay B o e g E G d i k w := ⟨_, rfl⟩
  rw [← hPost]
  have HP : Hid (∀ c w', codeO i k = c → Ov B w' o e g (setE E G i k) G (setD E G d i k) → Only2 o e w w' → Post (.returned (.int .i64 c)) w') := fun c w' h1 h2 h3 => by rw [hPost, ← h1]; exact ⟨rfl, h2, h3⟩
  clear hPost
  have HO : Hid (Ov B w o e g E G d) := h
  have c0 := h.c0
  have c1 := h.c1
  have hg1 : ∀ n, Calls Try.prog 13 #[.pointer (some ⟨o, 0, none⟩), .int .i64 i] (w.drewN n) fun r w' => r = .returned (.int .i64 (getO E G i)) ∧ w' = w.drewN n := fun n => get_o (h.drewN n) i
  have hg2 : ∀ n, Calls Try.prog 29 #[.pointer (some ⟨g, 0, none⟩), .int .i64 i] (w.drewN n) fun r w' => r = .returned (.int .i64 (getC G i)) ∧ w' = w.drewN n := fun n => get_c g G i _ (h.gb.drewN n) h.sp.gl h.sp.gk
  have hbk := fun w => block_c k w
  clear h
  by_cases hin : 0 ≤ i ∧ i < 32768
  · have hv : getC G i = G.getD i.toNat 0 := if_pos hin
    have b := HO.out.sp.gk.at i.toNat
    rw [← hv] at b
    obtain ⟨V, hV⟩ : ∃ V, getC G i = V := ⟨_, rfl⟩
    obtain ⟨U, hU⟩ : ∃ U, getO E G i = U := ⟨_, rfl⟩
    rw [hV] at b
    rw [hV] at hg2
    rw [hU] at hg1
    have HVU : Hid (G.getD i.toNat 0 = V ∧ getO E G i = U) := ⟨by rw [← hv]; exact hV, hU⟩
    clear hv hV hU
    have b0 : ¬ V < 0 := by omega
    clear b
    by_cases hk : 0 ≤ k ∧ k < 16
    · have e1 : isB k = true := decide_eq_true hk
      rw [e1] at hbk
      clear e1
      have HIn : Hid ((0 ≤ i ∧ i < 32768) ∧ 0 ≤ k ∧ k < 16) := ⟨hin, hk⟩
      have hc : codeO i k = 0 := by unfold codeO; rw [if_pos hin, if_pos hk]
      have HP0 : Hid (∀ w', Ov B w' o e g (setE E G i k) G (setD E G d i k) → Only2 o e w w' → Post (.returned (.int .i64 0)) w') := fun w' h1 h2 => HP.out 0 w' hc h1 h2
      clear HP hc hk hin
      by_cases hU : k = U
      · subst hU
        have R : ∀ n, Post (.returned (.int .i64 0)) (w.drewN n) := fun n => HP0.out _ (by
          have e1 := setE_still HO.out.sp HVU.out.2
          have e2 : setD E G d i k = d := by
            unfold setD
            rw [decide_eq_false (fun q => q.2 HVU.out.2), Bool.or_false]
          rw [e1, e2]
          exact HO.out.drewN n) (Only2.drewN _ _ _ _)
        clear HP0 HVU HIn
        go_enter Try.func11, Try.ntmps11
        go_wp2_with fail
        go_quiet (first | (go_at_call 13; refine Calls.quiet_of_same (hg1 _)) | (go_at_call 29; refine Calls.quiet_of_same (hg2 _)))
        clear hg1 hg2
        go_wp2_with fail
        refine (hbk _).mono ?_
        clear hbk
        rintro _ w1 ⟨rfl, hw⟩
        subst hw
        go_wp2
        exact R _
      · have hU' : decide (k = U) = false := decide_eq_false hU
        have hU2 : (k == U) = false := by simp [hU]
        have e2 : setD E G d i k = true := by
          unfold setD
          rw [decide_eq_true ⟨⟨HIn.out.1.1, HIn.out.1.2, HIn.out.2⟩, fun q => hU (q.symm.trans HVU.out.2)⟩, Bool.or_true]
        have hse : setE E G i k = E.set i.toNat (newK G i.toNat k) := if_pos ⟨HIn.out.1.1, HIn.out.1.2, HIn.out.2⟩
        have HS : Hid (∀ n K w1, newK G i.toNat k = K → Blk w1 e 67 (setC E i K) → Only e (w.drewN n) w1 → Post (.returned (.int .i64 0)) (w1.setCell ⟨o, 2, none⟩ (.bool true))) := fun n K w1 hK hB1 ho => by
          have hK2 := newK_kind G i.toNat HIn.out.2.1 HIn.out.2.2
          rw [hK] at hK2
          have hB2 : Blk w1 e 67 (setE E G i k) := by
            rw [hse, hK]
            rw [(okSet_yes (i := i) (k := K) ⟨HIn.out.1.1, HIn.out.1.2, hK2⟩ E).2] at hB1
            exact hB1
          have h1 := (HO.out.drewN n).put hB2 ho (HO.out.sp.set i k)
          refine HP0.out _ ?_ (((Only2.drewN o e w n).of ho).set 2 _)
          rw [e2]
          exact h1.setd true
        have HF : Hid (∀ n w1, Only e (w.drewN n) w1 → w1.cell? ⟨o, 2, none⟩ = some (.bool d) ∧ w1.frozen? ⟨o, 2, none⟩ = false) := fun n w1 ho => by
          have hd : w1.heap[o]? = some (.cells #[.pointer (some ⟨e, 0, none⟩), .pointer (some ⟨g, 0, none⟩), .bool d] 53 (0, 0)) := (ho.block o HO.out.oe).trans HO.out.hd
          exact ⟨by rw [cell_of_row w1 o 2 _ 53 (0, 0) hd]; rfl, frozen_of_row w1 o 2 _ 53 hd⟩
        clear e2 hse HP0
        by_cases hVk : k = V
        · subst hVk
          have hst : ∀ n, Calls Try.prog 31 #[.pointer (some ⟨e, 0, none⟩), .int .i64 i, .int .i64 16] (w.drewN n) fun r w' => r = .returned (.bool (okSet i 16)) ∧ Blk w' e 67 (setC E i 16) ∧ Only e (w.drewN n) w' := fun n => set_c e E i 16 _ (HO.out.eb.drewN n) HO.out.sp.el
          have hnk : newK G i.toNat k = 16 := if_pos HVU.out.1.symm
          have HS2 : Hid (∀ n w1, Blk w1 e 67 (setC E i 16) → Only e (w.drewN n) w1 → Post (.returned (.int .i64 0)) (w1.setCell ⟨o, 2, none⟩ (.bool true))) := fun n w1 h1 h2 => HS.out n 16 w1 hnk h1 h2
          clear HS HVU HIn HO hnk
          go_enter Try.func11, Try.ntmps11
          go_wp2_with fail
          go_quiet (first | (go_at_call 13; refine Calls.quiet_of_same (hg1 _)) | (go_at_call 29; refine Calls.quiet_of_same (hg2 _)))
          clear hg1 hg2
          go_wp2_with fail
          refine (hbk _).mono ?_
          clear hbk
          rintro _ w1 ⟨rfl, hw⟩
          subst hw
          go_wp2_with fail
          refine (hst _).mono ?_
          clear hst
          rintro _ w1 ⟨rfl, hB1, ho1⟩
          obtain ⟨q1, q2⟩ := HF.out _ w1 ho1
          have R := HS2.out _ w1 hB1 ho1
          clear hB1 ho1 HF HS2 c0 c1
          go_wp2
          exact R
        · have hV2 : (k == V) = false := by simp [hVk]
          have hV' : decide (k = V) = false := decide_eq_false hVk
          have hst : ∀ n, Calls Try.prog 31 #[.pointer (some ⟨e, 0, none⟩), .int .i64 i, .int .i64 k] (w.drewN n) fun r w' => r = .returned (.bool (okSet i k)) ∧ Blk w' e 67 (setC E i k) ∧ Only e (w.drewN n) w' := fun n => set_c e E i k _ (HO.out.eb.drewN n) HO.out.sp.el
          have hnk : newK G i.toNat k = k := if_neg (fun q => hVk (q.trans HVU.out.1))
          have HS2 : Hid (∀ n w1, Blk w1 e 67 (setC E i k) → Only e (w.drewN n) w1 → Post (.returned (.int .i64 0)) (w1.setCell ⟨o, 2, none⟩ (.bool true))) := fun n w1 h1 h2 => HS.out n k w1 hnk h1 h2
          clear HS HVU HIn HO hnk
          go_enter Try.func11, Try.ntmps11
          go_wp2_with fail
          go_quiet (first | (go_at_call 13; refine Calls.quiet_of_same (hg1 _)) | (go_at_call 29; refine Calls.quiet_of_same (hg2 _)))
          clear hg1 hg2
          go_wp2_with fail
          refine (hbk _).mono ?_
          clear hbk
          rintro _ w1 ⟨rfl, hw⟩
          subst hw
          go_wp2_with fail
          refine (hst _).mono ?_
          clear hst
          rintro _ w1 ⟨rfl, hB1, ho1⟩
          obtain ⟨q1, q2⟩ := HF.out _ w1 ho1
          have R := HS2.out _ w1 hB1 ho1
          clear hB1 ho1 HF HS2 c0 c1
          go_wp2
          exact R
    · have e1 : isB k = false := decide_eq_false hk
      rw [e1] at hbk
      have hc : codeO i k = 10 := by unfold codeO; rw [if_pos hin, if_neg hk]
      have R : ∀ n, Post (.returned (.int .i64 10)) (w.drewN n) := fun n => HP.out 10 _ hc (by
        have e1 : setE E G i k = E := if_neg (fun q => hk q.2.2)
        have e2 : setD E G d i k = d := by
          unfold setD
          rw [decide_eq_false (fun q => hk q.1.2.2), Bool.or_false]
        rw [e1, e2]
        exact HO.out.drewN n) (Only2.drewN _ _ _ _)
      clear HP HVU hc hin hk e1
      go_enter Try.func11, Try.ntmps11
      go_wp2_with fail
      go_quiet (first | (go_at_call 13; refine Calls.quiet_of_same (hg1 _)) | (go_at_call 29; refine Calls.quiet_of_same (hg2 _)))
      clear hg1 hg2
      go_wp2_with fail
      refine (hbk _).mono ?_
      clear hbk
      rintro _ w1 ⟨rfl, hw⟩
      subst hw
      go_wp2
      exact R _
  · rw [getC_out hin] at hg2
    have hc : codeO i k = 1 := if_neg hin
    have R : ∀ n, Post (.returned (.int .i64 1)) (w.drewN n) := fun n => HP.out 1 _ hc (by
      have e1 : setE E G i k = E := if_neg (fun q => hin ⟨q.1, q.2.1⟩)
      have e2 : setD E G d i k = d := by
        unfold setD
        rw [decide_eq_false (fun q => hin ⟨q.1.1, q.1.2.1⟩), Bool.or_false]
      rw [e1, e2]
      exact HO.out.drewN n) (Only2.drewN _ _ _ _)
    clear HP hc hin hbk
    go_enter Try.func11, Try.ntmps11
    go_wp2_with fail
    go_quiet (first | (go_at_call 13; refine Calls.quiet_of_same (hg1 _)) | (go_at_call 29; refine Calls.quiet_of_same (hg2 _)))
    clear hg1 hg2
    go_wp2
    exact R _
end Go.Proofs.Ythanmgejgmhccaa
