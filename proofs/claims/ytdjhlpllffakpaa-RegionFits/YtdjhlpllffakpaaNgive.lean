/-
  The program's region: give, lay.
-/
import Derived.Test.YtdjhlpllffakpaaNwith
import Derived.Test.YtdjhlpllffakpaaNroom
set_option maxRecDepth 20000
namespace Go.Proofs.Ytdjhlpllffakpaa
open Go.RowKit

/-- Sectors for the slots that lack them, one after the other. -/
def giveS : List Bool → List Sm → Bool × List Sm
  | _, [] => (true, [])
  | T, s :: r => if needS s.b.length = s.m then ((giveS T r).1, s :: (giveS T r).2)
    else if (Q.tkS 2 T (needS s.b.length : Int)).2.1 = 0 then ((giveS (Q.tkS 2 T (needS s.b.length : Int)).2.2 r).1, ⟨(Q.tkS 2 T (needS s.b.length : Int)).1.toNat, needS s.b.length, s.a, s.c, s.b⟩ :: (giveS (Q.tkS 2 T (needS s.b.length : Int)).2.2 r).2)
    else (false, s :: r)
theorem tkS_nat (T : List Bool) (n : Int) (hT : T.length ≤ 4096) : ∃ i : Nat, i ≤ 4096 ∧ (Q.tkS 2 T n).1 = (i : Int) := by
  unfold Q.tkS
  split
  · exact ⟨0, by omega, rfl⟩
  · split
    · rename_i i hi
      refine ⟨i, ?_, rfl⟩
      unfold takeS at hi
      have := List.mem_of_find?_eq_some hi
      rw [List.mem_range'_1] at this
      omega
    · exact ⟨0, by omega, rfl⟩
theorem Chg.only {g : Nat} {w w' : World} (h : Only g w w') : Chg (fun k => k = g) w w' := ⟨h.os, h.tape, h.output, Nat.le_of_eq h.size.symm, fun k _ hk => h.block k hk⟩
theorem Chg.ofQ {F : Nat → Prop} {w w' : World} (h : Q.Chg F w w') : Chg F w w' := ⟨h.os, h.tape, h.output, h.size, h.block⟩
/-- Behind j slots. -/
structure Gi (w : World) (g : Nat) (x z : Int) (sl : List Sm) (T0 : List Bool) (sg tb j : Nat) (wr : World) : Prop where
  it : ∃ pre T, pre.length = j ∧ RB wr g x z (pre ++ sl.drop j) ∧ Q.PS wr sg tb 2 T ∧ giveS T0 sl = ((giveS T (sl.drop j)).1, pre ++ (giveS T (sl.drop j)).2)
  chg : Chg (fun k => k = g) w wr
set_option maxHeartbeats 1000000 in
theorem give_c (g : Nat) (x z : Int) (sl : List Sm) (w : World) (H : RB w g x z sl) (hI : ∀ s ∈ sl, s.f < 1000 ∧ s.m < 1000 ∧ s.b.length ≤ 2000) :
    Calls Try.prog 44 #[.pointer (some ⟨g, 0, none⟩)] w fun e w' => e = .returned (.bool (giveS (marks (List.replicate 40 false) (sl.map Sm.sp)) sl).1) ∧ RB w' g x z (giveS (marks (List.replicate 40 false) (sl.map Sm.sp)) sl).2 ∧ Chg (fun k => k = g) w w' := by
  obtain ⟨T0, hT0⟩ : ∃ T0, T0 = marks (List.replicate 40 false) (sl.map Sm.sp) := ⟨_, rfl⟩
  rw [← hT0]
  obtain ⟨Post, hPost⟩ : ∃ Post : Ending → World → Prop, Post = fun e w' => e = .returned (.bool (giveS T0 sl).1) ∧ RB w' g x z (giveS T0 sl).2 ∧ Chg (fun k => k = g) w w' := ⟨_, rfl⟩
  rw [← hPost]
  have HP : Hid (∀ b w', (giveS T0 sl).1 = b → RB w' g x z (giveS T0 sl).2 → Chg (fun k => k = g) w w' → Post (.returned (.bool b)) w') := fun b w' h1 h2 h3 => by rw [hPost]; exact ⟨by rw [h1], h2, h3⟩
  clear hPost
  have HB : Hid (RB w g x z sl) := H
  have HI : Hid (∀ s ∈ sl, s.f < 1000 ∧ s.m < 1000 ∧ s.b.length ≤ 2000) := hI
  have HT0 : Hid (T0 = marks (List.replicate 40 false) (sl.map Sm.sp)) := hT0
  have hgl := H.lt
  obtain ⟨Z, hZ⟩ : ∃ Z, Z = smvs sl := ⟨_, rfl⟩
  have HZ : Hid (Z = smvs sl) := hZ
  have Hn16 : Hid (sl.length = 16) := H.n
  clear H hI hT0 hZ
  go_enter Try.func44, Try.ntmps44
  go_wp2_with fail
  refine (room_c g x z sl w HB.out (fun s hs => ⟨(HI.out s hs).1, (HI.out s hs).2.1⟩)).mono ?_
  rintro _ w1 ⟨hb1, sg, tb, rfl, hsg, htb, hS⟩
  rw [← HT0.out] at hS
  have HB1 : Hid (RB w1 g x z sl) := HB.out.on hb1
  have HG0 : Hid (Gi w g x z sl T0 sg tb 0 w1) := ⟨⟨[], T0, rfl, HB1.out, hS, rfl⟩, Chg.of_below hb1⟩
  have Hsg : Hid (w.heap.size ≤ sg ∧ w.heap.size ≤ tb) := ⟨hsg, htb⟩
  clear hb1 hsg htb hS HB HT0
  go_wp2_with (refine wpList_load_mid rfl 71 (.tmp 13) rfl g 2 rfl Z _ (by rw [HZ.out]; exact HB1.out.range) Try.underlying71 rfl (by rw [HZ.out, smvs_len, Hn16.out]; exact size71) ?_)
  clear HB1
  go_loopw [15] (fun v wr => ∃ (j : Nat), j ≤ 16 ∧ v = .int .i64 (j : Int) ∧ Hid (Gi w g x z sl T0 sg tb j wr)) (fun v _ => 16 - (intOf v).toNat)
  case atStart => exact ⟨0, Nat.zero_le _, by go_num, HG0⟩
  case round =>
    clear HG0
    obtain ⟨j, hj, rfl, HG⟩ := hrel
    have hn := Hn16.out
    obtain ⟨pre, T, hpre, hB, hS, hE⟩ := HG.out.it
    have hC := HG.out.chg
    by_cases hlt : j < 16
    · have hlt' : (j : Int) < 16 := by omega
      have hjl : j < sl.length := by omega
      have hix := ix71 j hjl hn
      rw [← HZ.out] at hix
      have hdr : sl.drop j = sl[j] :: sl.drop (j + 1) := List.drop_eq_getElem_cons hjl
      rw [hdr] at hE hB
      obtain ⟨hF, hM, hL⟩ := HI.out sl[j] (List.getElem_mem _)
      obtain ⟨⟨F, M, A, C, bs⟩, hs⟩ : ∃ s, sl[j] = s := ⟨_, rfl⟩
      rw [hs] at hE hB hF hM hL hix
      simp only at hF hM hL hix
      obtain ⟨N, hN⟩ : ∃ N, N = bs.length := ⟨_, rfl⟩
      rw [← hN] at hL hix
      have Hb2 : Hid (Below wr.heap.size wr (wr.alloc (.cells #[.int .i64 (F : Int), .int .i64 (M : Int), .slice A N C] 70))) := (Below.refl _ _).alloc (Nat.le_refl _) _
      have hTl := hS.few
      have hneed : needS N < 100 := by unfold needS; omega
      by_cases hm : needS N = M
      · have hE2 : giveS T0 sl = ((giveS T (sl.drop (j + 1))).1, (pre ++ [⟨F, M, A, C, bs⟩]) ++ (giveS T (sl.drop (j + 1))).2) := by
          rw [hE, giveS, if_pos (by simp only; rw [← hN]; exact hm)]
          simp
        have HG2 : Hid (Gi w g x z sl T0 sg tb (j + 1) (wr.alloc (.cells #[.int .i64 (F : Int), .int .i64 (M : Int), .slice A N C] 70))) := ⟨⟨pre ++ [⟨F, M, A, C, bs⟩], T, by rw [List.length_append, hpre]; rfl, by rw [List.append_assoc]; exact hB.on Hb2.out, hS.on Hb2.out, hE2⟩, hC.trans (Chg.of_below (F := fun k => k = g) Hb2.out) (fun j h => .inl h)⟩
        clear HG hB hS hE hE2 hC HP hN hs hdr
        have x1 : (wr.alloc (.cells #[.int .i64 (F : Int), .int .i64 (M : Int), .slice A N C] 70)).cell? ⟨wr.heap.size, 1, none⟩ = some (.int .i64 (M : Int)) := by rw [cell_of_row _ _ _ _ 70 (0, 0) (heap_alloc_new wr _)]; rfl
        go_wp2_with fail
        generalize wr.alloc (.cells #[.int .i64 (F : Int), .int .i64 (M : Int), .slice A N C] 70) = w2 at *
        refine (need_n N (by omega) w2).mono ?_
        rintro _ w3 ⟨rfl, hw⟩
        replace hw := hw.symm
        subst hw
        rw [hm]
        go_wp2
        go_roundw
        case rel => exact ⟨j + 1, by omega, by go_num, HG2⟩
        case measure => simp [intOf]; omega
      · have hm' : ¬ (needS N : Int) = (M : Int) := by omega
        obtain ⟨R, hR⟩ : ∃ R, R = needS N := ⟨_, rfl⟩
        rw [← hR] at hm' hneed
        have hmb : ((R : Int) == (M : Int)) = false := by simpa using hm'
        obtain ⟨I, hI4, hI⟩ := tkS_nat T (R : Int) hTl
        have HS2 : Hid (Q.PS (wr.alloc (.cells #[.int .i64 (F : Int), .int .i64 (M : Int), .slice A N C] 70)) sg tb 2 T) := hS.on Hb2.out
        have HB2 : Hid (RB (wr.alloc (.cells #[.int .i64 (F : Int), .int .i64 (M : Int), .slice A N C] 70)) g x z (pre ++ ⟨F, M, A, C, bs⟩ :: sl.drop (j + 1))) := hB.on Hb2.out
        have HC2 : Hid (Chg (fun k => k = g) w (wr.alloc (.cells #[.int .i64 (F : Int), .int .i64 (M : Int), .slice A N C] 70))) := hC.trans (Chg.of_below (F := fun k => k = g) Hb2.out) (fun j h => .inl h)
        have HEy : Hid ((Q.tkS 2 T (R : Int)).2.1 = 0 → giveS T0 sl = ((giveS (Q.tkS 2 T (R : Int)).2.2 (sl.drop (j + 1))).1, (pre ++ [⟨I, R, A, C, bs⟩]) ++ (giveS (Q.tkS 2 T (R : Int)).2.2 (sl.drop (j + 1))).2)) := fun h0 => by
          rw [hE, giveS, if_neg (by simp only; rw [← hN]; exact hm), if_pos (by simp only; rw [← hN, ← hR]; exact h0)]
          simp only [← hN, ← hR, hI]
          simp
        have HEn : Hid (¬ (Q.tkS 2 T (R : Int)).2.1 = 0 → giveS T0 sl = (false, pre ++ ⟨F, M, A, C, bs⟩ :: sl.drop (j + 1))) := fun h0 => by
          rw [hE, giveS, if_neg (by simp only; rw [← hN]; exact hm), if_neg (by simp only; rw [← hN, ← hR]; exact h0)]
        have HR : Hid (R = needS N) := hR
        clear HG hB hS hE hC hN hs hdr hm hR
        have x1 : (wr.alloc (.cells #[.int .i64 (F : Int), .int .i64 (M : Int), .slice A N C] 70)).cell? ⟨wr.heap.size, 1, none⟩ = some (.int .i64 (M : Int)) := by rw [cell_of_row _ _ _ _ 70 (0, 0) (heap_alloc_new wr _)]; rfl
        go_wp2_with fail
        generalize wr.alloc (.cells #[.int .i64 (F : Int), .int .i64 (M : Int), .slice A N C] 70) = w2 at *
        refine (need_n N (by omega) w2).mono ?_
        rintro _ w3 ⟨rfl, hw⟩
        replace hw := hw.symm
        subst hw
        rw [← HR.out]
        go_wp2_with fail
        refine (Q.take_c sg tb 2 T (R : Int) ⟨by omega, by omega⟩ w2 HS2.out).mono ?_
        rintro _ w4 ⟨rfl, hS4, hC4⟩
        rw [hI]
        have htb : tb ≠ g := by have := Hsg.out.2; omega
        have hsg : sg ≠ g := by have := Hsg.out.1; omega
        have hB4 : RB w4 g x z (pre ++ ⟨F, M, A, C, bs⟩ :: sl.drop (j + 1)) := HB2.out.keep (hC4.block g HB2.out.lt (fun e => htb e.symm))
        have hC5 : Chg (fun k => k = g) w w4 := HC2.out.trans (Chg.ofQ hC4) (fun k hk => .inr (by rw [hk]; exact Hsg.out.2))
        by_cases h0 : (Q.tkS 2 T (R : Int)).2.1 = 0
        · have hE := HEy.out h0
          rw [h0]
          have hjp : j < (pre ++ ⟨F, M, A, C, bs⟩ :: sl.drop (j + 1)).length := by rw [hB4.n]; exact hlt
          have hgj : (pre ++ ⟨F, M, A, C, bs⟩ :: sl.drop (j + 1))[j] = ⟨F, M, A, C, bs⟩ := by rw [List.getElem_append_right (by omega)]; simp [hpre]
          have q0 := (hB4.cells j hjp).1
          have q1 := (hB4.cells j hjp).2.1
          rw [hgj] at q0 q1
          simp only at q0 q1
          have f0 := hB4.free (2 + j * 3)
          have f1 := hB4.free (2 + j * 3 + 1)
          have HG2 : Hid (Gi w g x z sl T0 sg tb (j + 1) ((w4.setCell ⟨g, 2 + j * 3, none⟩ (.int .i64 (I : Int))).setCell ⟨g, 2 + j * 3 + 1, none⟩ (.int .i64 (R : Int)))) := by
            have hb := hB4.setAt j I R hjp
            have hO : Only g w4 ((w4.setCell ⟨g, 2 + j * 3, none⟩ (.int .i64 (I : Int))).setCell ⟨g, 2 + j * 3 + 1, none⟩ (.int .i64 (R : Int))) := ((Only.refl g w4).set _ _).set _ _
            rw [hgj] at hb
            have e : (pre ++ ⟨F, M, A, C, bs⟩ :: sl.drop (j + 1)).set j ⟨I, R, A, C, bs⟩ = (pre ++ [⟨I, R, A, C, bs⟩]) ++ sl.drop (j + 1) := by
              rw [List.set_append_right _ _ (by omega), hpre, Nat.sub_self]
              simp
            simp only at hb
            rw [e] at hb
            exact ⟨⟨_, _, by rw [List.length_append, hpre]; rfl, hb, hS4.keep (hO.block sg hsg) (hO.block tb htb), hE⟩, hC5.trans (Chg.only hO) (fun k hk => .inl hk)⟩
          clear HEy HEn HS2 HB2 HC2 hS4 hC4 hB4 hC5 hE hgj hjp HP h0
          go_wp2
          go_roundw
          case rel => exact ⟨j + 1, by omega, by go_num, HG2⟩
          case measure => simp [intOf]; omega
        · have hE := HEn.out h0
          have R := HP.out false w4 (by rw [hE]) (by rw [hE]; exact hB4) hC5
          clear HEy HEn HS2 HB2 HC2 hS4 hC4 hB4 hC5 hE HP
          generalize (Q.tkS 2 T _).2.1 = ee at *
          go_wp2
          exact R
    · obtain rfl : j = 16 := by omega
      have hge : ¬ ((16 : Nat) : Int) < 16 := by omega
      have e0 : sl.drop 16 = [] := List.drop_of_length_le (by omega)
      rw [e0] at hE hB
      have R := HP.out true wr (by rw [hE]; rfl) (by rw [hE]; exact hB) hC
      clear HP HG hE hB hC hS
      go_wp2
      exact R
/-- All slots without sectors. -/
def dropAll (sl : List Sm) : List Sm := sl.map fun (s : Sm) => (⟨0, 0, s.a, s.c, s.b⟩ : Sm)
/-- What lay leaves. -/
def layF (sl : List Sm) : List Sm :=
  if (giveS (marks (List.replicate 40 false) (sl.map Sm.sp)) sl).1 then (giveS (marks (List.replicate 40 false) (sl.map Sm.sp)) sl).2
  else (giveS (marks (List.replicate 40 false) ((dropAll (giveS (marks (List.replicate 40 false) (sl.map Sm.sp)) sl).2).map Sm.sp)) (dropAll (giveS (marks (List.replicate 40 false) (sl.map Sm.sp)) sl).2)).2
theorem tkS_le (T : List Bool) (n : Int) (hT : T.length ≤ 40) : (Q.tkS 2 T n).1.toNat < 1000 ∧ (Q.tkS 2 T n).2.2.length ≤ 40 := by
  unfold Q.tkS
  split
  · exact ⟨by simp, hT⟩
  · split
    · rename_i i hi
      unfold takeS at hi
      have h1 := List.mem_of_find?_eq_some hi
      have h2 := List.find?_some hi
      rw [List.mem_range'_1] at h1
      simp only [Bool.and_eq_true, decide_eq_true_eq] at h2
      refine ⟨by simp only [Int.toNat_natCast]; omega, ?_⟩
      simp only
      rw [setS_len h2.1]
      exact hT
    · exact ⟨by simp, hT⟩
theorem giveS_small : ∀ (sl : List Sm) (T : List Bool), T.length ≤ 40 → (∀ s ∈ sl, s.f < 1000 ∧ s.m < 1000 ∧ s.b.length ≤ 2000) → ∀ s ∈ (giveS T sl).2, s.f < 1000 ∧ s.m < 1000 ∧ s.b.length ≤ 2000
  | [], _, _, _, s, hs => by simp [giveS] at hs
  | a :: r, T, hT, h, s, hs => by
    have ha := h a (by simp)
    have hr : ∀ s ∈ r, s.f < 1000 ∧ s.m < 1000 ∧ s.b.length ≤ 2000 := fun s hs => h s (List.mem_cons_of_mem _ hs)
    unfold giveS at hs
    split at hs
    · rcases List.mem_cons.1 hs with rfl | hs
      · exact ha
      · exact giveS_small r T hT hr s hs
    · split at hs
      · have hk := tkS_le T (needS a.b.length : Int) hT
        rcases List.mem_cons.1 hs with rfl | hs
        · refine ⟨hk.1, ?_, ha.2.2⟩
          simp only
          unfold needS
          omega
        · exact giveS_small r _ hk.2 hr s hs
      · exact h s hs
theorem marks_len : ∀ (l : List Sp) (T : List Bool), (marks T l).length = T.length
  | [], _ => rfl
  | s :: r, T => by rw [marks, marks_len r, Q.doS_len]
set_option maxHeartbeats 1000000 in
theorem lay_c (g : Nat) (x z : Int) (sl : List Sm) (w : World) (H : RB w g x z sl) (hI : ∀ s ∈ sl, s.f < 1000 ∧ s.m < 1000 ∧ s.b.length ≤ 2000) :
    Calls Try.prog 35 #[.pointer (some ⟨g, 0, none⟩)] w fun e w' => e = .returned (.tuple #[]) ∧ RB w' g x z (layF sl) ∧ Chg (fun k => k = g) w w' := by
  obtain ⟨Post, hPost⟩ : ∃ Post : Ending → World → Prop, Post = fun e w' => e = .returned (.tuple #[]) ∧ RB w' g x z (layF sl) ∧ Chg (fun k => k = g) w w' := ⟨_, rfl⟩
  rw [← hPost]
  have HP : Hid (∀ w', RB w' g x z (layF sl) → Chg (fun k => k = g) w w' → Post (.returned (.tuple #[])) w') := fun w' h2 h3 => by rw [hPost]; exact ⟨rfl, h2, h3⟩
  clear hPost
  have HB : Hid (RB w g x z sl) := H
  have HI : Hid (∀ s ∈ sl, s.f < 1000 ∧ s.m < 1000 ∧ s.b.length ≤ 2000) := hI
  have hgl := H.lt
  clear H hI
  go_enter Try.func35, Try.ntmps35
  go_wp2_with fail
  refine (give_c g x z sl w HB.out HI.out).mono ?_
  rintro _ w1 ⟨rfl, hB1, hC1⟩
  have Hsm : Hid (∀ s ∈ (giveS (marks (List.replicate 40 false) (sl.map Sm.sp)) sl).2, s.f < 1000 ∧ s.m < 1000 ∧ s.b.length ≤ 2000) := giveS_small sl _ (by rw [marks_len]; simp) HI.out
  cases hg1 : (giveS (marks (List.replicate 40 false) (sl.map Sm.sp)) sl).1 with
  | true =>
    have R := HP.out w1 (by unfold layF; rw [if_pos hg1]; exact hB1) hC1
    clear HP hB1 hC1 Hsm hg1
    go_wp2
    go_end0
    exact R
  | false =>
    have Hlay : Hid (layF sl = (giveS (marks (List.replicate 40 false) ((dropAll (giveS (marks (List.replicate 40 false) (sl.map Sm.sp)) sl).2).map Sm.sp)) (dropAll (giveS (marks (List.replicate 40 false) (sl.map Sm.sp)) sl).2)).2) := by show _ = _; unfold layF; rw [hg1]; rfl
    generalize (giveS (marks (List.replicate 40 false) (sl.map Sm.sp)) sl).2 = sm at *
    have HB1 : Hid (RB w1 g x z sm) := hB1
    have HC1 : Hid (Chg (fun k => k = g) w w1) := hC1
    clear hB1 hC1 hg1 HB
    go_wp2_with fail
    go_loopw [5] (fun v wr => ∃ (j : Nat), j ≤ 16 ∧ v = .int .i64 (j : Int) ∧ Hid (RB wr g x z ((dropAll sm).take j ++ sm.drop j)) ∧ Hid (Chg (fun k => k = g) w wr)) (fun v _ => 16 - (intOf v).toNat)
    case atStart => exact ⟨0, Nat.zero_le _, by go_num, HB1, HC1⟩
    case round =>
      have hn := HB1.out.n
      clear HB1 HC1
      obtain ⟨j, hj, rfl, HB, HC⟩ := hrel
      by_cases hlt : j < 16
      · have hlt' : (j : Int) < 16 := by omega
        have hjl : j < sm.length := by omega
        have hdl : (dropAll sm).length = 16 := by unfold dropAll; rw [List.length_map]; exact hn
        have hjp : j < ((dropAll sm).take j ++ sm.drop j).length := by rw [HB.out.n]; exact hlt
        have hgj : ((dropAll sm).take j ++ sm.drop j)[j] = sm[j] := by rw [List.getElem_append_right (by rw [List.length_take]; omega), List.getElem_drop]; congr 1; rw [List.length_take]; omega
        have q0 := (HB.out.cells j hjp).1
        have q1 := (HB.out.cells j hjp).2.1
        rw [hgj] at q0 q1
        have f0 := HB.out.free (2 + j * 3)
        have f1 := HB.out.free (2 + j * 3 + 1)
        have hb := HB.out.setAt j 0 0 hjp
        have hO : Only g wr ((wr.setCell ⟨g, 2 + j * 3, none⟩ (.int .i64 ((0 : Nat) : Int))).setCell ⟨g, 2 + j * 3 + 1, none⟩ (.int .i64 ((0 : Nat) : Int))) := ((Only.refl g wr).set _ _).set _ _
        rw [hgj] at hb
        have e : ((dropAll sm).take j ++ sm.drop j).set j ⟨0, 0, sm[j].a, sm[j].c, sm[j].b⟩ = (dropAll sm).take (j + 1) ++ sm.drop (j + 1) := by
          have hd : (dropAll sm)[j]'(by omega) = ⟨0, 0, sm[j].a, sm[j].c, sm[j].b⟩ := by simp [dropAll]
          rw [List.set_append_right _ _ (by rw [List.length_take]; omega), List.length_take, Nat.min_eq_left (by omega), Nat.sub_self, List.drop_eq_getElem_cons hjl, List.set_cons_zero, List.take_succ_eq_append_getElem (by omega), hd, List.append_assoc]
          rfl
        rw [e] at hb
        have HB2 : Hid (RB ((wr.setCell ⟨g, 2 + j * 3, none⟩ (.int .i64 0)).setCell ⟨g, 2 + j * 3 + 1, none⟩ (.int .i64 0)) g x z ((dropAll sm).take (j + 1) ++ sm.drop (j + 1))) := hb
        have HC2 : Hid (Chg (fun k => k = g) w ((wr.setCell ⟨g, 2 + j * 3, none⟩ (.int .i64 0)).setCell ⟨g, 2 + j * 3 + 1, none⟩ (.int .i64 0))) := HC.out.trans (Chg.only hO) (fun k hk => .inl hk)
        generalize sm[j].f = o0 at *
        generalize sm[j].m = o1 at *
        clear HP hb hO e hgj HB HC
        go_wp2
        go_roundw
        case rel => exact ⟨j + 1, by omega, by go_num, HB2, HC2⟩
        case measure => simp [intOf]; omega
      · obtain rfl : j = 16 := by omega
        have hge : ¬ ((16 : Nat) : Int) < 16 := by omega
        have HB3 : Hid (RB wr g x z (dropAll sm)) := by
          have := HB.out
          rwa [List.take_of_length_le (by unfold dropAll; rw [List.length_map]; omega), List.drop_of_length_le (by omega), List.append_nil] at this
        have Hs3 : Hid (∀ s ∈ dropAll sm, s.f < 1000 ∧ s.m < 1000 ∧ s.b.length ≤ 2000) := fun s hs => by
          unfold dropAll at hs
          obtain ⟨s', hs', rfl⟩ := List.mem_map.1 hs
          exact ⟨by simp, by simp, (Hsm.out s' hs').2.2⟩
        clear HB
        go_wp2_with fail
        refine (give_c g x z (dropAll sm) wr HB3.out Hs3.out).mono ?_
        rintro _ w5 ⟨rfl, hB5, hC5⟩
        have R := HP.out w5 (by rw [Hlay.out]; exact hB5) (HC.out.trans hC5 (fun k hk => .inl hk))
        clear HP hB5 hC5 HC Hlay HB3 Hs3
        generalize (giveS (marks (List.replicate 40 false) ((dropAll sm).map Sm.sp)) (dropAll sm)).1 = bb at *
        go_wp2
        go_end0
        exact R
end Go.Proofs.Ytdjhlpllffakpaa
