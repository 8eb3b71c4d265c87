/-
  RegionLets, walked over any region that keeps what is asked.
-/
import Derived.Test.YtdjhlpllffakpaaGneeds
set_option maxRecDepth 20000
namespace Go.Proofs.Ytdjhlpllffakpaa
open Go.RowKit

theorem sp_need {sp : List Sp} {dat : List (List Int)} (H : GoodR sp dat) (k : Nat) (h : k < sp.length) (h' : k < dat.length) : sp[k].2 = needS dat[k].length := by
  rcases H.ok k h h' with h | h
  · rw [h.1, h.2]; decide
  · exact h.2.1
theorem sp_sum {sp : List Sp} {dat : List (List Int)} (H : GoodR sp dat) : (sp.map (·.2)).sum = needAll dat := by
  unfold needAll
  congr 1
  apply List.ext_getElem
  · rw [List.length_map, List.length_map, H.n, H.m]
  · intro k h1 h2
    rw [List.getElem_map, List.getElem_map]
    exact sp_need H k (by simpa using h1) (by simpa using h2)
theorem need_room {sp : List Sp} {dat : List (List Int)} (H : GoodR sp dat) : roomS (freeR sp) + needAll dat = 38 := by
  rw [← sp_sum H]
  exact room_free H
theorem plan_let {sp : List Sp} {dat : List (List Int)} (H : GoodR sp dat) (s : Nat) (hs : s < 16) : planS dat [⟨(s : Int), []⟩] = (0, dat.set s []) := by
  rw [plan_one dat s hs []]
  have h1 := needAll_set dat s (by rw [H.m]; exact hs) []
  have h2 := need_room H
  have h3 : needS ([] : List Int).length = 0 := by decide
  rw [if_pos (by omega)]
def roomTo (l : List Sp) (k : Nat) : Nat := roomS (l.take k)
theorem roomTo_next (l : List Sp) (k : Nat) (h : k < l.length) : roomTo l (k + 1) = roomTo l k + l[k].2 := by
  unfold roomTo roomS
  rw [List.take_succ_eq_append_getElem h, List.map_append, List.sum_append]
  simp
theorem roomTo_le (l : List Sp) (k : Nat) : roomTo l k ≤ roomS l := by
  unfold roomTo roomS
  conv => rhs; rw [← List.take_append_drop k l, List.map_append, List.sum_append]
  omega
theorem roomTo_all (l : List Sp) (k : Nat) (h : l.length ≤ k) : roomTo l k = roomS l := by unfold roomTo; rw [List.take_of_length_le h]
theorem rfree (J : RSpec) {Fd : Nat → Prop} {w : World} {g : Nat} {ρ : Rho} (hR : Rn J Fd w g ρ) : Calls Try.prog 23 #[.pointer (some ⟨g, 0, none⟩)] w fun e w' => Below w.heap.size w w' ∧ ∃ a c, e = .returned (.slice a (freeR ρ.sp).length c) ∧ SpsAt w' a (freeR ρ.sp) := by
  obtain ⟨F, hG, _⟩ := hR.it
  refine (J.free_ F g ρ w hG).mono ?_
  rintro e w' ⟨hb, a, c, he, hs, _⟩
  exact ⟨hb, a, c, he, hs⟩
theorem rlive (J : RSpec) {Fd : Nat → Prop} {w : World} {g : Nat} {ρ : Rho} (hR : Rn J Fd w g ρ) : Calls Try.prog 24 #[.pointer (some ⟨g, 0, none⟩)] w fun e w' => Below w.heap.size w w' ∧ ∃ a c, e = .returned (.slice a 16 c) ∧ SpsAt w' a ρ.sp := by
  obtain ⟨F, hG, _⟩ := hR.it
  have hn := (J.rg_good hG).1.n
  refine (J.live_ F g ρ w hG).mono ?_
  rintro e w' ⟨hb, a, c, he, hs, _⟩
  rw [hn] at he
  exact ⟨hb, a, c, he, hs⟩

set_option maxHeartbeats 4000000 in
theorem regionLets_walk (J : RSpec) (la : Option Addr) (ln lc : Nat) (slot : Int) (l : List Cg) (w : World) (hl : CgsAt w la l) (hn : l.length = ln) (hln : ln ≤ maxLen) (hs : I64 slot) :
    Calls Try.prog 8 #[.slice la ln lc, .int .i64 slot] w fun e w' => e = .returned (.bool true) ∧ Below w.heap.size w w' := by
  obtain ⟨Post, hPost⟩ : ∃ Post : Ending → World → Prop, Post = fun e w' => e = .returned (.bool true) ∧ Below w.heap.size w w' := ⟨_, rfl⟩
  rw [← hPost]
  have HP : Hid (∀ w', Below w.heap.size w w' → Post (.returned (.bool true)) w') := fun w' h => by rw [hPost]; exact ⟨rfl, h⟩
  clear hPost
  have i0 : I64 0 := by unfold I64; omega
  have hB0 : Blank St.new.l (2, 0, 0) := blank_nil _
  have hA0 : ∀ (w : World) k, (fun _ : Nat => False) k → k < w.heap.size := fun _ _ h => h.elim
  go_enter Try.func8, Try.ntmps8
  go_wp2_with fail
  refine (awake_c J w).mono ?_
  rintro _ w1 ⟨rfl, hb1⟩
  go_wp2_with fail
  refine (dnew w1).mono ?_
  rintro _ w2 ⟨d, Fd, rfl, hD2, hb2⟩
  have hbw2 : Below w.heap.size w w2 := hb1.trans (hb2.mono hb1.size)
  clear hb1 hb2
  by_cases hs1 : slot < 0
  · have R := HP.out w2 hbw2
    clear HP hD2
    go_wp2
    exact R
  by_cases hs2 : 16 ≤ slot
  · have R := HP.out w2 hbw2
    clear HP hD2
    go_wp2
    exact R
  obtain ⟨S, rfl⟩ := Int.eq_ofNat_of_zero_le (show 0 ≤ slot by omega)
  have hS16 : S < 16 := by omega
  go_wp2_with fail
  refine (dopen J hD2 0 0 i0 i0 (ok_blank hB0)).mono ?_
  rintro _ w3 ⟨g, rfl, hb3, hR3⟩
  have hR3' : Rn J (fun _ => False) w3 g (rhoS St.new.l 0 0) := rn_less hR3 (fun _ _ h => h)
  have hbw3 : Below w.heap.size w w3 := hbw2.trans (hb3.mono hbw2.size)
  clear hD2 hb3 hbw2 hR3
  go_wp2_with fail
  refine (aplan J (hA0 w3) hR3' (hl.on hbw3) hn hln).mono ?_
  rintro _ w4 ⟨hb4, ⟨h0, pa, pc, rfl⟩ | ⟨h0, pa, pn, pc, gs, sp', rfl, hR4⟩⟩
  · have R := HP.out w4 (hbw3.trans (hb4.mono hbw3.size))
    clear HP hb4 hR3'
    generalize (planS (rhoS St.new.l 0 0).dat (l.map Cg.cs)).1 = er at *
    have hne : (er == 0) = false := by simpa using h0
    have R' : Post (.returned (.bool (er != 0))) w4 := by rw [show (er != 0) = true by simpa using h0]; exact R
    clear R
    go_wp2
    exact R'
  have hbw4 : Below w.heap.size w w4 := hbw3.trans (hb4.mono hbw3.size)
  generalize (planS (rhoS St.new.l 0 0).dat (l.map Cg.cs)).2 = dat at hR4
  generalize (rhoS St.new.l 0 0).x = x0 at hR4
  generalize (rhoS St.new.l 0 0).z = z0 at hR4
  clear hb4 hbw3 hR3' h0
  go_wp2_with fail
  have hb5 : Below w4.heap.size w4 (w4.alloc (.cells #[.int .i64 (S : Int), .slice none 0 0] 56)) := (Below.refl _ _).alloc (Nat.le_refl _) _
  have hC5 := cg_one w4 (S : Int) none 0 0 [] (by unfold I64; omega) (Bytes.none w4) (fun _ => rfl) (by omega)
  have hR5 := hR4.on hb5
  have hbw5 : Below w.heap.size w (w4.alloc (.cells #[.int .i64 (S : Int), .slice none 0 0] 56)) := hbw4.trans (hb5.mono hbw4.size)
  clear hb5 hR4 hbw4
  generalize w4.alloc (.cells #[.int .i64 (S : Int), .slice none 0 0] 56) = w5 at *
  refine (aplan J (hA0 w5) hR5 hC5 rfl (by simp only [List.length_cons, List.length_nil]; unfold maxLen; omega)).mono ?_
  have hgs := hR5.good.1
  have epl : planS dat ([(⟨(S : Int), none, 0, 0, []⟩ : Cg)].map Cg.cs) = (0, dat.set S []) := plan_let hgs S hS16
  rw [show (Rho.mk x0 z0 sp' dat).dat = dat from rfl, epl]
  rintro _ w6 ⟨hb6, ⟨h0, _⟩ | ⟨_, pa2, pn2, pc2, gt, sp2, rfl, hR6⟩⟩
  · exact absurd rfl h0
  have hs6 := hR5.on hb6
  have hbw6 : Below w.heap.size w w6 := hbw5.trans (hb6.mono hbw5.size)
  have hgt := hR6.good.1
  simp only at hgt hgs
  clear hb6 hR5 hbw5 hC5 epl
  go_wp2_with fail
  refine (rfree J hs6).mono ?_
  rintro _ w7 ⟨hb7, fa, fc, rfl, hfa⟩
  have hs7 := hs6.on hb7
  have ht7 := hR6.on hb7
  have hbw7 : Below w.heap.size w w7 := hbw6.trans (hb7.mono hbw6.size)
  clear hb7 hs6 hR6 hbw6
  have hfl1 := free_len sp'
  have hfl2 := free_len sp2
  obtain ⟨n1, hn1⟩ : ∃ n1, n1 = (freeR sp').length := ⟨_, rfl⟩
  obtain ⟨n2, hn2⟩ : ∃ n2, n2 = (freeR sp2).length := ⟨_, rfl⟩
  rw [show (Rho.mk x0 z0 sp' dat).sp = sp' from rfl, ← hn1]
  rw [← hn1] at hfl1
  rw [← hn2] at hfl2
  have Hn1 : Hid (n1 = (freeR sp').length) := hn1
  have Hn2 : Hid (n2 = (freeR sp2).length) := hn2
  clear hn1 hn2
  go_wp2_with fail
  refine (rfree J ht7).mono ?_
  rintro _ w8 ⟨hb8, ka, kc, rfl, hka⟩
  rw [show (Rho.mk x0 z0 sp2 (dat.set S [])).sp = sp2 from rfl, ← Hn2.out]
  have HS8 : Hid (Rn J (fun _ => False) w8 gs ⟨x0, z0, sp', dat⟩) := hs7.on hb8
  have HT8 : Hid (Rn J (fun _ => False) w8 gt ⟨x0, z0, sp2, dat.set S []⟩) := ht7.on hb8
  have HBW8 : Hid (Below w.heap.size w w8) := hbw7.trans (hb8.mono hbw7.size)
  have HFA : Hid (SpsAt w8 fa (freeR sp')) := hfa.on hb8
  have HKA : Hid (SpsAt w8 ka (freeR sp2)) := hka
  have Hgs : Hid (GoodR sp' dat) := hgs
  have Hgt : Hid (GoodR sp2 (dat.set S [])) := hgt
  have Hr1 : Hid (roomS (freeR sp') ≤ 38) := by show _ ≤ _; have := need_room hgs; omega
  have Hr2 : Hid (roomS (freeR sp2) ≤ 38) := by show _ ≤ _; have := need_room hgt; omega
  clear hb8 hs7 ht7 hbw7 hfa hka hgs hgt
  go_wp2_with fail
  go_loopw [15, 19] (fun sv kv wr => ∃ (k : Nat), k ≤ n1 ∧ kv = .int .i64 (k : Int) ∧ sv = .int .i64 ((roomTo (freeR sp') k : Nat) : Int) ∧ wr = w8) (fun _ kv _ => n1 - (intOf kv).toNat)
  case atStart => exact ⟨0, Nat.zero_le _, rfl, rfl, rfl⟩
  case round =>
    obtain ⟨k, hk, rfl, rfl, rfl⟩ := hrel
    by_cases hk1 : k < n1
    · have hk2 : (k : Int) < (n1 : Int) := by omega
      have hkl : k < (freeR sp').length := by rw [← Hn1.out]; exact hk1
      obtain ⟨fb, fo, rfl, _, hc1⟩ := HFA.out.at k hkl
      have hnx := roomTo_next (freeR sp') k hkl
      have hle1 := roomTo_le (freeR sp') (k + 1)
      have hr1 := Hr1.out
      obtain ⟨A, hA⟩ : ∃ A, A = roomTo (freeR sp') k := ⟨_, rfl⟩
      rw [← hA] at hnx ⊢
      generalize ((freeR sp')[k]).2 = m at hc1 hnx
      have hA2 : A ≤ 38 := by omega
      have hm2 : m ≤ 38 := by omega
      have Hnx : Hid (roomTo (freeR sp') (k + 1) = A + m) := hnx
      clear hnx hle1 hA HP hr1
      go_wp2
      go_roundw
      case rel => exact ⟨k + 1, by omega, by go_num, by rw [Hnx.out]; simp, trivial⟩
      case measure => simp [intOf]; omega
    · obtain rfl : k = n1 := by omega
      have hge : ¬ (k : Int) < (k : Int) := by omega
      have HA : Hid (roomTo (freeR sp') k = roomS (freeR sp')) := roomTo_all _ _ (by rw [← Hn1.out]; exact Nat.le_refl _)
      rw [HA.out]
      clear HA HFA
      go_wp2_with fail
      go_loopw [16, 20] (fun sv kv wx => ∃ (q : Nat), q ≤ n2 ∧ kv = .int .i64 (q : Int) ∧ sv = .int .i64 ((roomTo (freeR sp2) q : Nat) : Int) ∧ wx = wr) (fun _ kv _ => n2 - (intOf kv).toNat)
      case atStart => exact ⟨0, Nat.zero_le _, rfl, rfl, rfl⟩
      case round =>
        obtain ⟨q, hq, rfl, rfl, rfl⟩ := hrel
        by_cases hq1 : q < n2
        · have hq2 : (q : Int) < (n2 : Int) := by omega
          have hql : q < (freeR sp2).length := by rw [← Hn2.out]; exact hq1
          obtain ⟨fb, fo, rfl, _, hc1⟩ := HKA.out.at q hql
          have hnx := roomTo_next (freeR sp2) q hql
          have hle1 := roomTo_le (freeR sp2) (q + 1)
          have hr2 := Hr2.out
          obtain ⟨A, hA⟩ : ∃ A, A = roomTo (freeR sp2) q := ⟨_, rfl⟩
          rw [← hA] at hnx ⊢
          generalize ((freeR sp2)[q]).2 = m at hc1 hnx
          have hA2 : A ≤ 38 := by omega
          have hm2 : m ≤ 38 := by omega
          have Hnx : Hid (roomTo (freeR sp2) (q + 1) = A + m) := hnx
          clear hnx hle1 hA HP hr2
          go_wp2
          go_roundw
          case rel => exact ⟨q + 1, by omega, by go_num, by rw [Hnx.out]; simp, trivial⟩
          case measure => simp [intOf]; omega
        · obtain rfl : q = n2 := by omega
          have hge2 : ¬ (q : Int) < (q : Int) := by omega
          have HA : Hid (roomTo (freeR sp2) q = roomS (freeR sp2)) := roomTo_all _ _ (by rw [← Hn2.out]; exact Nat.le_refl _)
          rw [HA.out]
          clear HA HKA
          have hSd : S < dat.length := by rw [Hgs.out.m]; exact hS16
          have h1 := need_room Hgs.out
          have h2 := need_room Hgt.out
          have h3 := needAll_set dat S hSd []
          have h4 : needS ([] : List Int).length = 0 := by decide
          have hSs : S < sp'.length := by rw [Hgs.out.n]; exact hS16
          have hSt : S < sp2.length := by rw [Hgt.out.n]; exact hS16
          have h5 := sp_need Hgs.out S hSs hSd
          have h6 : sp2[S] = (0, 0) := by
            rcases Hgt.out.ok S hSt (by rw [List.length_set]; exact hSd) with h | h
            · exact h.2
            · rw [List.getElem_set_self] at h
              simp at h
          have Hfin : Hid (roomS (freeR sp2) = roomS (freeR sp') + sp'[S].2) := by show _ = _; omega
          have hget : getS ⟨x0, z0, sp2, dat.set S []⟩ (S : Int) = [] := by
            unfold getS
            rw [if_pos (by omega), Int.toNat_natCast, List.getD_eq_getElem?_getD, List.getElem?_set_self (by exact hSd)]
            rfl
          have hr1 := Hr1.out
          have hr2 := Hr2.out
          obtain ⟨A, hA⟩ : ∃ A, A = roomS (freeR sp') := ⟨_, rfl⟩
          obtain ⟨C, hC⟩ : ∃ C, C = roomS (freeR sp2) := ⟨_, rfl⟩
          rw [← hA] at hr1 ⊢
          rw [← hC] at hr2 ⊢
          rw [← hA, ← hC] at Hfin
          clear h1 h2 h3 h4 h5 hA hC
          go_wp2_with fail
          refine (rlive J HS8.out).mono ?_
          rintro _ w9 ⟨hb9, xa, xc, rfl, hxa⟩
          have ht9 := HT8.out.on hb9
          have hbw9 : Below w.heap.size w w9 := HBW8.out.trans (hb9.mono HBW8.out.size)
          go_wp2_with fail
          refine (rlive J ht9).mono ?_
          rintro _ w10 ⟨hb10, ya, yc, rfl, hya⟩
          have ht10 := ht9.on hb10
          have hbw10 : Below w.heap.size w w10 := hbw9.trans (hb10.mono hbw9.size)
          have hxa10 := hxa.on hb10
          clear hb9 hb10 hxa ht9 hbw9
          go_wp2_with fail
          refine (rget J ht10 (S : Int) (by unfold I64; omega)).mono ?_
          rintro _ w11 ⟨hb11, za, zc, rfl, _⟩
          rw [hget]
          simp only [List.length_nil]
          obtain ⟨xb, xo, rfl, _, x1⟩ := (hxa10.on hb11).at S hSs
          obtain ⟨yb, yo, rfl, y0, y1⟩ := (hya.on hb11).at S hSt
          rw [h6] at y0 y1
          have R := HP.out w11 (hbw10.trans (hb11.mono hbw10.size))
          have hm := Hfin.out
          have hfin : (C : Int) = (A : Int) + (sp'[S].2 : Int) := by omega
          have hfb : ((C : Int) == (A : Int) + (sp'[S].2 : Int)) = true := by rw [hfin]; simp
          have hm2 : sp'[S].2 ≤ 38 := by omega
          generalize sp'[S].2 = m at *
          clear HP hb11 hbw10 hxa10 hya ht10 HS8 HT8 HBW8 Hfin Hgs Hgt hget h6 hfin hm
          go_wp2
          exact R
end Go.Proofs.Ytdjhlpllffakpaa
