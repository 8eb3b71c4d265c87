/-
  RegionAlone, walked over any region that keeps what is asked.
-/
import Derived.Test.YtdjhlpllffakpaaGlets
set_option maxRecDepth 20000
namespace Go.Proofs.Ytdjhlpllffakpaa
open Go.RowKit

theorem rsame (J : RSpec) {A1 A2 : Nat → Prop} {w : World} {g1 g2 : Nat} {ρ1 ρ2 : Rho} (h1 : Rn J A1 w g1 ρ1) (h2 : Rn J A2 w g2 ρ2) (hs : ρ1.sp = ρ2.sp) (hd : ρ1.dat = ρ2.dat) :
    Calls Try.prog 21 #[.pointer (some ⟨g1, 0, none⟩), .pointer (some ⟨g2, 0, none⟩)] w fun e w' => e = .returned (.bool true) ∧ Below w.heap.size w w' := by
  obtain ⟨F1, hG1, _⟩ := h1.it
  obtain ⟨F2, hG2, _⟩ := h2.it
  exact same_c J F1 F2 g1 g2 ρ1 ρ2 w hG1 hG2 hs hd
theorem plan_one_ok {d : List (List Int)} {s : Int} {b : List Int} (h : (planS d [⟨s, b⟩]).1 = 0) : 0 ≤ s ∧ s < 16 ∧ (planS d [⟨s, b⟩]).2 = d.set s.toNat b := by
  by_cases hs : 0 ≤ s ∧ s < 16
  · obtain ⟨S, rfl⟩ := Int.eq_ofNat_of_zero_le hs.1
    rw [plan_one d S (by omega) b] at h ⊢
    split at h
    · rename_i h1
      rw [if_pos h1]
      exact ⟨hs.1, hs.2, by simp⟩
    · exact absurd h (by decide)
  · have e : chgAll d [] [⟨s, b⟩] = none := chg_bad (fun h => hs ⟨h.1, h.2.1⟩)
    have e2 : planS d [⟨s, b⟩] = (1, []) := by unfold planS; rw [e]
    rw [e2] at h
    exact absurd h (by decide)
/-- A change that came in. -/
structure CgIn (w : World) (o : Cg) : Prop where
  by_ : Bytes w o.a o.n o.b
  nil : o.a = none → o.c = 0
  bd : I64 o.s
  sz : o.n ≤ 140737488351232

set_option maxHeartbeats 4000000 in
theorem regionAlone_walk (J : RSpec) (sA : Int) (aa : Option Addr) (an ac : Nat) (ab : List Int) (sB : Int) (ba : Option Addr) (bn bc : Nat) (bb : List Int) (x z u v : Int) (w : World) (hA : CgIn w ⟨sA, aa, an, ac, ab⟩) (hB : CgIn w ⟨sB, ba, bn, bc, bb⟩) (hx : I64 x) (hz : I64 z) (hu : I64 u) (hv : I64 v) :
    Calls Try.prog 7 #[.agg #[.int .i64 sA, .slice aa an ac], .agg #[.int .i64 sB, .slice ba bn bc], .int .i64 x, .int .i64 z, .int .i64 u, .int .i64 v] w fun e w' => e = .returned (.bool true) ∧ Below w.heap.size w w' := by
  obtain ⟨Post, hPost⟩ : ∃ Post : Ending → World → Prop, Post = fun e w' => e = .returned (.bool true) ∧ Below w.heap.size w w' := ⟨_, rfl⟩
  rw [← hPost]
  have HP : Hid (∀ w', Below w.heap.size w w' → Post (.returned (.bool true)) w') := fun w' h => by rw [hPost]; exact ⟨rfl, h⟩
  clear hPost
  have HA : Hid (CgIn w ⟨sA, aa, an, ac, ab⟩) := hA
  have HB : Hid (CgIn w ⟨sB, ba, bn, bc, bb⟩) := hB
  clear hA hB
  obtain ⟨wa, hwa⟩ : ∃ wa, wa = (w.alloc (.cells #[.int .i64 sA, .slice aa an ac] 56)).alloc (.cells #[.int .i64 sB, .slice ba bn bc] 56) := ⟨_, rfl⟩
  have hba : Below w.heap.size w wa := by rw [hwa]; exact ((Below.refl _ _).alloc (Nat.le_refl _) _).alloc (by simp) _
  have hA0 : wa.heap[w.heap.size]? = some (.cells #[.int .i64 sA, .slice aa an ac] 56 (0, 0)) := by rw [hwa]; exact (Below.heap_alloc _ _ _ (by simp)).trans (heap_alloc_new w _)
  have hB0 : wa.heap[w.heap.size + 1]? = some (.cells #[.int .i64 sB, .slice ba bn bc] 56 (0, 0)) := by
    have := heap_alloc_new (w.alloc (.cells #[.int .i64 sA, .slice aa an ac] 56)) (.cells #[.int .i64 sB, .slice ba bn bc] 56)
    rw [World.size_alloc] at this
    rw [hwa]; exact this
  go_enter Try.func7, Try.ntmps7
  have hwa' := hwa.symm
  have Hwa : Hid (wa = (w.alloc (.cells #[.int .i64 sA, .slice aa an ac] 56)).alloc (.cells #[.int .i64 sB, .slice ba bn bc] 56)) := hwa
  clear hwa hwa'
  go_wp2_with fail
  rw [← Hwa.out]
  clear Hwa
  refine (awake_c J wa).mono ?_
  rintro _ w1 ⟨rfl, hb1⟩
  have hbw1 : Below w.heap.size w w1 := hba.trans (hb1.mono hba.size)
  have HA1 : Hid (w1.heap[w.heap.size]? = some (.cells #[.int .i64 sA, .slice aa an ac] 56 (0, 0))) := (hb1.block _ (Array.getElem?_eq_some_iff.1 hA0).1).trans hA0
  have HB1 : Hid (w1.heap[w.heap.size + 1]? = some (.cells #[.int .i64 sB, .slice ba bn bc] 56 (0, 0))) := (hb1.block _ (Array.getElem?_eq_some_iff.1 hB0).1).trans hB0
  clear hA0 hB0 hb1 hba
  go_wp2_with fail
  refine (dnew w1).mono ?_
  rintro _ w2 ⟨d, Fd, rfl, hD2, hb2⟩
  have hbw2 : Below w.heap.size w w2 := hbw1.trans (hb2.mono hbw1.size)
  by_cases hne : x = u ∧ z = v
  · obtain ⟨rfl, rfl⟩ := hne
    have R := HP.out w2 hbw2
    clear HP hb2 hD2
    go_wp2
    exact R
  have Hne : Hid (((2 : Int), x, z) ≠ (2, u, v)) := fun e => hne (by simpa using e)
  have hbl : Blank St.new.l (2, x, z) := blank_nil _
  by_cases hxu : x = u
  · have hzv : z ≠ v := fun h => hne ⟨hxu, h⟩
    have hb0 : (z == v) = false := by simpa using hzv
    have hb00 : (x == u) = true := by simpa using hxu
    clear hne hxu hzv
    go_wp2_with fail
    refine (dopen J hD2 x z hx hz (ok_blank hbl)).mono ?_
    rintro _ w3 ⟨g, rfl, hb3, hR3⟩
    rw [rho_blank hbl] at hR3
    have hD3 := hD2.on hb3
    clear hb3
    have a0 : w3.cell? ⟨w.heap.size, 0, none⟩ = some (.int .i64 sA) := (cell_of_row w3 _ 0 _ 56 (0, 0) ((hD3.bel.block _ (Array.getElem?_eq_some_iff.1 HA1.out).1).trans HA1.out)).trans rfl
    have a1 : w3.cell? ⟨w.heap.size, 1, none⟩ = some (.slice aa an ac) := (cell_of_row w3 _ 1 _ 56 (0, 0) ((hD3.bel.block _ (Array.getElem?_eq_some_iff.1 HA1.out).1).trans HA1.out)).trans rfl
    go_wp2_with fail
    clear a0 a1
    have hbw3 : Below w.heap.size w w3 := hbw1.trans (hD3.bel.mono hbw1.size)
    have hb4 : Below w3.heap.size w3 (w3.alloc (.cells #[.int .i64 sA, .slice aa an ac] 56)) := (Below.refl _ _).alloc (Nat.le_refl _) _
    have hC4 := cg_one w3 sA aa an ac ab HA.out.bd (HA.out.by_.on hbw3) HA.out.nil HA.out.sz
    have hD4 := hD3.on hb4
    have hR4 := hR3.on hb4
    clear hD3 hR3 hb4 hbw3
    generalize w3.alloc (.cells #[.int .i64 sA, .slice aa an ac] 56) = w4 at *
    refine (dplan J hD4 hR4 hC4 rfl (by simp only [List.length_cons, List.length_nil]; unfold maxLen; omega)).mono ?_
    rintro _ w5 ⟨hb5, ⟨h0, pa, pc, rfl⟩ | ⟨h0, pa, pc, gn, sp1, ps, rfl, hN5, hP5, hok, hon⟩⟩
    · have hD5 := hD4.on hb5
      have R := HP.out w5 (hbw1.trans (hD5.bel.mono hbw1.size))
      clear HP hb5 hD5 hD4 hR4 hC4
      generalize (planS (Rho.mk x z sp0 dat0).dat (List.map Cg.cs [{ s := sA, a := aa, n := an, c := ac, b := ab }])).1 = er at *
      have hne2 : (er == 0) = false := by simpa using h0
      go_wp2
      exact R
    obtain ⟨hs0, hs16, hp2⟩ := plan_one_ok (d := dat0) (s := sA) (b := ab) h0
    obtain ⟨SA, rfl⟩ := Int.eq_ofNat_of_zero_le hs0
    have hS16 : SA < 16 := by omega
    have hp2' : (planS (Rho.mk x z sp0 dat0).dat (List.map Cg.cs [{ s := (SA : Int), a := aa, n := an, c := ac, b := ab }])).2 = dat0.set SA ab := hp2
    rw [hp2'] at hN5 hon
    have hD5 := hD4.on hb5
    have Hon : Hid (OnD (putAll (2, x, z) [] ps) ⟨x, z, sp1, dat0.set SA ab⟩) := hon [] (fun b hb => by cases hb) (on_blank (blank_nil _))
    clear hD4 hR4 hb5 hC4 h0 hon hs0 hs16 hp2 hp2'
    obtain ⟨np, hnp⟩ : ∃ np, np = ps.length := ⟨_, rfl⟩
    rw [← hnp]
    have Hnp : Hid (np = ps.length) := hnp
    clear hnp
    go_wp2_with fail
    rw [Hnp.out]
    refine (dwrites hD5 (f := (2, x, z)) (pc := pc) ⟨by unfold I64; omega, hx, hz⟩ (by decide) hP5 hok).mono ?_
    rintro _ w6 ⟨rfl, Fd1, S1, hD6, hst6, hl6, hw6⟩
    have hN6 := hN5.stp hst6
    have hbl2 : Blank S1.l (2, u, v) := fun i => by rw [hl6, blk_putAll_other Hne.out]; rfl
    clear hD5 hN5 hP5 hst6
    go_wp2_with fail
    refine (dopen J hD6 u v hu hv (ok_blank hbl2)).mono ?_
    rintro _ w7 ⟨g2, rfl, hb7, hR7⟩
    rw [rho_blank hbl2] at hR7
    have hD7 := hD6.on hb7
    have hN7 := hN6.on hb7
    clear hb7 hD6 hN6
    have b0 : w7.cell? ⟨w.heap.size + 1, 0, none⟩ = some (.int .i64 sB) := (cell_of_row w7 _ 0 _ 56 (0, 0) ((hD7.bel.block _ (Array.getElem?_eq_some_iff.1 HB1.out).1).trans HB1.out)).trans rfl
    have b1 : w7.cell? ⟨w.heap.size + 1, 1, none⟩ = some (.slice ba bn bc) := (cell_of_row w7 _ 1 _ 56 (0, 0) ((hD7.bel.block _ (Array.getElem?_eq_some_iff.1 HB1.out).1).trans HB1.out)).trans rfl
    go_wp2_with fail
    clear b0 b1
    have hbw7 : Below w.heap.size w w7 := hbw1.trans (hD7.bel.mono hbw1.size)
    have hb8 : Below w7.heap.size w7 (w7.alloc (.cells #[.int .i64 sB, .slice ba bn bc] 56)) := (Below.refl _ _).alloc (Nat.le_refl _) _
    have hC8 := cg_one w7 sB ba bn bc bb HB.out.bd (HB.out.by_.on hbw7) HB.out.nil HB.out.sz
    have hD8 := hD7.on hb8
    have hR8 := hR7.on hb8
    have hN8 := hN7.on hb8
    clear hD7 hR7 hN7 hb8 hbw7
    generalize w7.alloc (.cells #[.int .i64 sB, .slice ba bn bc] 56) = w8 at *
    refine (dplan J hD8 hR8 hC8 rfl (by simp only [List.length_cons, List.length_nil]; unfold maxLen; omega)).mono ?_
    rintro _ w9 ⟨hb9, ⟨h0, pa2, pc2, rfl⟩ | ⟨_, pa2, pc2, gm, sp2, ps2, rfl, _, hP9, hok2, _⟩⟩
    · have hD9 := hD8.on hb9
      have R := HP.out w9 (hbw1.trans (hD9.bel.mono hbw1.size))
      clear HP hb9 hD9 hD8 hR8 hC8 hN8
      generalize (planS (Rho.mk u v sp0 dat0).dat (List.map Cg.cs [{ s := sB, a := ba, n := bn, c := bc, b := bb }])).1 = er at *
      have hne2 : (er == 0) = false := by simpa using h0
      go_wp2
      exact R
    have hD9 := hD8.on hb9
    have hN9 := hN8.on hb9
    clear hD8 hR8 hN8 hb9 hC8
    obtain ⟨nq, hnq⟩ : ∃ nq, nq = ps2.length := ⟨_, rfl⟩
    rw [← hnq]
    have Hnq : Hid (nq = ps2.length) := hnq
    clear hnq
    go_wp2_with fail
    rw [Hnq.out]
    have hw0 : St.new.writes = 0 := rfl
    refine (dwrites hD9 (f := (2, u, v)) (pc := pc2) ⟨by unfold I64; omega, hu, hv⟩ (by omega) hP9 hok2).mono ?_
    rintro _ w10 ⟨rfl, Fd2, S2, hD10, hst10, hl10, _⟩
    have hN10 := hN9.stp hst10
    have hop := open_on (L := S2.l) hN10.good.1 (Hon.out.other (fun i => by rw [hl10, hl6]; exact blk_putAll_other (fun e => Hne.out e.symm) ps2 _ i))
    clear hD9 hN9 hP9 hst10
    go_wp2_with fail
    refine (dopen J hD10 x z hx hz hop.1).mono ?_
    rintro _ wz ⟨gt, rfl, hbz, hRz⟩
    rw [hop.2] at hRz
    have HT : Hid (Rn J Fd2 wz gt ⟨x, z, sp1, dat0.set SA ab⟩) := hRz
    have HN : Hid (Rn J Fd2 wz gn ⟨x, z, sp1, dat0.set SA ab⟩) := hN10.on hbz
    have hDz := hD10.on hbz
    have HBw : Hid (Below w.heap.size w wz) := hbw1.trans (hDz.bel.mono hbw1.size)
    have hcz := (hDz.bel.block _ (Array.getElem?_eq_some_iff.1 HA1.out).1).trans HA1.out
    have Hb0 : Hid (wz.cell? ⟨w.heap.size, 0, none⟩ = some (.int .i64 (SA : Int))) := (cell_of_row wz _ 0 _ 56 (0, 0) hcz).trans rfl
    have Hb1 : Hid (wz.cell? ⟨w.heap.size, 1, none⟩ = some (.slice aa an ac)) := (cell_of_row wz _ 1 _ 56 (0, 0) hcz).trans rfl
    have Hby : Hid (Bytes wz aa an ab) := HA.out.by_.on HBw.out
    have Hget : Hid (getS ⟨x, z, sp1, dat0.set SA ab⟩ (SA : Int) = ab) := by
      show _ = _
      unfold getS
      rw [if_pos (by omega), Int.toNat_natCast, List.getD_eq_getElem?_getD, List.getElem?_set_self (by simpa [dat0] using hS16)]
      rfl
    have hSA : (SA : Int) < 16 := by omega
    clear hRz hN10 hDz hD10 hbz hop Hon hcz hok hok2 hl6 hl10 hw6 hw0 hD2 hbl hbl2
    go_wp2_with fail
    refine region_L (fun w' => Below wz.heap.size wz w') 14 (by kernel_rfl) ?_
    have HTa : Hid (Rn J Fd2 wz.drew gt ⟨x, z, sp1, dat0.set SA ab⟩) := HT.out.on ((Below.refl _ _).drew)
    have HNa : Hid (Rn J Fd2 wz.drew gn ⟨x, z, sp1, dat0.set SA ab⟩) := HN.out.on ((Below.refl _ _).drew)
    have HBa : Hid (Below w.heap.size w wz.drew) := HBw.out.drew
    have HBz : Hid (Below wz.heap.size wz wz.drew) := (Below.refl _ _).drew
    generalize wz.drew = va at *
    have hHeld : (fun w' => Below wz.heap.size wz w') _ := HBz.out
    have hne : Nonempty (Sub (fun w' => Below wz.heap.size wz w')) := ⟨⟨_, hHeld⟩⟩
    have k0 : ∀ s : Sub (fun w' => Below wz.heap.size wz w'), s.w.cell? ⟨w.heap.size, 0, none⟩ = some (.int .i64 (SA : Int)) := fun s => cell_below Hb0.out s.ok
    have k1 : ∀ s : Sub (fun w' => Below wz.heap.size wz w'), s.w.cell? ⟨w.heap.size, 1, none⟩ = some (.slice aa an ac) := fun s => cell_below Hb1.out s.ok
    have k2 : ∀ s : Sub (fun w' => Below wz.heap.size wz w'), (convert 25 9 (.slice aa an ac)).run Try.prog s.w = .ok (.string (strOfNums ab)) s.w := fun s => conv_b (Hby.out.on s.ok)
    refine take_L (i := 0) rfl (by kernel_rfl) (by kernel_rfl) (by kernel_rfl) (by kernel_rfl) (fun _ _ _ _ h => h) (by exact hHeld) (fun K hK => ?_)
    go_simp
    refine hK _ ?_
    clear hK K
    refine take_L (i := 1) rfl (by kernel_rfl) (by kernel_rfl) (by kernel_rfl) (by kernel_rfl) (fun _ _ _ _ h => h) (by exact hHeld) (fun K hK => ?_)
    go_simp
    refine hK _ ?_
    clear hK K
    refine one_L (i := 2) (by kernel_rfl) rfl (fun K hK => ?_)
    go_simp
    refine (rsame J HTa.out HNa.out rfl rfl).mono ?_
    rintro _ vb ⟨rfl, hbv⟩
    have HTb : Hid (Rn J Fd2 vb gt ⟨x, z, sp1, dat0.set SA ab⟩) := HTa.out.on hbv
    have HBb : Hid (Below w.heap.size w vb) := HBa.out.trans (hbv.mono HBa.out.size)
    replace hHeld : (fun w' => Below wz.heap.size wz w') _ := (Below.trans hHeld (hbv.mono hHeld.size))
    refine hK.out _ _ (fun _ => hHeld) ?_
    clear hK K
    refine take_L (i := 3) rfl (by kernel_rfl) (by kernel_rfl) (by kernel_rfl) (by kernel_rfl) (fun _ _ _ _ h => h) (by exact hHeld) (fun K hK => ?_)
    go_simp
    refine hK _ ?_
    clear hK K
    refine take_L (i := 4) rfl (by kernel_rfl) (by kernel_rfl) (by kernel_rfl) (by kernel_rfl) (fun _ _ _ _ h => h) (by exact hHeld) (fun K hK => ?_)
    go_simp
    refine hK _ ?_
    clear hK K
    refine take_L (i := 5) rfl (by kernel_rfl) (by kernel_rfl) (by kernel_rfl) (by kernel_rfl) (fun _ _ _ _ h => h) (by exact hHeld) (fun K hK => ?_)
    go_simp
    refine hK _ ?_
    clear hK K
    refine take_L (i := 6) rfl (by kernel_rfl) (by kernel_rfl) (by kernel_rfl) (by kernel_rfl) (fun _ _ _ _ h => h) (by exact hHeld) (fun K hK => ?_)
    go_simp
    refine hK _ ?_
    clear hK K
    refine take_L (i := 9) rfl (by kernel_rfl) (by kernel_rfl) (by kernel_rfl) (by kernel_rfl) (fun _ _ _ _ h => h) (by exact hHeld) (fun K hK => ?_)
    go_simp
    refine hK _ ?_
    clear hK K
    refine take_L (i := 10) rfl (by kernel_rfl) (by kernel_rfl) (by kernel_rfl) (by kernel_rfl) (fun _ _ _ _ h => h) (by exact hHeld) (fun K hK => ?_)
    go_simp
    refine hK _ ?_
    clear hK K
    refine take_L (i := 11) rfl (by kernel_rfl) (by kernel_rfl) (by kernel_rfl) (by kernel_rfl) (fun _ _ _ _ h => h) (by exact hHeld) (fun K hK => ?_)
    go_simp
    refine hK _ ?_
    clear hK K
    refine one_L (i := 7) (by kernel_rfl) rfl (fun K hK => ?_)
    go_simp
    refine (rget J HTb.out (SA : Int) (by unfold I64; omega)).mono ?_
    rintro _ vc ⟨hcv, xa, xc, rfl, hxy⟩
    have Hxy : Hid (Bytes vc xa (getS ⟨x, z, sp1, dat0.set SA ab⟩ (SA : Int)).length (getS ⟨x, z, sp1, dat0.set SA ab⟩ (SA : Int))) := hxy
    have HBc : Hid (Below w.heap.size w vc) := HBb.out.trans (hcv.mono HBb.out.size)
    rw [Hget.out] at Hxy ⊢
    clear hxy
    replace hHeld : (fun w' => Below wz.heap.size wz w') _ := (Below.trans hHeld (hcv.mono hHeld.size))
    refine hK.out _ _ (fun _ => hHeld) ?_
    clear hK K
    refine strong_L (S' := fun w' => Below wz.heap.size wz w' ∧ Below vc.heap.size vc w') (fun _ h => h.1) _ _ _ _ ?_
    replace hHeld : (fun w' => Below wz.heap.size wz w' ∧ Below vc.heap.size vc w') _ := ⟨hHeld, Below.refl _ _⟩
    have hne2 : Nonempty (Sub (fun w' => Below wz.heap.size wz w' ∧ Below vc.heap.size vc w')) := ⟨⟨_, hHeld⟩⟩
    have k5 : ∀ s : Sub (fun w' => Below wz.heap.size wz w' ∧ Below vc.heap.size vc w'), (convert 25 9 (.slice xa ab.length xc)).run Try.prog s.w = .ok (.string (strOfNums ab)) s.w := fun s => conv_b (Hxy.out.on s.ok.2)
    have j0 : ∀ s : Sub (fun w' => Below wz.heap.size wz w' ∧ Below vc.heap.size vc w'), s.w.cell? ⟨w.heap.size, 0, none⟩ = some (.int .i64 (SA : Int)) := fun s => cell_below Hb0.out s.ok.1
    have j1 : ∀ s : Sub (fun w' => Below wz.heap.size wz w' ∧ Below vc.heap.size vc w'), s.w.cell? ⟨w.heap.size, 1, none⟩ = some (.slice aa an ac) := fun s => cell_below Hb1.out s.ok.1
    have j2 : ∀ s : Sub (fun w' => Below wz.heap.size wz w' ∧ Below vc.heap.size vc w'), (convert 25 9 (.slice aa an ac)).run Try.prog s.w = .ok (.string (strOfNums ab)) s.w := fun s => conv_b (Hby.out.on s.ok.1)
    refine take_L (i := 8) rfl (by kernel_rfl) (by kernel_rfl) (by kernel_rfl) (by kernel_rfl) (fun _ _ _ _ h => h) (by exact hHeld) (fun K hK => ?_)
    go_simp
    refine hK _ ?_
    clear hK K
    refine take_L (i := 12) rfl (by kernel_rfl) (by kernel_rfl) (by kernel_rfl) (by kernel_rfl) (fun _ _ _ _ h => h) (by exact hHeld) (fun K hK => ?_)
    go_simp
    refine hK _ ?_
    clear hK K
    refine take_L (i := 13) rfl (by kernel_rfl) (by kernel_rfl) (by kernel_rfl) (by kernel_rfl) (fun _ _ _ _ h => h) (by exact hHeld) (fun K hK => ?_)
    go_simp
    refine hK _ ?_
    clear hK K
    refine one_L (i := 14) (by kernel_rfl) rfl (fun K hK => ?_)
    go_simp
    refine hK.out _ _ (fun h => absurd rfl h) ?_
    clear hK K
    refine done_L (by kernel_rfl) ?_ _
    have R := HP.out _ HBc.out
    clear hHeld hne2 k0 k1 k2 k5 j0 j1 j2 HP
    go_wp2
    exact R
  · have hb0 : (x == u) = false := by simpa using hxu
    clear hne hxu
    go_wp2_with fail
    refine (dopen J hD2 x z hx hz (ok_blank hbl)).mono ?_
    rintro _ w3 ⟨g, rfl, hb3, hR3⟩
    rw [rho_blank hbl] at hR3
    have hD3 := hD2.on hb3
    clear hb3
    have a0 : w3.cell? ⟨w.heap.size, 0, none⟩ = some (.int .i64 sA) := (cell_of_row w3 _ 0 _ 56 (0, 0) ((hD3.bel.block _ (Array.getElem?_eq_some_iff.1 HA1.out).1).trans HA1.out)).trans rfl
    have a1 : w3.cell? ⟨w.heap.size, 1, none⟩ = some (.slice aa an ac) := (cell_of_row w3 _ 1 _ 56 (0, 0) ((hD3.bel.block _ (Array.getElem?_eq_some_iff.1 HA1.out).1).trans HA1.out)).trans rfl
    go_wp2_with fail
    clear a0 a1
    have hbw3 : Below w.heap.size w w3 := hbw1.trans (hD3.bel.mono hbw1.size)
    have hb4 : Below w3.heap.size w3 (w3.alloc (.cells #[.int .i64 sA, .slice aa an ac] 56)) := (Below.refl _ _).alloc (Nat.le_refl _) _
    have hC4 := cg_one w3 sA aa an ac ab HA.out.bd (HA.out.by_.on hbw3) HA.out.nil HA.out.sz
    have hD4 := hD3.on hb4
    have hR4 := hR3.on hb4
    clear hD3 hR3 hb4 hbw3
    generalize w3.alloc (.cells #[.int .i64 sA, .slice aa an ac] 56) = w4 at *
    refine (dplan J hD4 hR4 hC4 rfl (by simp only [List.length_cons, List.length_nil]; unfold maxLen; omega)).mono ?_
    rintro _ w5 ⟨hb5, ⟨h0, pa, pc, rfl⟩ | ⟨h0, pa, pc, gn, sp1, ps, rfl, hN5, hP5, hok, hon⟩⟩
    · have hD5 := hD4.on hb5
      have R := HP.out w5 (hbw1.trans (hD5.bel.mono hbw1.size))
      clear HP hb5 hD5 hD4 hR4 hC4
      generalize (planS (Rho.mk x z sp0 dat0).dat (List.map Cg.cs [{ s := sA, a := aa, n := an, c := ac, b := ab }])).1 = er at *
      have hne2 : (er == 0) = false := by simpa using h0
      go_wp2
      exact R
    obtain ⟨hs0, hs16, hp2⟩ := plan_one_ok (d := dat0) (s := sA) (b := ab) h0
    obtain ⟨SA, rfl⟩ := Int.eq_ofNat_of_zero_le hs0
    have hS16 : SA < 16 := by omega
    have hp2' : (planS (Rho.mk x z sp0 dat0).dat (List.map Cg.cs [{ s := (SA : Int), a := aa, n := an, c := ac, b := ab }])).2 = dat0.set SA ab := hp2
    rw [hp2'] at hN5 hon
    have hD5 := hD4.on hb5
    have Hon : Hid (OnD (putAll (2, x, z) [] ps) ⟨x, z, sp1, dat0.set SA ab⟩) := hon [] (fun b hb => by cases hb) (on_blank (blank_nil _))
    clear hD4 hR4 hb5 hC4 h0 hon hs0 hs16 hp2 hp2'
    obtain ⟨np, hnp⟩ : ∃ np, np = ps.length := ⟨_, rfl⟩
    rw [← hnp]
    have Hnp : Hid (np = ps.length) := hnp
    clear hnp
    go_wp2_with fail
    rw [Hnp.out]
    refine (dwrites hD5 (f := (2, x, z)) (pc := pc) ⟨by unfold I64; omega, hx, hz⟩ (by decide) hP5 hok).mono ?_
    rintro _ w6 ⟨rfl, Fd1, S1, hD6, hst6, hl6, hw6⟩
    have hN6 := hN5.stp hst6
    have hbl2 : Blank S1.l (2, u, v) := fun i => by rw [hl6, blk_putAll_other Hne.out]; rfl
    clear hD5 hN5 hP5 hst6
    go_wp2_with fail
    refine (dopen J hD6 u v hu hv (ok_blank hbl2)).mono ?_
    rintro _ w7 ⟨g2, rfl, hb7, hR7⟩
    rw [rho_blank hbl2] at hR7
    have hD7 := hD6.on hb7
    have hN7 := hN6.on hb7
    clear hb7 hD6 hN6
    have b0 : w7.cell? ⟨w.heap.size + 1, 0, none⟩ = some (.int .i64 sB) := (cell_of_row w7 _ 0 _ 56 (0, 0) ((hD7.bel.block _ (Array.getElem?_eq_some_iff.1 HB1.out).1).trans HB1.out)).trans rfl
    have b1 : w7.cell? ⟨w.heap.size + 1, 1, none⟩ = some (.slice ba bn bc) := (cell_of_row w7 _ 1 _ 56 (0, 0) ((hD7.bel.block _ (Array.getElem?_eq_some_iff.1 HB1.out).1).trans HB1.out)).trans rfl
    go_wp2_with fail
    clear b0 b1
    have hbw7 : Below w.heap.size w w7 := hbw1.trans (hD7.bel.mono hbw1.size)
    have hb8 : Below w7.heap.size w7 (w7.alloc (.cells #[.int .i64 sB, .slice ba bn bc] 56)) := (Below.refl _ _).alloc (Nat.le_refl _) _
    have hC8 := cg_one w7 sB ba bn bc bb HB.out.bd (HB.out.by_.on hbw7) HB.out.nil HB.out.sz
    have hD8 := hD7.on hb8
    have hR8 := hR7.on hb8
    have hN8 := hN7.on hb8
    clear hD7 hR7 hN7 hb8 hbw7
    generalize w7.alloc (.cells #[.int .i64 sB, .slice ba bn bc] 56) = w8 at *
    refine (dplan J hD8 hR8 hC8 rfl (by simp only [List.length_cons, List.length_nil]; unfold maxLen; omega)).mono ?_
    rintro _ w9 ⟨hb9, ⟨h0, pa2, pc2, rfl⟩ | ⟨_, pa2, pc2, gm, sp2, ps2, rfl, _, hP9, hok2, _⟩⟩
    · have hD9 := hD8.on hb9
      have R := HP.out w9 (hbw1.trans (hD9.bel.mono hbw1.size))
      clear HP hb9 hD9 hD8 hR8 hC8 hN8
      generalize (planS (Rho.mk u v sp0 dat0).dat (List.map Cg.cs [{ s := sB, a := ba, n := bn, c := bc, b := bb }])).1 = er at *
      have hne2 : (er == 0) = false := by simpa using h0
      go_wp2
      exact R
    have hD9 := hD8.on hb9
    have hN9 := hN8.on hb9
    clear hD8 hR8 hN8 hb9 hC8
    obtain ⟨nq, hnq⟩ : ∃ nq, nq = ps2.length := ⟨_, rfl⟩
    rw [← hnq]
    have Hnq : Hid (nq = ps2.length) := hnq
    clear hnq
    go_wp2_with fail
    rw [Hnq.out]
    have hw0 : St.new.writes = 0 := rfl
    refine (dwrites hD9 (f := (2, u, v)) (pc := pc2) ⟨by unfold I64; omega, hu, hv⟩ (by omega) hP9 hok2).mono ?_
    rintro _ w10 ⟨rfl, Fd2, S2, hD10, hst10, hl10, _⟩
    have hN10 := hN9.stp hst10
    have hop := open_on (L := S2.l) hN10.good.1 (Hon.out.other (fun i => by rw [hl10, hl6]; exact blk_putAll_other (fun e => Hne.out e.symm) ps2 _ i))
    clear hD9 hN9 hP9 hst10
    go_wp2_with fail
    refine (dopen J hD10 x z hx hz hop.1).mono ?_
    rintro _ wz ⟨gt, rfl, hbz, hRz⟩
    rw [hop.2] at hRz
    have HT : Hid (Rn J Fd2 wz gt ⟨x, z, sp1, dat0.set SA ab⟩) := hRz
    have HN : Hid (Rn J Fd2 wz gn ⟨x, z, sp1, dat0.set SA ab⟩) := hN10.on hbz
    have hDz := hD10.on hbz
    have HBw : Hid (Below w.heap.size w wz) := hbw1.trans (hDz.bel.mono hbw1.size)
    have hcz := (hDz.bel.block _ (Array.getElem?_eq_some_iff.1 HA1.out).1).trans HA1.out
    have Hb0 : Hid (wz.cell? ⟨w.heap.size, 0, none⟩ = some (.int .i64 (SA : Int))) := (cell_of_row wz _ 0 _ 56 (0, 0) hcz).trans rfl
    have Hb1 : Hid (wz.cell? ⟨w.heap.size, 1, none⟩ = some (.slice aa an ac)) := (cell_of_row wz _ 1 _ 56 (0, 0) hcz).trans rfl
    have Hby : Hid (Bytes wz aa an ab) := HA.out.by_.on HBw.out
    have Hget : Hid (getS ⟨x, z, sp1, dat0.set SA ab⟩ (SA : Int) = ab) := by
      show _ = _
      unfold getS
      rw [if_pos (by omega), Int.toNat_natCast, List.getD_eq_getElem?_getD, List.getElem?_set_self (by simpa [dat0] using hS16)]
      rfl
    have hSA : (SA : Int) < 16 := by omega
    clear hRz hN10 hDz hD10 hbz hop Hon hcz hok hok2 hl6 hl10 hw6 hw0 hD2 hbl hbl2
    go_wp2_with fail
    refine region_L (fun w' => Below wz.heap.size wz w') 14 (by kernel_rfl) ?_
    have HTa : Hid (Rn J Fd2 wz.drew gt ⟨x, z, sp1, dat0.set SA ab⟩) := HT.out.on ((Below.refl _ _).drew)
    have HNa : Hid (Rn J Fd2 wz.drew gn ⟨x, z, sp1, dat0.set SA ab⟩) := HN.out.on ((Below.refl _ _).drew)
    have HBa : Hid (Below w.heap.size w wz.drew) := HBw.out.drew
    have HBz : Hid (Below wz.heap.size wz wz.drew) := (Below.refl _ _).drew
    generalize wz.drew = va at *
    have hHeld : (fun w' => Below wz.heap.size wz w') _ := HBz.out
    have hne : Nonempty (Sub (fun w' => Below wz.heap.size wz w')) := ⟨⟨_, hHeld⟩⟩
    have k0 : ∀ s : Sub (fun w' => Below wz.heap.size wz w'), s.w.cell? ⟨w.heap.size, 0, none⟩ = some (.int .i64 (SA : Int)) := fun s => cell_below Hb0.out s.ok
    have k1 : ∀ s : Sub (fun w' => Below wz.heap.size wz w'), s.w.cell? ⟨w.heap.size, 1, none⟩ = some (.slice aa an ac) := fun s => cell_below Hb1.out s.ok
    have k2 : ∀ s : Sub (fun w' => Below wz.heap.size wz w'), (convert 25 9 (.slice aa an ac)).run Try.prog s.w = .ok (.string (strOfNums ab)) s.w := fun s => conv_b (Hby.out.on s.ok)
    refine take_L (i := 0) rfl (by kernel_rfl) (by kernel_rfl) (by kernel_rfl) (by kernel_rfl) (fun _ _ _ _ h => h) (by exact hHeld) (fun K hK => ?_)
    go_simp
    refine hK _ ?_
    clear hK K
    refine take_L (i := 1) rfl (by kernel_rfl) (by kernel_rfl) (by kernel_rfl) (by kernel_rfl) (fun _ _ _ _ h => h) (by exact hHeld) (fun K hK => ?_)
    go_simp
    refine hK _ ?_
    clear hK K
    refine one_L (i := 2) (by kernel_rfl) rfl (fun K hK => ?_)
    go_simp
    refine (rsame J HTa.out HNa.out rfl rfl).mono ?_
    rintro _ vb ⟨rfl, hbv⟩
    have HTb : Hid (Rn J Fd2 vb gt ⟨x, z, sp1, dat0.set SA ab⟩) := HTa.out.on hbv
    have HBb : Hid (Below w.heap.size w vb) := HBa.out.trans (hbv.mono HBa.out.size)
    replace hHeld : (fun w' => Below wz.heap.size wz w') _ := (Below.trans hHeld (hbv.mono hHeld.size))
    refine hK.out _ _ (fun _ => hHeld) ?_
    clear hK K
    refine take_L (i := 3) rfl (by kernel_rfl) (by kernel_rfl) (by kernel_rfl) (by kernel_rfl) (fun _ _ _ _ h => h) (by exact hHeld) (fun K hK => ?_)
    go_simp
    refine hK _ ?_
    clear hK K
    refine take_L (i := 4) rfl (by kernel_rfl) (by kernel_rfl) (by kernel_rfl) (by kernel_rfl) (fun _ _ _ _ h => h) (by exact hHeld) (fun K hK => ?_)
    go_simp
    refine hK _ ?_
    clear hK K
    refine take_L (i := 5) rfl (by kernel_rfl) (by kernel_rfl) (by kernel_rfl) (by kernel_rfl) (fun _ _ _ _ h => h) (by exact hHeld) (fun K hK => ?_)
    go_simp
    refine hK _ ?_
    clear hK K
    refine take_L (i := 6) rfl (by kernel_rfl) (by kernel_rfl) (by kernel_rfl) (by kernel_rfl) (fun _ _ _ _ h => h) (by exact hHeld) (fun K hK => ?_)
    go_simp
    refine hK _ ?_
    clear hK K
    refine take_L (i := 9) rfl (by kernel_rfl) (by kernel_rfl) (by kernel_rfl) (by kernel_rfl) (fun _ _ _ _ h => h) (by exact hHeld) (fun K hK => ?_)
    go_simp
    refine hK _ ?_
    clear hK K
    refine take_L (i := 10) rfl (by kernel_rfl) (by kernel_rfl) (by kernel_rfl) (by kernel_rfl) (fun _ _ _ _ h => h) (by exact hHeld) (fun K hK => ?_)
    go_simp
    refine hK _ ?_
    clear hK K
    refine take_L (i := 11) rfl (by kernel_rfl) (by kernel_rfl) (by kernel_rfl) (by kernel_rfl) (fun _ _ _ _ h => h) (by exact hHeld) (fun K hK => ?_)
    go_simp
    refine hK _ ?_
    clear hK K
    refine one_L (i := 7) (by kernel_rfl) rfl (fun K hK => ?_)
    go_simp
    refine (rget J HTb.out (SA : Int) (by unfold I64; omega)).mono ?_
    rintro _ vc ⟨hcv, xa, xc, rfl, hxy⟩
    have Hxy : Hid (Bytes vc xa (getS ⟨x, z, sp1, dat0.set SA ab⟩ (SA : Int)).length (getS ⟨x, z, sp1, dat0.set SA ab⟩ (SA : Int))) := hxy
    have HBc : Hid (Below w.heap.size w vc) := HBb.out.trans (hcv.mono HBb.out.size)
    rw [Hget.out] at Hxy ⊢
    clear hxy
    replace hHeld : (fun w' => Below wz.heap.size wz w') _ := (Below.trans hHeld (hcv.mono hHeld.size))
    refine hK.out _ _ (fun _ => hHeld) ?_
    clear hK K
    refine strong_L (S' := fun w' => Below wz.heap.size wz w' ∧ Below vc.heap.size vc w') (fun _ h => h.1) _ _ _ _ ?_
    replace hHeld : (fun w' => Below wz.heap.size wz w' ∧ Below vc.heap.size vc w') _ := ⟨hHeld, Below.refl _ _⟩
    have hne2 : Nonempty (Sub (fun w' => Below wz.heap.size wz w' ∧ Below vc.heap.size vc w')) := ⟨⟨_, hHeld⟩⟩
    have k5 : ∀ s : Sub (fun w' => Below wz.heap.size wz w' ∧ Below vc.heap.size vc w'), (convert 25 9 (.slice xa ab.length xc)).run Try.prog s.w = .ok (.string (strOfNums ab)) s.w := fun s => conv_b (Hxy.out.on s.ok.2)
    have j0 : ∀ s : Sub (fun w' => Below wz.heap.size wz w' ∧ Below vc.heap.size vc w'), s.w.cell? ⟨w.heap.size, 0, none⟩ = some (.int .i64 (SA : Int)) := fun s => cell_below Hb0.out s.ok.1
    have j1 : ∀ s : Sub (fun w' => Below wz.heap.size wz w' ∧ Below vc.heap.size vc w'), s.w.cell? ⟨w.heap.size, 1, none⟩ = some (.slice aa an ac) := fun s => cell_below Hb1.out s.ok.1
    have j2 : ∀ s : Sub (fun w' => Below wz.heap.size wz w' ∧ Below vc.heap.size vc w'), (convert 25 9 (.slice aa an ac)).run Try.prog s.w = .ok (.string (strOfNums ab)) s.w := fun s => conv_b (Hby.out.on s.ok.1)
    refine take_L (i := 8) rfl (by kernel_rfl) (by kernel_rfl) (by kernel_rfl) (by kernel_rfl) (fun _ _ _ _ h => h) (by exact hHeld) (fun K hK => ?_)
    go_simp
    refine hK _ ?_
    clear hK K
    refine take_L (i := 12) rfl (by kernel_rfl) (by kernel_rfl) (by kernel_rfl) (by kernel_rfl) (fun _ _ _ _ h => h) (by exact hHeld) (fun K hK => ?_)
    go_simp
    refine hK _ ?_
    clear hK K
    refine take_L (i := 13) rfl (by kernel_rfl) (by kernel_rfl) (by kernel_rfl) (by kernel_rfl) (fun _ _ _ _ h => h) (by exact hHeld) (fun K hK => ?_)
    go_simp
    refine hK _ ?_
    clear hK K
    refine one_L (i := 14) (by kernel_rfl) rfl (fun K hK => ?_)
    go_simp
    refine hK.out _ _ (fun h => absurd rfl h) ?_
    clear hK K
    refine done_L (by kernel_rfl) ?_ _
    have R := HP.out _ HBc.out
    clear hHeld hne2 k0 k1 k2 k5 j0 j1 j2 HP
    go_wp2
    exact R
end Go.Proofs.Ytdjhlpllffakpaa
