/-
  The law's same: two regions that tell the same.
-/
import Derived.Test.YtdjhlpllffakpaaGtells
set_option maxRecDepth 20000
namespace Go.Proofs.Ytdjhlpllffakpaa
open Go.RowKit

set_option maxHeartbeats 4000000 in
theorem same_c (J : RSpec) (F1 F2 : Nat → Prop) (g1 g2 : Nat) (ρ1 ρ2 : Rho) (w : World) (hG : J.RG F1 w g1 ρ1) (hH : J.RG F2 w g2 ρ2) (hs : ρ1.sp = ρ2.sp) (hd : ρ1.dat = ρ2.dat) :
    Calls Try.prog 21 #[.pointer (some ⟨g1, 0, none⟩), .pointer (some ⟨g2, 0, none⟩)] w fun e w' => e = .returned (.bool true) ∧ Below w.heap.size w w' := by
  obtain ⟨Post, hPost⟩ : ∃ Post : Ending → World → Prop, Post = fun e w' => e = .returned (.bool true) ∧ Below w.heap.size w w' := ⟨_, rfl⟩
  rw [← hPost]
  have HP : Hid (∀ w', Below w.heap.size w w' → Post (.returned (.bool true)) w') := fun w' h => by rw [hPost]; exact ⟨rfl, h⟩
  clear hPost
  have hn1 := (J.rg_good hG).1.n
  have hn2 := (J.rg_good hH).1.n
  have hm1 := (J.rg_good hG).1.m
  have Hm1 : Hid (ρ1.dat.length = 16) := hm1
  have Hd : Hid (ρ1.dat = ρ2.dat) := hd
  have Hs : Hid (ρ1.sp = ρ2.sp) := hs
  clear hm1 hd hs
  go_enter Try.func21, Try.ntmps21
  go_wp2_with fail
  refine (J.live_ F1 g1 ρ1 w hG).mono ?_
  rintro _ w1 ⟨hb1, la, lc, rfl, hLv, _⟩
  have hG1 : J.RG F1 w1 g1 ρ1 := J.rg_keep hG (fun k hk => hb1.block k (J.rg_lt hG k hk)) hb1.size
  have hH1 : J.RG F2 w1 g2 ρ2 := J.rg_keep hH (fun k hk => hb1.block k (J.rg_lt hH k hk)) hb1.size
  rw [hn1]
  go_wp2_with fail
  refine (J.live_ F2 g2 ρ2 w1 hH1).mono ?_
  rintro _ w2 ⟨hb2, ka, kc, rfl, hKv, _⟩
  have HG2 : Hid (J.RG F1 w2 g1 ρ1) := J.rg_keep hG1 (fun k hk => hb2.block k (J.rg_lt hG1 k hk)) hb2.size
  have HH2 : Hid (J.RG F2 w2 g2 ρ2) := J.rg_keep hH1 (fun k hk => hb2.block k (J.rg_lt hH1 k hk)) hb2.size
  have HLv2 : Hid (SpsAt w2 la ρ1.sp) := hLv.on hb2
  have HKv2 : Hid (SpsAt w2 ka ρ1.sp) := by rw [Hs.out]; exact hKv
  have HB2 : Hid (Below w.heap.size w w2) := hb1.trans (hb2.mono hb1.size)
  have Hn16 : Hid (ρ1.sp.length = 16) := hn1
  rw [hn2]
  clear hb1 hb2 hLv hKv hG hG1 hH hH1 hn1 hn2
  go_wp2_with fail
  go_loopw [7] (fun v wr => ∃ (j : Nat), j ≤ 16 ∧ v = .int .i64 (j : Int) ∧ Hid (Below w2.heap.size w2 wr)) (fun v _ => 16 - (intOf v).toNat)
  case atStart => exact ⟨0, by omega, rfl, Below.refl _ _⟩
  case round =>
    obtain ⟨j, hj, rfl, HBr⟩ := hrel
    have HG : Hid (J.RG F1 wr g1 ρ1) := J.rg_keep HG2.out (fun k hk => HBr.out.block k (J.rg_lt HG2.out k hk)) HBr.out.size
    have HH : Hid (J.RG F2 wr g2 ρ2) := J.rg_keep HH2.out (fun k hk => HBr.out.block k (J.rg_lt HH2.out k hk)) HBr.out.size
    by_cases hj1 : j < 16
    · have hj2 : (j : Int) < 16 := by omega
      have hjs : j < ρ1.sp.length := by rw [Hn16.out]; exact hj1
      have hjd : j < ρ1.dat.length := by rw [Hm1.out]; exact hj1
      obtain ⟨lb, lo, rfl, h0, h1⟩ := HLv2.out.at j hjs
      obtain ⟨kb, ko, rfl, h2, h3⟩ := HKv2.out.at j hjs
      obtain ⟨ob, hob⟩ : ∃ ob, ob = ρ1.dat[j] := ⟨_, rfl⟩
      have Hg1 : Hid (getS ρ1 (j : Int) = ob) := by
        show _ = _
        unfold getS
        rw [if_pos (by omega), Int.toNat_natCast, List.getD_eq_getElem?_getD, List.getElem?_eq_getElem hjd, Option.getD_some, hob]
      have Hg2 : Hid (getS ρ2 (j : Int) = ob) := by
        show _ = _
        rw [← Hg1.out]
        unfold getS
        rw [Hd.out]
      obtain ⟨fA, mA, hA⟩ : ∃ fA mA, ρ1.sp[j] = (fA, mA) := ⟨_, _, rfl⟩
      rw [hA] at h0 h1 h2 h3
      simp only at h0 h1 h2 h3
      have H0 : Hid (w2.cell? ⟨lb, lo + j * 2, none⟩ = some (.int .i64 (fA : Int))) := h0
      have H1 : Hid (w2.cell? ⟨lb, lo + j * 2 + 1, none⟩ = some (.int .i64 (mA : Int))) := h1
      have H2 : Hid (w2.cell? ⟨kb, ko + j * 2, none⟩ = some (.int .i64 (fA : Int))) := h2
      have H3 : Hid (w2.cell? ⟨kb, ko + j * 2 + 1, none⟩ = some (.int .i64 (mA : Int))) := h3
      clear h0 h1 h2 h3 hob hA HP
      go_wp2_with fail
      refine region_L (fun w' => Below w2.heap.size w2 w') 20 (by kernel_rfl) ?_
      have HGa : Hid (J.RG F1 wr.drew g1 ρ1) := J.rg_keep HG.out (fun _ _ => rfl) (Nat.le_refl _)
      have HHa : Hid (J.RG F2 wr.drew g2 ρ2) := J.rg_keep HH.out (fun _ _ => rfl) (Nat.le_refl _)
      have HBv : Hid (Below w2.heap.size w2 wr.drew) := HBr.out.drew
      generalize wr.drew = va at *
      have hHeld : (fun w' => Below w2.heap.size w2 w') _ := HBv.out
      have hne : Nonempty (Sub (fun w' => Below w2.heap.size w2 w')) := ⟨⟨_, hHeld⟩⟩
      have k0 : ∀ s : Sub (fun w' => Below w2.heap.size w2 w'), s.w.cell? ⟨lb, lo + j * 2, none⟩ = some (.int .i64 (fA : Int)) := fun s => cell_below H0.out s.ok
      have k1 : ∀ s : Sub (fun w' => Below w2.heap.size w2 w'), s.w.cell? ⟨lb, lo + j * 2 + 1, none⟩ = some (.int .i64 (mA : Int)) := fun s => cell_below H1.out s.ok
      have k2 : ∀ s : Sub (fun w' => Below w2.heap.size w2 w'), s.w.cell? ⟨kb, ko + j * 2, none⟩ = some (.int .i64 (fA : Int)) := fun s => cell_below H2.out s.ok
      have k3 : ∀ s : Sub (fun w' => Below w2.heap.size w2 w'), s.w.cell? ⟨kb, ko + j * 2 + 1, none⟩ = some (.int .i64 (mA : Int)) := fun s => cell_below H3.out s.ok
      refine take_N (i := 0) rfl (by kernel_rfl) (by kernel_rfl) (by kernel_rfl) (by rfl) (fun _ _ _ _ h => h) (by exact hHeld) (fun K hK => ?_)
      go_simp
      refine hK _ ?_
      clear hK K
      refine take_N (i := 1) rfl (by kernel_rfl) (by kernel_rfl) (by kernel_rfl) (by rfl) (fun _ _ _ _ h => h) (by exact hHeld) (fun K hK => ?_)
      go_simp
      refine hK _ ?_
      clear hK K
      refine take_N (i := 2) rfl (by kernel_rfl) (by kernel_rfl) (by kernel_rfl) (by rfl) (fun _ _ _ _ h => h) (by exact hHeld) (fun K hK => ?_)
      go_simp
      refine hK _ ?_
      clear hK K
      refine take_N (i := 3) rfl (by kernel_rfl) (by kernel_rfl) (by kernel_rfl) (by rfl) (fun _ _ _ _ h => h) (by exact hHeld) (fun K hK => ?_)
      go_simp
      refine hK _ ?_
      clear hK K
      refine take_N (i := 4) rfl (by kernel_rfl) (by kernel_rfl) (by kernel_rfl) (by rfl) (fun _ _ _ _ h => h) (by exact hHeld) (fun K hK => ?_)
      go_simp
      refine hK _ ?_
      clear hK K
      refine take_N (i := 5) rfl (by kernel_rfl) (by kernel_rfl) (by kernel_rfl) (by rfl) (fun _ _ _ _ h => h) (by exact hHeld) (fun K hK => ?_)
      go_simp
      refine hK _ ?_
      clear hK K
      refine take_N (i := 6) rfl (by kernel_rfl) (by kernel_rfl) (by kernel_rfl) (by rfl) (fun _ _ _ _ h => h) (by exact hHeld) (fun K hK => ?_)
      go_simp
      refine hK _ ?_
      clear hK K
      refine take_N (i := 7) rfl (by kernel_rfl) (by kernel_rfl) (by kernel_rfl) (by rfl) (fun _ _ _ _ h => h) (by exact hHeld) (fun K hK => ?_)
      go_simp
      refine hK _ ?_
      clear hK K
      refine take_N (i := 8) rfl (by kernel_rfl) (by kernel_rfl) (by kernel_rfl) (by rfl) (fun _ _ _ _ h => h) (by exact hHeld) (fun K hK => ?_)
      go_simp
      refine hK _ ?_
      clear hK K
      refine take_N (i := 9) rfl (by kernel_rfl) (by kernel_rfl) (by kernel_rfl) (by rfl) (fun _ _ _ _ h => h) (by exact hHeld) (fun K hK => ?_)
      go_simp
      refine hK _ ?_
      clear hK K
      refine take_N (i := 10) rfl (by kernel_rfl) (by kernel_rfl) (by kernel_rfl) (by rfl) (fun _ _ _ _ h => h) (by exact hHeld) (fun K hK => ?_)
      go_simp
      refine hK _ ?_
      clear hK K
      refine take_N (i := 11) rfl (by kernel_rfl) (by kernel_rfl) (by kernel_rfl) (by rfl) (fun _ _ _ _ h => h) (by exact hHeld) (fun K hK => ?_)
      go_simp
      refine hK _ ?_
      clear hK K
      refine take_N (i := 14) rfl (by kernel_rfl) (by kernel_rfl) (by kernel_rfl) (by rfl) (fun _ _ _ _ h => h) (by exact hHeld) (fun K hK => ?_)
      go_simp
      refine hK _ ?_
      clear hK K
      refine take_N (i := 15) rfl (by kernel_rfl) (by kernel_rfl) (by kernel_rfl) (by rfl) (fun _ _ _ _ h => h) (by exact hHeld) (fun K hK => ?_)
      go_simp
      refine hK _ ?_
      clear hK K
      refine one_L (i := 12) (by kernel_rfl) rfl (fun K hK => ?_)
      go_simp
      refine (J.get_ F1 g1 ρ1 (j : Int) va (by unfold I64; omega) HGa.out).mono ?_
      rintro _ vb ⟨hbv, ga, gc, rfl, hby⟩
      have Hby : Hid (Bytes vb ga (getS ρ1 (j : Int)).length (getS ρ1 (j : Int))) := hby
      have HHb : Hid (J.RG F2 vb g2 ρ2) := J.rg_keep HHa.out (fun k hk => hbv.block k (J.rg_lt HHa.out k hk)) hbv.size
      rw [Hg1.out] at Hby ⊢
      clear hby
      replace hHeld : (fun w' => Below w2.heap.size w2 w') _ := (Below.trans hHeld (hbv.mono hHeld.size))
      refine hK.out _ _ (fun _ => hHeld) ?_
      clear hK K
      refine strong_L (S' := fun w' => Below w2.heap.size w2 w' ∧ Below vb.heap.size vb w') (fun _ h => h.1) _ _ _ _ ?_
      replace hHeld : (fun w' => Below w2.heap.size w2 w' ∧ Below vb.heap.size vb w') _ := ⟨hHeld, Below.refl _ _⟩
      have hne2 : Nonempty (Sub (fun w' => Below w2.heap.size w2 w' ∧ Below vb.heap.size vb w')) := ⟨⟨_, hHeld⟩⟩
      have k5 : ∀ s : Sub (fun w' => Below w2.heap.size w2 w' ∧ Below vb.heap.size vb w'), (convert 25 9 (.slice ga ob.length gc)).run Try.prog s.w = .ok (.string (strOfNums ob)) s.w := fun s => conv_b (Hby.out.on s.ok.2)
      refine take_N (i := 13) rfl (by kernel_rfl) (by kernel_rfl) (by kernel_rfl) (by rfl) (fun _ _ _ _ h => h) (by exact hHeld) (fun K hK => ?_)
      go_simp
      refine hK _ ?_
      clear hK K
      refine one_L (i := 16) (by kernel_rfl) rfl (fun K hK => ?_)
      go_simp
      refine (J.get_ F2 g2 ρ2 (j : Int) vb (by unfold I64; omega) HHb.out).mono ?_
      rintro _ vc ⟨hcv, ha, hc, rfl, hcy⟩
      have Hcy : Hid (Bytes vc ha (getS ρ2 (j : Int)).length (getS ρ2 (j : Int))) := hcy
      rw [Hg2.out] at Hcy ⊢
      clear hcy
      replace hHeld : (fun w' => Below w2.heap.size w2 w' ∧ Below vb.heap.size vb w') _ := ⟨hHeld.1.trans (hcv.mono hHeld.1.size), hcv⟩
      refine hK.out _ _ (fun _ => hHeld) ?_
      clear hK K
      refine strong_L (S' := fun w' => Below w2.heap.size w2 w' ∧ Below vb.heap.size vb w' ∧ Below vc.heap.size vc w') (fun _ h => ⟨h.1, h.2.1⟩) _ _ _ _ ?_
      replace hHeld : (fun w' => Below w2.heap.size w2 w' ∧ Below vb.heap.size vb w' ∧ Below vc.heap.size vc w') _ := ⟨hHeld.1, hHeld.2, Below.refl _ _⟩
      have hne2 : Nonempty (Sub (fun w' => Below w2.heap.size w2 w' ∧ Below vb.heap.size vb w' ∧ Below vc.heap.size vc w')) := ⟨⟨_, hHeld⟩⟩
      have k6 : ∀ s : Sub (fun w' => Below w2.heap.size w2 w' ∧ Below vb.heap.size vb w' ∧ Below vc.heap.size vc w'), (convert 25 9 (.slice ha ob.length hc)).run Try.prog s.w = .ok (.string (strOfNums ob)) s.w := fun s => conv_b (Hcy.out.on s.ok.2.2)
      refine take_N (i := 17) rfl (by kernel_rfl) (by kernel_rfl) (by kernel_rfl) (by rfl) (fun _ _ _ _ h => h) (by exact hHeld) (fun K hK => ?_)
      go_simp
      refine hK _ ?_
      clear hK K
      refine take_N (i := 18) rfl (by kernel_rfl) (by kernel_rfl) (by kernel_rfl) (by rfl) (fun _ _ _ _ h => h) (by exact hHeld) (fun K hK => ?_)
      go_simp
      refine hK _ ?_
      clear hK K
      refine take_N (i := 19) rfl (by kernel_rfl) (by kernel_rfl) (by kernel_rfl) (by rfl) (fun _ _ _ _ h => h) (by exact hHeld) (fun K hK => ?_)
      go_simp
      refine hK _ ?_
      clear hK K
      refine done_L (by kernel_rfl) ?_ _
      have HBn : Hid (Below w2.heap.size w2 vc) := hHeld.1
      clear hHeld hne hne2 k0 k1 k2 k3 k5 k6 HGa HHa HBv Hby Hcy HHb HG HH HBr H0 H1 H2 H3 Hg1 Hg2
      go_wp2
      go_roundw
      case rel => exact ⟨j + 1, by omega, by go_num, HBn⟩
      case measure => simp [intOf]; omega
    · obtain rfl : j = 16 := by omega
      have R := HP.out wr (HB2.out.trans (HBr.out.mono HB2.out.size))
      clear HP HG HH HBr
      go_wp2
      exact R
end Go.Proofs.Ytdjhlpllffakpaa
