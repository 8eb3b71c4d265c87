/-
  LightShuts: the walk.
-/
import Derived.Test.YtjeapaojbkicmabDoorLaw0
import Derived.BigQuiet
import Derived.Deep.QuietTactic
set_option maxRecDepth 20000
namespace Go.Proofs.YtjeapaojbkicmabDoor
open C Go.RowKit L

theorem loss_shut {k : Int} (h : lossK k = 16) : passK k = false := by
  cases e : passK k
  · rfl
  · have := pass_loss e
    omega
set_option maxRecDepth 1000000 in
set_option maxHeartbeats 16000000 in
theorem lightShuts_walk (la : Option Addr) (lb lo n lc : Nat) (P : Nat → Nat → Int) (w : World) (hn : n ≤ 9223372036854775807) (hla : 0 < n → la = some ⟨lb, lo, none⟩) (hc : ∀ i, i < n → ∀ f, f < 7 → w.cell? ⟨lb, lo + i * 7 + f, none⟩ = some (.int .i64 (P i f))) (hT : Tabs w) :
    Calls Tryd.prog 3 #[.slice la n lc] w fun e w' => e = .returned (.bool true) ∧ Below w.heap.size w w' := by
  have HI : Hid (n ≤ 9223372036854775807 ∧ (0 < n → la = some ⟨lb, lo, none⟩) ∧ ∀ i, i < n → ∀ f, f < 7 → w.cell? ⟨lb, lo + i * 7 + f, none⟩ = some (.int .i64 (P i f))) := ⟨hn, hla, hc⟩
  have HT : Hid (Tabs w) := hT
  have haw := awake_c w hT
  clear hn hla hc hT
  go_enter Tryd.func3, Tryd.ntmps3
  go_wp2_with fail
  refine haw.mono ?_
  clear haw
  rintro _ w1 ⟨rfl, hb1⟩
  have H1 : Hid (Below w.heap.size w w1) := hb1
  have hsc := scape_c la lb lo n lc P w1 HI.out.1 HI.out.2.1 (fun i hi f hf => (hb1.cell (p := ⟨lb, lo + i * 7 + f, none⟩) (World.block_lt_of_cell? w _ (HI.out.2.2 i hi f hf))).trans (HI.out.2.2 i hi f hf))
  clear hb1
  go_wp2_with fail
  refine hsc.mono ?_
  clear hsc
  rintro _ w2 ⟨b, cv, gs, css, rfl, hG⟩
  have HG : Hid ((css.length = 9 ∧ ∀ j, j < 9 → (css.getD j []).length = 32768) ∧ (∀ j, j < 9 → Kinds (css.getD j [])) ∧ Nr w2 b gs (fun _ => 32768) css ∧ Below w.heap.size w w2 ∧ Tabs w2 ∧ (∀ i j, i < 9 → j < 9 → gs i = gs j → i = j)) := by
    have hb : Below w.heap.size w w2 := H1.out.trans (hG.bel.mono H1.out.size)
    exact ⟨⟨hG.sh.n, hG.sh.len⟩, sh_kinds hG.sh (partsBd air_bd _), hG.nr, hb, HT.out.on hb, hG.ap⟩
  clear hG H1 HI HT
  have hch := chunks_c b cv gs (fun _ => 32768) css w2 HG.out.2.2.1 HG.out.2.1
  go_wp2_with fail
  refine hch.mono ?_
  clear hch
  rintro _ w3 ⟨av, c2, gs2, rfl, hM⟩
  obtain ⟨b2, rfl, hN⟩ := many_nine hM HG.out.1.2 HG.out.2.1
  have HM : Hid (Below w2.heap.size w2 w3 ∧ Tabs w3 ∧ N9 w3 b2 (fun i => gs2.getD i 0) css) := ⟨hM.bel, HG.out.2.2.2.2.1.on hM.bel, hN⟩
  clear hM hN
  have hnn : (binOp .eql 26 (.slice (some ⟨b2, 0, none⟩) 9 c2) (.slice none 0 0)).run Tryd.prog w3 = .ok (.bool false) w3 := by kernel_rfl
  have hfl := flood_c b2 c2 _ css w3 HM.out.2.2 HM.out.2.1
  go_wp2_with fail
  refine hfl.mono ?_
  clear hfl hnn
  rintro _ w4 ⟨x, y, rfl, hF⟩
  obtain ⟨ra, hra, hsky⟩ := hF.sky
  obtain ⟨rb, hrb, hlamp⟩ := hF.lamp
  have hb24 : Below w2.heap.size w2 w4 := HM.out.1.trans (hF.bel.mono HM.out.1.size)
  have hN4 : Nr w4 b gs (fun _ => 32768) css := HG.out.2.2.1.on hb24
  obtain ⟨gk, hgk⟩ : ∃ gk, gs 4 = gk := ⟨_, rfl⟩
  have y40 : w4.cell? ⟨b, 4, none⟩ = some (.slice (some ⟨gk, 0, none⟩) 32768 32768) := by
    have h := hN4.out 4 (by omega)
    rwa [hgk] at h
  obtain ⟨K4, hK4⟩ : ∃ K4, css.getD 4 [] = K4 := ⟨_, rfl⟩
  have hp4 : Pre w4 gk 5 K4 := by
    have h := hN4.row 4 (by omega)
    rwa [hgk, hK4] at h
  have HK : Hid (K4.length = 32768 ∧ Kinds K4) := by
    rw [← hK4]
    exact ⟨HG.out.1.2 4 (by omega), HG.out.2.1 4 (by omega)⟩
  have HF : Hid (Blk w4 x 5 ra ∧ Blk w4 y 5 rb ∧ Pre w4 gk 5 K4 ∧ w4.cell? ⟨b, 4, none⟩ = some (.slice (some ⟨gk, 0, none⟩) 32768 32768) ∧ Below w.heap.size w w4) := ⟨hra, hrb, hp4, y40, HG.out.2.2.2.1.trans (hb24.mono HG.out.2.2.2.1.size)⟩
  have HQ : Hid (∀ k, k < 32768 → (0 ≤ ra.getD k 0 ∧ ra.getD k 0 ≤ 15) ∧ (0 ≤ rb.getD k 0 ∧ rb.getD k 0 ≤ 15) ∧ (lossK (K4.getD k 0) = 16 → ra.getD k 0 = 0 ∧ rb.getD k 0 = (emitsK (K4.getD k 0) : Int))) := fun k hk => by
    rw [← hK4]
    exact ⟨hsky.bd rfl hk, hlamp.bd rfl hk, fun h => ⟨shut_sky hsky hk (loss_shut h), shut_lamp hlamp hk (loss_shut h)⟩⟩
  have HLn : Hid (ra.length = 32768 ∧ rb.length = 32768) := ⟨hsky.1, hlamp.1⟩
  clear hra hrb hsky hlamp hb24 hN4 hgk hK4 y40 hp4 hF HM HG
  have H0 : Hid (Below w4.heap.size w4 w4) := Below.refl _ _
  go_wp2
  go_loopw [9] (fun vi wr => ∃ k : Nat, k ≤ 32768 ∧ vi = .int .i64 (k : Int) ∧ Hid (Below w4.heap.size w4 wr)) (fun vi _ => 32768 - (intOf vi).toNat)
  case atStart => exact ⟨0, by omega, rfl, H0⟩
  case round =>
    clear H0
    obtain ⟨k, hk, rfl, HS⟩ := hrel
    by_cases hlt : k < 32768
    case neg =>
      have hlt' : ¬ (k : Int) < 32768 := by omega
      have R : Hid (Below w.heap.size w wr) := HF.out.2.2.2.2.trans (HS.out.mono HF.out.2.2.2.2.size)
      clear HS HF HQ HLn HK hlt
      go_wp2
      go_ret
      exact ⟨rfl, R.out⟩
    have hlt' : (k : Int) < 32768 := by omega
    have wk : IntKind.i64.wrap ((k : Int) + 1) = ((k + 1 : Nat) : Int) := by rw [IntKind.wrap_i64]; omega
    obtain ⟨f1, f2, f3, f4, f5⟩ := HF.out
    have y4 := cell_below f4 HS.out
    have ya := (f1.below HS.out f1.lt).cell (k := k) (by rw [HLn.out.1]; exact hlt)
    have yb := (f2.below HS.out f2.lt).cell (k := k) (by rw [HLn.out.2]; exact hlt)
    have yk := (f3.below HS.out f3.lt).cell (k := k) (by rw [HK.out.1]; exact hlt)
    obtain ⟨⟨A0, A1⟩, ⟨B0, B1⟩, hq⟩ := HQ.out k hlt
    have hkb := HK.out.2.at k
    obtain ⟨A, hA⟩ : ∃ A, ra.getD k 0 = A := ⟨_, rfl⟩
    obtain ⟨B, hB⟩ : ∃ B, rb.getD k 0 = B := ⟨_, rfl⟩
    obtain ⟨kv, hkv⟩ : ∃ kv, K4.getD k 0 = kv := ⟨_, rfl⟩
    rw [hA] at ya A0 A1 hq
    rw [hB] at yb B0 B1 hq
    rw [hkv] at yk hkb hq
    have hop := ropaque_c kv hkb
    have k0 : 0 ≤ kv := hkb.1
    have k1 : kv ≤ 16 := hkb.2
    have wkv : IntKind.i64.wrap kv = kv := by rw [IntKind.wrap_i64]; omega
    have HS0 : Hid (Below w4.heap.size w4 wr) := HS.out
    clear f1 f2 f3 f4 f5 hA hB hkv HS HF HQ HLn HK hlt
    go_wp2_with fail
    refine (hop _).mono ?_
    rintro _ v4 ⟨rfl, hv⟩
    subst hv
    clear hop
    have HS4 : Hid (Below w4.heap.size w4 v4) := HS0.out
    clear HS0
    have gA : ¬ 15 < A := by omega
    have gB : ¬ 15 < B := by omega
    have gA' : decide (15 < A) = false := decide_eq_false gA
    have gB' : decide (15 < B) = false := decide_eq_false gB
    by_cases hs : lossK kv = 16
    case neg =>
      have hs' : decide (lossK kv = 16) = false := decide_eq_false hs
      clear hq hkb
      rw [hs']
      clear hs hs'
      go_wp2_with fail
      go_big_quiet (fail)
      have HE : Hid (Below w4.heap.size w4 (v4.drewN nq)) := HS4.out.trans (below_drewN (Below.refl _ _) _)
      clear HS4 y4 yk ya yb
      go_wp2
      exact ⟨⟨k + 1, by omega, by simp, HE⟩, by simp [intOf]; omega⟩
    have hs' : decide (lossK kv = 16) = true := decide_eq_true hs
    obtain ⟨hA0, hBe⟩ := hq hs
    have hem := remits_c kv hkb
    rw [← hBe] at hem
    rw [hs']
    clear hs hs' hq hkb
    have gZ : ¬ 0 < A := by omega
    have gZ' : decide (0 < A) = false := decide_eq_false gZ
    have wB : IntKind.i64.wrap B = B := by rw [IntKind.wrap_i64]; omega
    clear hA0 hBe
    go_wp2_with fail
    go_big_quiet (first | (go_at_call 9; refine Calls.quiet_of_same (hem _)))
    have HE : Hid (Below w4.heap.size w4 (v4.drewN nq)) := HS4.out.trans (below_drewN (Below.refl _ _) _)
    clear HS4 y4 yk ya yb
    go_wp2
    exact ⟨⟨k + 1, by omega, by simp, HE⟩, by simp [intOf]; omega⟩
end Go.Proofs.YtjeapaojbkicmabDoor
