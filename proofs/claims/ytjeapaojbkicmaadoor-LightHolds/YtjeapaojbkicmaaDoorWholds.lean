/-
  LightHolds: the walk.
-/
import Derived.Test.YtjeapaojbkicmaaDoorLaw0
import Derived.Test.YtjeapaojbkicmaaDoorLnbs
import Derived.Test.YtjeapaojbkicmaaDoorLskyw
set_option maxRecDepth 20000
namespace Go.Proofs.YtjeapaojbkicmaaDoor
open C Go.RowKit L

theorem sky_two (css : List (List Int)) (i : Nat) : skyN 16 16 128 (fun j => (css.getD 4 []).getD j 0) i = 15 ∨ skyN 16 16 128 (fun j => (css.getD 4 []).getD j 0) i = 0 := by
  unfold skyN
  split
  · exact .inl rfl
  · exact .inr rfl
set_option maxRecDepth 1000000 in
set_option maxHeartbeats 16000000 in
theorem lightHolds_walk (la : Option Addr) (lb lo n lc : Nat) (P : Nat → Nat → Int) (w : World) (hn : n ≤ 9223372036854775807) (hla : 0 < n → la = some ⟨lb, lo, none⟩) (hc : ∀ i, i < n → ∀ f, f < 7 → w.cell? ⟨lb, lo + i * 7 + f, none⟩ = some (.int .i64 (P i f))) (hT : Tabs w) :
    Calls Tryd.prog 5 #[.slice la n lc] w fun e w' => e = .returned (.bool true) ∧ Below w.heap.size w w' := by
  have HI : Hid (n ≤ 9223372036854775807 ∧ (0 < n → la = some ⟨lb, lo, none⟩) ∧ ∀ i, i < n → ∀ f, f < 7 → w.cell? ⟨lb, lo + i * 7 + f, none⟩ = some (.int .i64 (P i f))) := ⟨hn, hla, hc⟩
  have HT : Hid (Tabs w) := hT
  have haw := awake_c w hT
  clear hn hla hc hT
  go_enter Tryd.func5, Tryd.ntmps5
  go_wp2_with fail
  refine haw.mono ?_
  clear haw
  rintro _ w1 ⟨rfl, hb1⟩
  have H1 : Hid (Below w.heap.size w w1) := hb1
  have hsc := scape_c la lb lo n lc P w1 HI.out.1 HI.out.2.1 (fun i hi f hf => (hb1.cell (p := ⟨lb, lo + i * 7 + f, none⟩) (World.block_lt_of_cell? w _ (HI.out.2.2 i hi f hf))).trans (HI.out.2.2 i hi f hf))
  clear hb1
  go_wp2_with fail
  refine hsc.mono ?_
  clear hsc
  rintro _ w2 ⟨b, cv, gs, css, rfl, hG⟩
  have HG : Hid ((css.length = 9 ∧ ∀ j, j < 9 → (css.getD j []).length = 32768) ∧ (∀ j, j < 9 → Kinds (css.getD j [])) ∧ Nr w2 b gs (fun _ => 32768) css ∧ Below w.heap.size w w2 ∧ Tabs w2 ∧ (∀ i j, i < 9 → j < 9 → gs i = gs j → i = j)) := by
    have hb : Below w.heap.size w w2 := H1.out.trans (hG.bel.mono H1.out.size)
    exact ⟨⟨hG.sh.n, hG.sh.len⟩, sh_kinds hG.sh (partsBd air_bd _), hG.nr, hb, HT.out.on hb, hG.ap⟩
  clear hG H1 HI HT
  have hch := chunks_c b cv gs (fun _ => 32768) css w2 HG.out.2.2.1 HG.out.2.1
  go_wp2_with fail
  refine hch.mono ?_
  clear hch
  rintro _ w3 ⟨av, c2, gs2, rfl, hM⟩
  obtain ⟨b2, rfl, hN⟩ := many_nine hM HG.out.1.2 HG.out.2.1
  have HM : Hid (Below w2.heap.size w2 w3 ∧ Tabs w3 ∧ N9 w3 b2 (fun i => gs2.getD i 0) css) := ⟨hM.bel, HG.out.2.2.2.2.1.on hM.bel, hN⟩
  clear hM hN
  have hnn : (binOp .eql 26 (.slice (some ⟨b2, 0, none⟩) 9 c2) (.slice none 0 0)).run Tryd.prog w3 = .ok (.bool false) w3 := by kernel_rfl
  have hfl := flood_c b2 c2 _ css w3 HM.out.2.2 HM.out.2.1
  go_wp2_with fail
  refine hfl.mono ?_
  clear hfl hnn
  rintro _ w4 ⟨x, y, rfl, hF⟩
  obtain ⟨ra, hra, hsky⟩ := hF.sky
  obtain ⟨rb, hrb, hlamp⟩ := hF.lamp
  have hb24 : Below w2.heap.size w2 w4 := HM.out.1.trans (hF.bel.mono HM.out.1.size)
  have hN4 : Nr w4 b gs (fun _ => 32768) css := HG.out.2.2.1.on hb24
  have HF : Hid (IsLight (skyC css) ra ∧ IsLight (lampC css) rb ∧ Blk w4 x 5 ra ∧ Blk w4 y 5 rb ∧ Nr w4 b gs (fun _ => 32768) css ∧ Below w.heap.size w w4 ∧ Kinds (css.getD 4 []) ∧ (css.getD 4 []).length = 32768) := ⟨hsky, hlamp, hra, hrb, hN4, HG.out.2.2.2.1.trans (hb24.mono HG.out.2.2.2.1.size), HG.out.2.1 4 (by omega), HG.out.1.2 4 (by omega)⟩
  have y4 : w4.cell? ⟨b, 4, none⟩ = some (.slice (some ⟨gs 4, 0, none⟩) 32768 32768) := hN4.out 4 (by omega)
  obtain ⟨gk, hgk⟩ : ∃ gk, gs 4 = gk := ⟨_, rfl⟩
  have Hgk : Hid (gs 4 = gk) := hgk
  rw [hgk] at y4
  clear hra hrb hsky hlamp hb24 hN4 hF HM HG hgk
  go_upto_region 10 with fail
  obtain ⟨g, hg⟩ : ∃ g, w4.heap.size = g := ⟨_, rfl⟩
  obtain ⟨w5, hw5⟩ : ∃ w5, w5 = w4.alloc (.cells #[.int .i64 16, .int .i64 16, .int .i64 128, .slice (some ⟨gk, 0, none⟩) 32768 32768] 41) := ⟨_, rfl⟩
  rw [← hw5, hg]
  have hb45 : Below w4.heap.size w4 w5 := by rw [hw5]; exact (Below.refl _ _).alloc (Nat.le_refl _) _
  have hfd : Fd w5 g 16 16 128 (.slice (some ⟨gk, 0, none⟩) 32768 32768) := by
    rw [hw5, ← hg]
    exact heap_alloc_new _ _
  have hpk : Pre w5 gk 5 (css.getD 4 []) := by
    have h := HF.out.2.2.2.2.1.row 4 (by omega)
    rw [Hgk.out] at h
    exact h.below hb45 h.lt
  have H5 : Hid (Below w4.heap.size w4 w5 ∧ Fd w5 g 16 16 128 (.slice (some ⟨gk, 0, none⟩) 32768 32768) ∧ Pre w5 gk 5 (css.getD 4 [])) := ⟨hb45, hfd, hpk⟩
  have hsk := rsky16_c g gk 32768 32768 (css.getD 4 []) w5 hfd hpk rfl HF.out.2.2.2.2.2.2.2 HF.out.2.2.2.2.2.2.1
  clear hw5 hg hb45 hfd hpk y4
  go_wp2_with fail
  refine hsk.mono ?_
  clear hsk
  rintro _ w6 ⟨gs3, sk, rfl, hlo, hbs, hskt, hb6⟩
  obtain ⟨K4, hK4⟩ : ∃ K4, css.getD 4 [] = K4 := ⟨_, rfl⟩
  have HK : Hid (css.getD 4 [] = K4) := hK4
  rw [hK4] at H5 hskt HF
  have H6 : Hid (Fd w6 g 16 16 128 (.slice (some ⟨gk, 0, none⟩) 32768 32768) ∧ Pre w6 gk 5 K4 ∧ Blk w6 gs3 5 sk ∧ (∀ I, I < 32768 → sk.getD I 0 = (skyN 16 16 128 (fun j => K4.getD j 0) I : Int)) ∧ sk.length = 32768 ∧ Blk w6 x 5 ra ∧ Blk w6 y 5 rb ∧ w6.cell? ⟨b, 4, none⟩ = some (.slice (some ⟨gk, 0, none⟩) 32768 32768) ∧ Below w.heap.size w w6 ∧ K4.length = 32768 ∧ Kinds K4 ∧ ra.length = 32768 ∧ rb.length = 32768) := by
    obtain ⟨h1, h2, h3⟩ := H5.out
    obtain ⟨f1, f2, f3, f4, f5, f6, f7, f8⟩ := HF.out
    have hb46 : Below w4.heap.size w4 w6 := h1.trans (hb6.mono h1.size)
    have f9 := f5.out 4 (by omega)
    rw [Hgk.out] at f9
    refine ⟨h2.on hb6, h3.below hb6 h3.lt, hbs, fun I hI => ?_, hskt.len, f3.below hb46 f3.lt, f4.below hb46 f4.lt, cell_below f9 hb46, f6.trans (hb46.mono f6.size), f8, f7, f1.1, f2.1⟩
    have := hskt.done (I % 256) (I / 256) (by omega) (by omega) (by omega)
    rwa [show I / 256 * 256 + I % 256 = I by omega] at this
  have HL : Hid (IsLight (skyC css) ra ∧ IsLight (lampC css) rb) := ⟨HF.out.1, HF.out.2.1⟩
  clear H5 HF Hgk hlo hbs hskt hb6 hK4
  have H0 : Hid (Below w6.heap.size w6 w6) := Below.refl _ _
  go_wp2
  go_loopw [11] (fun vi wr => ∃ I : Nat, I ≤ 32768 ∧ vi = .int .i64 (I : Int) ∧ Hid (Below w6.heap.size w6 wr)) (fun vi _ => 32768 - (intOf vi).toNat)
  case atStart => exact ⟨0, by omega, rfl, H0⟩
  case round =>
    clear H0
    obtain ⟨I, hI, rfl, HS⟩ := hrel
    by_cases hlt : I < 32768
    case neg =>
      have hlt' : ¬ (I : Int) < 32768 := by omega
      have R : Hid (Below w.heap.size w wr) := H6.out.2.2.2.2.2.2.2.2.1.trans (HS.out.mono H6.out.2.2.2.2.2.2.2.2.1.size)
      clear HS H6 HL HK
      go_wp2
      go_ret
      exact ⟨rfl, R.out⟩
    have hlt' : (I : Int) < 32768 := by omega
    have wI : IntKind.i64.wrap ((I : Int) + 1) = ((I + 1 : Nat) : Int) := by rw [IntKind.wrap_i64]; omega
    obtain ⟨r1, hr1⟩ : ∃ r, I % 16 = r := ⟨_, rfl⟩
    obtain ⟨q1, hq1⟩ : ∃ q, I / 16 = q := ⟨_, rfl⟩
    obtain ⟨r2, hr2⟩ : ∃ r, q1 % 16 = r := ⟨_, rfl⟩
    have t1 : Int.tmod (I : Int) 16 = (r1 : Int) := by rw [Int.tmod_eq_emod_of_nonneg (by omega)]; omega
    have t2 : Int.tdiv (I : Int) 16 = (q1 : Int) := by rw [Int.tdiv_eq_ediv_of_nonneg (by omega)]; omega
    have t3 : Int.tmod (q1 : Int) 16 = (r2 : Int) := by rw [Int.tmod_eq_emod_of_nonneg (by omega)]; omega
    have q1b : q1 ≤ 2047 := by omega
    have Hd : Hid (I % 16 = r1 ∧ I / 16 % 16 = r2 ∧ I < 32768) := ⟨hr1, by rw [hq1]; exact hr2, hlt⟩
    have r1b : r1 < 16 := by omega
    have r2b : r2 < 16 := by omega
    clear hr1 hq1 hr2 hlt
    by_cases b1 : r1 = 0
    · have b1' : ((r1 : Int) == 0) = true := by simp [b1]
      clear b1 HL H6 HK
      go_wp2
      exact ⟨⟨I + 1, by omega, by simp, HS⟩, by simp [intOf]; omega⟩
    have b1' : ((r1 : Int) == 0) = false := by simp [b1]
    by_cases b2 : r1 = 15
    · have b2' : ((r1 : Int) == 15) = true := by simp [b2]
      clear b1 b2 HL H6 HK
      go_wp2
      exact ⟨⟨I + 1, by omega, by simp, HS⟩, by simp [intOf]; omega⟩
    have b2' : ((r1 : Int) == 15) = false := by simp; omega
    by_cases b3 : r2 = 0
    · have b3' : ((r2 : Int) == 0) = true := by simp [b3]
      clear b1 b2 b3 HL H6 HK
      go_wp2
      exact ⟨⟨I + 1, by omega, by simp, HS⟩, by simp [intOf]; omega⟩
    have b3' : ((r2 : Int) == 0) = false := by simp [b3]
    by_cases b4 : r2 = 15
    · have b4' : ((r2 : Int) == 15) = true := by simp [b4]
      clear b1 b2 b3 b4 HL H6 HK
      go_wp2
      exact ⟨⟨I + 1, by omega, by simp, HS⟩, by simp [intOf]; omega⟩
    have b4' : ((r2 : Int) == 15) = false := by simp; omega
    have Hin : Hid (0 < I % 16 ∧ I % 16 < 15 ∧ 0 < I / 16 % 16 ∧ I / 16 % 16 < 15) := by
      obtain ⟨d1, d2, _⟩ := Hd.out
      show 0 < I % 16 ∧ I % 16 < 15 ∧ 0 < I / 16 % 16 ∧ I / 16 % 16 < 15
      rw [d1, d2]
      exact ⟨by omega, by omega, by omega, by omega⟩
    obtain ⟨e1, e2, e3, e4, e5, e6, e7, e8, e9, e10, e11, e12, e13⟩ := H6.out
    have y4 := cell_below e8 HS.out
    have hkc := (e2.below HS.out e2.lt).cell (k := I) (by rw [e10]; exact Hd.out.2.2)
    have bk := e11.at I
    obtain ⟨k, hk⟩ : ∃ k, K4.getD I 0 = k := ⟨_, rfl⟩
    have Hk : Hid (K4.getD I 0 = k) := hk
    rw [hk] at hkc bk
    have wk : IntKind.i64.wrap k = k := by rw [IntKind.wrap_i64]; omega
    obtain ⟨bk0, bk1⟩ := bk
    have HI32 : Hid (I < 32768) := Hd.out.2.2
    clear e1 e2 e3 e4 e5 e6 e7 e8 e9 e10 e11 e12 e13 hk b1 b2 b3 b4 Hd hI
    go_wp2
    clear b1' b2' b3' b4' t1 t2 t3 y4 hkc r1b r2b q1b
    obtain ⟨wq, hwq⟩ : ∃ wq, wq = wr := ⟨_, rfl⟩
    subst hwq
    obtain ⟨fa, hfa⟩ : ∃ fa : Nat → Nat, fa = fun j => (ra.getD j 0).toNat := ⟨_, rfl⟩
    obtain ⟨fb, hfb⟩ : ∃ fb : Nat → Nat, fb = fun j => (rb.getD j 0).toNat := ⟨_, rfl⟩
    have Hfa : Hid (∀ j, j < 32768 → ra.getD j 0 = (fa j : Int) ∧ fa j ≤ 15) := fun j hj => by
      have := HL.out.1.bd rfl hj
      rw [hfa]
      show ra.getD j 0 = ((ra.getD j 0).toNat : Int) ∧ (ra.getD j 0).toNat ≤ 15
      omega
    have Hfb : Hid (∀ j, j < 32768 → rb.getD j 0 = (fb j : Int) ∧ fb j ≤ 15) := fun j hj => by
      have := HL.out.2.bd rfl hj
      rw [hfb]
      show rb.getD j 0 = ((rb.getD j 0).toNat : Int) ∧ (rb.getD j 0).toNat ≤ 15
      omega
    have Hf : Hid (fa = (fun j => (ra.getD j 0).toNat) ∧ fb = (fun j => (rb.getD j 0).toNat)) := ⟨hfa, hfb⟩
    clear hfa hfb
    go_loopw [13, 14, 15] (fun vp vq vx wr => ∃ X p q : Nat, X ≤ 6 ∧ p ≤ 15 ∧ q ≤ 15 ∧ vp = .int .i64 (p : Int) ∧ vq = .int .i64 (q : Int) ∧ vx = .int .i64 (X : Int) ∧ Hid (Below w6.heap.size w6 wr ∧ p = best 16 16 128 fa I X ∧ q = best 16 16 128 fb I X)) (fun _ _ vx _ => 6 - (intOf vx).toNat)
    case atStart => exact ⟨0, 0, 0, by omega, by omega, by omega, rfl, rfl, rfl, HS.out, rfl, rfl⟩
    case round =>
      clear HS
      obtain ⟨X, p, q, hX, hp, hq, rfl, rfl, rfl, HS⟩ := hrel
      by_cases hx : X < 6
      case pos =>
        have hx' : (X : Int) < 6 := by omega
        have wX : IntKind.i64.wrap ((X : Int) + 1) = ((X + 1 : Nat) : Int) := by rw [IntKind.wrap_i64]; omega
        have hnb := rnb16_c g I X _ wr HI32.out hx (H6.out.1.on HS.out.1)
        go_wp2_with fail
        refine hnb.mono ?_
        clear hnb
        rintro _ w7 ⟨rfl, hb7⟩
        have HS7 : Hid (Below w6.heap.size w6 w7 ∧ p = best 16 16 128 fa I X ∧ q = best 16 16 128 fb I X) := ⟨HS.out.1.trans (hb7.mono HS.out.1.size), HS.out.2⟩
        clear HS hb7
        rcases hnn : nbr 16 16 128 I X with _ | j
        · have en : nbI 16 16 128 I X = -1 := by unfold nbI; rw [hnn]
          rw [en]
          have HE : Hid (Below w6.heap.size w6 w7 ∧ p = best 16 16 128 fa I (X + 1) ∧ q = best 16 16 128 fb I (X + 1)) := by
            obtain ⟨s1, s2, s3⟩ := HS7.out
            refine ⟨s1, ?_, ?_⟩
            · show p = max (best 16 16 128 fa I X) (match nbr 16 16 128 I X with | some j => fa j | none => 0)
              rw [hnn, ← s2]; simp
            · show q = max (best 16 16 128 fb I X) (match nbr 16 16 128 I X with | some j => fb j | none => 0)
              rw [hnn, ← s3]; simp
          clear HS7 HL H6 HK Hin Hk HI32 Hfa Hfb Hf en hnn
          go_wp2
          exact ⟨⟨X + 1, p, q, by omega, hp, hq, rfl, rfl, rfl, HE⟩, by simp [intOf]; omega⟩
        have en : nbI 16 16 128 I X = (j : Int) := by unfold nbI; rw [hnn]
        rw [en]
        have hj : j < 32768 := nbr_lt (by omega) (by omega) HI32.out hnn
        obtain ⟨e1, e2, e3, e4, e5, e6, e7, e8, e9, e10, e11, e12, e13⟩ := H6.out
        have ya := (e6.below HS7.out.1 e6.lt).cell (k := j) (by rw [e12]; exact hj)
        have yb := (e7.below HS7.out.1 e7.lt).cell (k := j) (by rw [e13]; exact hj)
        rw [(Hfa.out j hj).1] at ya
        rw [(Hfb.out j hj).1] at yb
        have ba := (Hfa.out j hj).2
        have bb := (Hfb.out j hj).2
        have HE0 : Hid (Below w6.heap.size w6 w7 ∧ max p (fa j) = best 16 16 128 fa I (X + 1) ∧ max q (fb j) = best 16 16 128 fb I (X + 1)) := by
          obtain ⟨s1, s2, s3⟩ := HS7.out
          refine ⟨s1, ?_, ?_⟩
          · show max p (fa j) = max (best 16 16 128 fa I X) (match nbr 16 16 128 I X with | some j => fa j | none => 0)
            rw [hnn, ← s2]
          · show max q (fb j) = max (best 16 16 128 fb I X) (match nbr 16 16 128 I X with | some j => fb j | none => 0)
            rw [hnn, ← s3]
        clear e1 e2 e3 e4 e5 e6 e7 e8 e9 e10 e11 e12 e13 HS7 HL H6 HK Hin Hk HI32 Hfa Hfb Hf en hnn
        generalize fa j = A at *
        generalize fb j = B at *
        have hj0 : (0 : Int) ≤ (j : Int) := by omega
        have hj1 : (j : Int) < 32768 := by omega
        by_cases hA : p < A
        · have hA' : (p : Int) < (A : Int) := by omega
          rw [Nat.max_eq_right (by omega)] at HE0
          by_cases hB : q < B
          · have hB' : (q : Int) < (B : Int) := by omega
            rw [Nat.max_eq_right (by omega)] at HE0
            go_wp2
            exact ⟨⟨X + 1, A, B, by omega, ba, bb, rfl, rfl, by simp, HE0⟩, by simp [intOf]; omega⟩
          · have hB' : ¬ (q : Int) < (B : Int) := by omega
            rw [Nat.max_eq_left (by omega)] at HE0
            go_wp2
            exact ⟨⟨X + 1, A, q, by omega, ba, hq, rfl, rfl, by simp, HE0⟩, by simp [intOf]; omega⟩
        · have hA' : ¬ (p : Int) < (A : Int) := by omega
          rw [Nat.max_eq_left (by omega)] at HE0
          by_cases hB : q < B
          · have hB' : (q : Int) < (B : Int) := by omega
            rw [Nat.max_eq_right (by omega)] at HE0
            go_wp2
            exact ⟨⟨X + 1, p, B, by omega, hp, bb, rfl, rfl, by simp, HE0⟩, by simp [intOf]; omega⟩
          · have hB' : ¬ (q : Int) < (B : Int) := by omega
            rw [Nat.max_eq_left (by omega)] at HE0
            go_wp2
            exact ⟨⟨X + 1, p, q, by omega, hp, hq, rfl, rfl, by simp, HE0⟩, by simp [intOf]; omega⟩
      have hx' : ¬ (X : Int) < 6 := by omega
      have HS7 : Hid (Below w6.heap.size w6 wr ∧ p = best 16 16 128 fa I 6 ∧ q = best 16 16 128 fb I 6) := by
        obtain rfl : X = 6 := by omega
        exact HS.out
      clear HS hX hx
      obtain ⟨e1, e2, e3, e4, e5, e6, e7, e8, e9, e10, e11, e12, e13⟩ := H6.out
      have ya := (e6.below HS7.out.1 e6.lt).cell (k := I) (by rw [e12]; exact HI32.out)
      have yb := (e7.below HS7.out.1 e7.lt).cell (k := I) (by rw [e13]; exact HI32.out)
      have ys := (e3.below HS7.out.1 e3.lt).cell (k := I) (by rw [e5]; exact HI32.out)
      obtain ⟨h0, h1, h2, h3⟩ := Hin.out
      have hA := holds_sky HL.out.1 HI32.out h0 h1 h2 h3
      have hB := holds_lamp HL.out.2 HI32.out h0 h1 h2 h3
      rw [HK.out, Hk.out, ← Hf.out.1, ← HS7.out.2.1] at hA
      rw [HK.out, Hk.out, ← Hf.out.2, ← HS7.out.2.2] at hB
      have hS := e4 I HI32.out
      have hS2 := sky_two css I
      rw [HK.out] at hS2
      obtain ⟨Sn, hSn⟩ : ∃ Sn, skyN 16 16 128 (fun j => K4.getD j 0) I = Sn := ⟨_, rfl⟩
      rw [hSn] at hA hS hS2
      rw [hS] at ys
      have hls := rloss_c k ⟨bk0, bk1⟩
      have hsh := rshut_c k ⟨bk0, bk1⟩
      have hem := remits_c k ⟨bk0, bk1⟩
      have hlb : lossK k ≤ 16 := by unfold lossK; split <;> (try split) <;> (try split) <;> (try split) <;> omega
      have heb := emits_le k
      obtain ⟨A, hAe⟩ : ∃ A, ra.getD I 0 = A := ⟨_, rfl⟩
      obtain ⟨B, hBe⟩ : ∃ B, rb.getD I 0 = B := ⟨_, rfl⟩
      rw [hAe] at hA ya
      rw [hBe] at hB yb
      have HSw : Hid (Below w6.heap.size w6 wr) := HS7.out.1
      clear e1 e2 e3 e4 e5 e6 e7 e8 e9 e10 e11 e12 e13 h0 h1 h2 h3 hS hSn hAe hBe HS7 HL H6 HK Hin Hk HI32 Hfa Hfb Hf wk
      generalize lossK k = lo at *
      generalize emitsK k = em at *
      generalize passK k = pa at *
      obtain ⟨P0, hP0⟩ : ∃ P0, (p : Int) - (lo : Int) = P0 := ⟨_, rfl⟩
      obtain ⟨Q0, hQ0⟩ : ∃ Q0, (q : Int) - (lo : Int) = Q0 := ⟨_, rfl⟩
      have wp : IntKind.i64.wrap ((p : Int) - (lo : Int)) = P0 := by rw [IntKind.wrap_i64]; omega
      have wq1 : IntKind.i64.wrap ((q : Int) - (lo : Int)) = Q0 := by rw [IntKind.wrap_i64]; omega
      have HP0 : Hid ((p : Int) - (lo : Int) = P0) := hP0
      have HQ0 : Hid ((q : Int) - (lo : Int) = Q0) := hQ0
      have HAA : Hid (A = if pa = true then max (Sn : Int) ((p - lo : Nat) : Int) else (Sn : Int)) := hA
      have HBB : Hid (B = if pa = true then max (em : Int) ((q - lo : Nat) : Int) else (em : Int)) := hB
      have HSn : Hid (Sn = 15 ∨ Sn = 0) := hS2
      have bP : -16 ≤ P0 ∧ P0 ≤ 15 := by omega
      have bQ : -16 ≤ Q0 ∧ Q0 ≤ 15 := by omega
      have Hpq : Hid (p ≤ 15 ∧ q ≤ 15 ∧ lo ≤ 16 ∧ em ≤ 15) := ⟨hp, hq, hlb, heb⟩
      clear hA hB hS2 hP0 hQ0 hp hq hlb bk0 bk1
      obtain ⟨bP0, bP1⟩ := bP
      obtain ⟨bQ0, bQ1⟩ := bQ
      go_wp2_with fail
      refine (hls _).mono ?_
      rintro _ v1 ⟨rfl, hv⟩
      subst hv
      go_wp2_with fail
      refine (hls _).mono ?_
      rintro _ v1 ⟨rfl, hv⟩
      subst hv
      clear hls
      go_wp2_with fail
      refine (hsh _).mono ?_
      clear hsh
      rintro _ v1 ⟨rfl, hv⟩
      subst hv
      cases pa with
      | false =>
        have esh : (!false) = true := rfl
        rw [esh]
        clear esh
        by_cases c1 : P0 < 0
        · have c1n := c1
          rcases HSn.out with hS | hS
          · have ys2 := ys
            rw [hS] at ys2
            clear ys
            have eA : A = 15 := by have h1 := HAA.out; have h2 := HSn.out; have h3 := HP0.out; have h4 := Hpq.out; simp only [Bool.false_eq_true, if_false] at h1; omega
            have eB : B = (em : Int) := by have h1 := HBB.out; have h3 := HQ0.out; have h4 := Hpq.out; simp only [Bool.false_eq_true, if_false] at h1; omega
            rw [eA] at ya
            rw [eB] at yb
            clear eA eB HAA HBB HSn HP0 HQ0 Hpq
            go_wp2_with fail
            refine (hem _).mono ?_
            rintro _ v1 ⟨rfl, hv⟩
            subst hv
            clear hem
            go_wp2
            exact ⟨⟨I + 1, by omega, by simp, HSw⟩, by simp [intOf]; omega⟩
          · have ys2 := ys
            rw [hS] at ys2
            clear ys
            have eA : A = 0 := by have h1 := HAA.out; have h2 := HSn.out; have h3 := HP0.out; have h4 := Hpq.out; simp only [Bool.false_eq_true, if_false] at h1; omega
            have eB : B = (em : Int) := by have h1 := HBB.out; have h3 := HQ0.out; have h4 := Hpq.out; simp only [Bool.false_eq_true, if_false] at h1; omega
            rw [eA] at ya
            rw [eB] at yb
            clear eA eB HAA HBB HSn HP0 HQ0 Hpq
            go_wp2_with fail
            refine (hem _).mono ?_
            rintro _ v1 ⟨rfl, hv⟩
            subst hv
            clear hem
            go_wp2
            exact ⟨⟨I + 1, by omega, by simp, HSw⟩, by simp [intOf]; omega⟩
        · have c1n := c1
          rcases HSn.out with hS | hS
          · have ys2 := ys
            rw [hS] at ys2
            clear ys
            have eA : A = 15 := by have h1 := HAA.out; have h2 := HSn.out; have h3 := HP0.out; have h4 := Hpq.out; simp only [Bool.false_eq_true, if_false] at h1; omega
            have eB : B = (em : Int) := by have h1 := HBB.out; have h3 := HQ0.out; have h4 := Hpq.out; simp only [Bool.false_eq_true, if_false] at h1; omega
            rw [eA] at ya
            rw [eB] at yb
            clear eA eB HAA HBB HSn HP0 HQ0 Hpq
            go_wp2_with fail
            refine (hem _).mono ?_
            rintro _ v1 ⟨rfl, hv⟩
            subst hv
            clear hem
            go_wp2
            exact ⟨⟨I + 1, by omega, by simp, HSw⟩, by simp [intOf]; omega⟩
          · have ys2 := ys
            rw [hS] at ys2
            clear ys
            have eA : A = 0 := by have h1 := HAA.out; have h2 := HSn.out; have h3 := HP0.out; have h4 := Hpq.out; simp only [Bool.false_eq_true, if_false] at h1; omega
            have eB : B = (em : Int) := by have h1 := HBB.out; have h3 := HQ0.out; have h4 := Hpq.out; simp only [Bool.false_eq_true, if_false] at h1; omega
            rw [eA] at ya
            rw [eB] at yb
            clear eA eB HAA HBB HSn HP0 HQ0 Hpq
            go_wp2_with fail
            refine (hem _).mono ?_
            rintro _ v1 ⟨rfl, hv⟩
            subst hv
            clear hem
            go_wp2
            exact ⟨⟨I + 1, by omega, by simp, HSw⟩, by simp [intOf]; omega⟩
      | true =>
        have esh : (!true) = false := rfl
        rw [esh]
        clear esh
        by_cases c1 : P0 < 0
        · have c1n := c1
          rcases HSn.out with hS | hS
          · have ys2 := ys
            rw [hS] at ys2
            by_cases c2 : Q0 < (em : Int)
            · clear ys
              have eA : A = 15 := by have h1 := HAA.out; have h2 := HSn.out; have h3 := HP0.out; have h4 := Hpq.out; simp only [if_true] at h1; omega
              have eB : B = (em : Int) := by have h1 := HBB.out; have h3 := HQ0.out; have h4 := Hpq.out; simp only [if_true] at h1; omega
              rw [eA] at ya
              rw [eB] at yb
              clear eA eB HAA HBB HSn HP0 HQ0 Hpq
              go_wp2_with fail
              refine (hem _).mono ?_
              rintro _ v1 ⟨rfl, hv⟩
              subst hv
              go_wp2_with fail
              refine (hem _).mono ?_
              rintro _ v1 ⟨rfl, hv⟩
              subst hv
              clear hem
              go_wp2
              exact ⟨⟨I + 1, by omega, by simp, HSw⟩, by simp [intOf]; omega⟩
            · clear ys
              have eA : A = 15 := by have h1 := HAA.out; have h2 := HSn.out; have h3 := HP0.out; have h4 := Hpq.out; simp only [if_true] at h1; omega
              have eB : B = Q0 := by have h1 := HBB.out; have h3 := HQ0.out; have h4 := Hpq.out; simp only [if_true] at h1; omega
              rw [eA] at ya
              rw [eB] at yb
              clear eA eB HAA HBB HSn HP0 HQ0 Hpq
              go_wp2_with fail
              refine (hem _).mono ?_
              rintro _ v1 ⟨rfl, hv⟩
              subst hv
              clear hem
              go_wp2
              exact ⟨⟨I + 1, by omega, by simp, HSw⟩, by simp [intOf]; omega⟩
          · have ys2 := ys
            rw [hS] at ys2
            by_cases c2 : Q0 < (em : Int)
            · clear ys
              have eA : A = 0 := by have h1 := HAA.out; have h2 := HSn.out; have h3 := HP0.out; have h4 := Hpq.out; simp only [if_true] at h1; omega
              have eB : B = (em : Int) := by have h1 := HBB.out; have h3 := HQ0.out; have h4 := Hpq.out; simp only [if_true] at h1; omega
              rw [eA] at ya
              rw [eB] at yb
              clear eA eB HAA HBB HSn HP0 HQ0 Hpq
              go_wp2_with fail
              refine (hem _).mono ?_
              rintro _ v1 ⟨rfl, hv⟩
              subst hv
              go_wp2_with fail
              refine (hem _).mono ?_
              rintro _ v1 ⟨rfl, hv⟩
              subst hv
              clear hem
              go_wp2
              exact ⟨⟨I + 1, by omega, by simp, HSw⟩, by simp [intOf]; omega⟩
            · clear ys
              have eA : A = 0 := by have h1 := HAA.out; have h2 := HSn.out; have h3 := HP0.out; have h4 := Hpq.out; simp only [if_true] at h1; omega
              have eB : B = Q0 := by have h1 := HBB.out; have h3 := HQ0.out; have h4 := Hpq.out; simp only [if_true] at h1; omega
              rw [eA] at ya
              rw [eB] at yb
              clear eA eB HAA HBB HSn HP0 HQ0 Hpq
              go_wp2_with fail
              refine (hem _).mono ?_
              rintro _ v1 ⟨rfl, hv⟩
              subst hv
              clear hem
              go_wp2
              exact ⟨⟨I + 1, by omega, by simp, HSw⟩, by simp [intOf]; omega⟩
        · have c1n := c1
          rcases HSn.out with hS | hS
          · have ys2 := ys
            rw [hS] at ys2
            by_cases c2 : Q0 < (em : Int)
            · clear ys
              have eA : A = 15 := by have h1 := HAA.out; have h2 := HSn.out; have h3 := HP0.out; have h4 := Hpq.out; simp only [if_true] at h1; omega
              have eB : B = (em : Int) := by have h1 := HBB.out; have h3 := HQ0.out; have h4 := Hpq.out; simp only [if_true] at h1; omega
              rw [eA] at ya
              rw [eB] at yb
              clear eA eB HAA HBB HSn HP0 HQ0 Hpq
              go_wp2_with fail
              refine (hem _).mono ?_
              rintro _ v1 ⟨rfl, hv⟩
              subst hv
              go_wp2_with fail
              refine (hem _).mono ?_
              rintro _ v1 ⟨rfl, hv⟩
              subst hv
              clear hem
              go_wp2
              exact ⟨⟨I + 1, by omega, by simp, HSw⟩, by simp [intOf]; omega⟩
            · clear ys
              have eA : A = 15 := by have h1 := HAA.out; have h2 := HSn.out; have h3 := HP0.out; have h4 := Hpq.out; simp only [if_true] at h1; omega
              have eB : B = Q0 := by have h1 := HBB.out; have h3 := HQ0.out; have h4 := Hpq.out; simp only [if_true] at h1; omega
              rw [eA] at ya
              rw [eB] at yb
              clear eA eB HAA HBB HSn HP0 HQ0 Hpq
              go_wp2_with fail
              refine (hem _).mono ?_
              rintro _ v1 ⟨rfl, hv⟩
              subst hv
              clear hem
              go_wp2
              exact ⟨⟨I + 1, by omega, by simp, HSw⟩, by simp [intOf]; omega⟩
          · have ys2 := ys
            rw [hS] at ys2
            by_cases c2 : Q0 < (em : Int)
            · clear ys
              have eA : A = P0 := by have h1 := HAA.out; have h2 := HSn.out; have h3 := HP0.out; have h4 := Hpq.out; simp only [if_true] at h1; omega
              have eB : B = (em : Int) := by have h1 := HBB.out; have h3 := HQ0.out; have h4 := Hpq.out; simp only [if_true] at h1; omega
              rw [eA] at ya
              rw [eB] at yb
              clear eA eB HAA HBB HSn HP0 HQ0 Hpq
              go_wp2_with fail
              refine (hem _).mono ?_
              rintro _ v1 ⟨rfl, hv⟩
              subst hv
              go_wp2_with fail
              refine (hem _).mono ?_
              rintro _ v1 ⟨rfl, hv⟩
              subst hv
              clear hem
              go_wp2
              exact ⟨⟨I + 1, by omega, by simp, HSw⟩, by simp [intOf]; omega⟩
            · clear ys
              have eA : A = P0 := by have h1 := HAA.out; have h2 := HSn.out; have h3 := HP0.out; have h4 := Hpq.out; simp only [if_true] at h1; omega
              have eB : B = Q0 := by have h1 := HBB.out; have h3 := HQ0.out; have h4 := Hpq.out; simp only [if_true] at h1; omega
              rw [eA] at ya
              rw [eB] at yb
              clear eA eB HAA HBB HSn HP0 HQ0 Hpq
              go_wp2_with fail
              refine (hem _).mono ?_
              rintro _ v1 ⟨rfl, hv⟩
              subst hv
              clear hem
              go_wp2
              exact ⟨⟨I + 1, by omega, by simp, HSw⟩, by simp [intOf]; omega⟩
end Go.Proofs.YtjeapaojbkicmaaDoor
