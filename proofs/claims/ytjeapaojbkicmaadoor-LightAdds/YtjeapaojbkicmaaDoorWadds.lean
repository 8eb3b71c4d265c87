/-
  LightAdds: the walk.
-/
import Derived.Test.YtjeapaojbkicmaaDoorWmore
import Derived.BigQuiet
import Derived.Deep.QuietTactic
set_option maxRecDepth 20000
namespace Go.Proofs.YtjeapaojbkicmaaDoor
open C Go.RowKit L

theorem add_light {s t : L.Sys} (hs : s.n = 48 * 48 * 128) (ht : t.n = 48 * 48 * 128) {c : Nat} (h : ∀ i v, L.Lit t i v → L.Lit s i v ∨ v + dist i (mid c) ≤ 14) {a b : List Int} (ha : IsLight s a) (hb : IsLight t b) {i : Nat} (hi : i < 32768) : b.getD i 0 ≤ a.getD i 0 ∨ b.getD i 0 + (dist (mid i) (mid c) : Int) ≤ 14 := by
  obtain ⟨_, l, hl, h2⟩ := ha
  obtain ⟨_, m, hm, k2⟩ := hb
  rw [h2 i hi, k2 i hi]
  rcases h (mid i) _ ((hm (mid i) (by rw [ht]; exact mid_lt hi) _).2 (Nat.le_refl _)) with h1 | h1
  · have := (hl (mid i) (by rw [hs]; exact mid_lt hi) _).1 h1
    omega
  · omega
theorem absd_is (a b : Nat) : (if (a : Int) - (b : Int) < 0 then -((a : Int) - (b : Int)) else (a : Int) - (b : Int)) = (absd a b : Int) := by
  unfold absd
  split <;> omega
set_option maxRecDepth 1000000 in
set_option maxHeartbeats 16000000 in
theorem lightAdds_walk (la : Option Addr) (lb lo n lc : Nat) (P : Nat → Nat → Int) (t : Int) (w : World) (hn : n ≤ 9223372036854775807) (hla : 0 < n → la = some ⟨lb, lo, none⟩) (hc : ∀ i, i < n → ∀ f, f < 7 → w.cell? ⟨lb, lo + i * 7 + f, none⟩ = some (.int .i64 (P i f))) (hT : Tabs w) :
    Calls Tryd.prog 6 #[.slice la n lc, .int .i64 t] w fun e w' => e = .returned (.bool true) ∧ Below w.heap.size w w' := by
  have HI : Hid (n ≤ 9223372036854775807 ∧ (0 < n → la = some ⟨lb, lo, none⟩) ∧ ∀ i, i < n → ∀ f, f < 7 → w.cell? ⟨lb, lo + i * 7 + f, none⟩ = some (.int .i64 (P i f))) := ⟨hn, hla, hc⟩
  have HT : Hid (Tabs w) := hT
  have haw := awake_c w hT
  clear hn hla hc hT
  go_enter Tryd.func6, Tryd.ntmps6
  go_wp2_with fail
  refine haw.mono ?_
  clear haw
  rintro _ w1 ⟨rfl, hb1⟩
  have H1 : Hid (Below w.heap.size w w1) := hb1
  have hsc := scape_c la lb lo n lc P w1 HI.out.1 HI.out.2.1 (fun i hi f hf => (hb1.cell (p := ⟨lb, lo + i * 7 + f, none⟩) (World.block_lt_of_cell? w _ (HI.out.2.2 i hi f hf))).trans (HI.out.2.2 i hi f hf))
  clear hb1
  go_wp2_with fail
  refine hsc.mono ?_
  clear hsc
  rintro _ w2 ⟨b, cv, gs, css, rfl, hG⟩
  have HG : Hid ((css.length = 9 ∧ ∀ j, j < 9 → (css.getD j []).length = 32768) ∧ (∀ j, j < 9 → Kinds (css.getD j [])) ∧ Nr w2 b gs (fun _ => 32768) css ∧ Below w.heap.size w w2 ∧ Tabs w2 ∧ (∀ i j, i < 9 → j < 9 → gs i = gs j → i = j)) := by
    have hb : Below w.heap.size w w2 := H1.out.trans (hG.bel.mono H1.out.size)
    exact ⟨⟨hG.sh.n, hG.sh.len⟩, sh_kinds hG.sh (partsBd air_bd _), hG.nr, hb, HT.out.on hb, hG.ap⟩
  clear hG H1 HI HT
  obtain ⟨I, hI⟩ : ∃ I : Nat, t % 32768 = (I : Int) := ⟨(t % 32768).toNat, by omega⟩
  have hIb : I < 32768 := by omega
  have hred := fun (W : World) => reduced_c t 32768 (by omega) (by omega) W
  rw [hI] at hred
  have HIt : Hid (t % 32768 = (I : Int)) := hI
  clear hI
  go_wp2_with fail
  refine (hred _).mono ?_
  clear hred
  rintro _ v0 ⟨rfl, hv⟩
  subst hv
  have hch := chunks_c b cv gs (fun _ => 32768) css v0 HG.out.2.2.1 HG.out.2.1
  go_wp2_with fail
  refine hch.mono ?_
  clear hch
  rintro _ w3 ⟨av, c2, gs2, rfl, hM⟩
  obtain ⟨b2, rfl, hN⟩ := many_nine hM HG.out.1.2 HG.out.2.1
  have HM : Hid (Below v0.heap.size v0 w3 ∧ Tabs w3 ∧ N9 w3 b2 (fun i => gs2.getD i 0) css) := ⟨hM.bel, HG.out.2.2.2.2.1.on hM.bel, hN⟩
  clear hM hN
  have hnr3 : Nr w3 b gs (fun _ => 32768) css := HG.out.2.2.1.on HM.out.1
  have hrc := rowV_cells hnr3
  have HNR3 : Hid (Nr w3 b gs (fun _ => 32768) css) := hnr3
  clear hnr3
  go_upto_region 6 with (at_builtin; refine wpList_append_new 24 28 _ _ Tryd.underlying24 info_bytes rfl (by omega) rfl _ _ rfl rfl b 9 cv (rowV gs) (rowV_len gs) (by omega) (by omega) rfl hrc (rowV_one gs) ?_; intro gn cn w4 hcn hgn HN4 HB4)
  clear hrc
  obtain ⟨gk, hgk⟩ : ∃ gk, gs 4 = gk := ⟨_, rfl⟩
  have Hgk : Hid (gs 4 = gk) := hgk
  have y4 : w4.cell? ⟨b, 4, none⟩ = some (.slice (some ⟨gk, 0, none⟩) 32768 32768) := by
    have h := cell_below (HNR3.out.out 4 (by omega)) HB4.out
    rwa [hgk] at h
  obtain ⟨K4, hK4⟩ : ∃ K4, css.getD 4 [] = K4 := ⟨_, rfl⟩
  have HK : Hid (css.getD 4 [] = K4 ∧ K4.length = 32768) := ⟨hK4, by rw [← hK4]; exact HG.out.1.2 4 (by omega)⟩
  have hbc : ∀ j u, (K4.map (Value.int .u8))[j]? = some u → w4.cell? ⟨gk, j, none⟩ = some u := by
    have h := (HNR3.out.row 4 (by omega)).below HB4.out (HNR3.out.row 4 (by omega)).lt
    rw [hgk, hK4] at h
    exact bytes_cells h
  clear hgk hK4
  go_upto_region 7 with (at_builtin; refine wpList_append_new 28 5 _ _ Tryd.underlying28 info_u8 rfl (by omega) rfl _ _ rfl rfl gk 32768 32768 (K4.map (Value.int .u8)) (by rw [List.length_map]; exact HK.out.2) (by omega) (by omega) rfl hbc (bytes_one K4) ?_; intro gb cb w5 hcb hgb HN5 HB5; have hmake := NextG.make (css := css) HN4.out HB4.out hgn (by rw [HK.out.1]; exact copy_pre HN5.out HK.out.2) HB5.out hgb hcb; have z4 := hmake.2.2.1; have zf := hmake.2.2.2; have HMk : Hid _ := hmake; clear hmake)
  obtain ⟨w6, hw6⟩ : ∃ w6, w6 = w5.setCell ⟨gn, 4, none⟩ (.slice (some ⟨gb, 0, none⟩) 32768 cb) := ⟨_, rfl⟩
  have HNx : Hid (NextG w3 w6 gn gb cb gs css ∧ gn ≠ gb) := by rw [hw6]; exact ⟨HMk.out.1, HMk.out.2.1⟩
  rw [← hw6]
  clear hw6 z4 zf HMk hbc y4 HN4 HB4 HN5 HB5 hcn hgn hcb hgb
  have y6 := HNx.out.1.four
  have hpo := HNx.out.1.own
  have c6 := hpo.cell (k := I) (by rw [HK.out.1, HK.out.2]; exact hIb)
  have f6 := hpo.free I
  have hI8 : (I : Int) < 32768 := by omega
  obtain ⟨v6, hv6⟩ : ∃ v6, (css.getD 4 []).getD I 0 = v6 := ⟨_, rfl⟩
  rw [hv6] at c6
  obtain ⟨w7, hw7⟩ : ∃ w7, w7 = w6.setCell ⟨gb, I, none⟩ (.int .u8 13) := ⟨_, rfl⟩
  have HN7 : Hid (Nr w7 gn (fun j => if j = 4 then gb else gs j) (fun j => if j = 4 then cb else 32768) (setM css I 13) ∧ Below w3.heap.size w3 w7) := by
    rw [hw7]
    exact ⟨HNx.out.1.nr HNR3.out HG.out.1.1 HNx.out.2, HNx.out.1.bel.trans ⟨rfl, rfl, rfl, by simp [World.setCell], fun j hj => Below.heap_setCell w6 ⟨gb, I, none⟩ _ j (by show j ≠ gb; have := HNx.out.1.low.2; omega)⟩⟩
  have HW7 : Hid (w7 = w6.setCell ⟨gb, I, none⟩ (.int .u8 13)) := hw7
  clear hw7 hpo hv6
  go_upto_region 8 with fail
  rw [← HW7.out]
  clear c6 f6 y6 HNx HW7
  have hck := setM_kinds (I := I) (v := 13) HG.out.2.1 HG.out.1.1 (by omega)
  have hch2 := chunks_c gn cn _ _ (setM css I 13) w7 HN7.out.1 hck
  go_wp2_with fail
  refine hch2.mono ?_
  clear hch2
  rintro _ w8 ⟨av, c3, gs3, rfl, hM⟩
  obtain ⟨b3, rfl, hN⟩ := many_nine hM HN7.out.1.len hck
  have HM2 : Hid (Below w3.heap.size w3 w8 ∧ Tabs w8 ∧ N9 w8 b3 (fun i => gs3.getD i 0) (setM css I 13)) := by
    have hb := HN7.out.2.trans (hM.bel.mono HN7.out.2.size)
    exact ⟨hb, HM.out.2.1.on hb, hN⟩
  clear hM hN hck HN7
  have hnr8 : Nr w8 b gs (fun _ => 32768) css := HNR3.out.on HM2.out.1
  have y4 : w8.cell? ⟨b, 4, none⟩ = some (.slice (some ⟨gk, 0, none⟩) 32768 32768) := by
    have h := hnr8.out 4 (by omega)
    rwa [Hgk.out] at h
  have hp4 : Pre w8 gk 5 K4 := by
    have h := hnr8.row 4 (by omega)
    rwa [Hgk.out, HK.out.1] at h
  have yk := hp4.cell (k := I) (by rw [HK.out.2]; exact hIb)
  obtain ⟨kv, hkv⟩ : ∃ kv, K4.getD I 0 = kv := ⟨_, rfl⟩
  have Hkv : Hid (K4.getD I 0 = kv) := hkv
  rw [hkv] at yk
  have HP4 : Hid (Pre w8 gk 5 K4 ∧ w8.cell? ⟨b, 4, none⟩ = some (.slice (some ⟨gk, 0, none⟩) 32768 32768) ∧ Below w.heap.size w w8) := by
    have hb23 : Below w.heap.size w w3 := HG.out.2.2.2.1.trans (HM.out.1.mono HG.out.2.2.2.1.size)
    exact ⟨hp4, y4, hb23.trans (HM2.out.1.mono hb23.size)⟩
  clear hnr8 hp4 hkv
  have hn1 : (binOp .eql 26 (.slice (some ⟨b2, 0, none⟩) 9 c2) (.slice none 0 0)).run Tryd.prog w8 = .ok (.bool false) w8 := by kernel_rfl
  have hn2 : (binOp .eql 26 (.slice (some ⟨b3, 0, none⟩) 9 c3) (.slice none 0 0)).run Tryd.prog w8 = .ok (.bool false) w8 := by kernel_rfl
  by_cases k13 : kv = 13
  · have k13' : (kv == 13) = true := by simp [k13]
    clear k13
    go_wp2
    go_ret
    exact ⟨rfl, HP4.out.2.2⟩
  have k13' : (kv == 13) = false := by simpa using k13
  by_cases k9 : kv = 9
  · have k9' : (kv == 9) = true := by simp [k9]
    clear k9 k13
    go_wp2
    go_ret
    exact ⟨rfl, HP4.out.2.2⟩
  have k9' : (kv == 9) = false := by simpa using k9
  clear k9 k13
  have hN8 := HM.out.2.2.on HM2.out.1
  have hfl := flood_c b2 c2 _ css w8 hN8 HM2.out.2.1
  clear hN8
  go_wp2_with fail
  refine hfl.mono ?_
  clear hfl
  rintro _ w9 ⟨x1, y1, rfl, hF⟩
  have HF1 : Hid (FloodG w8 css x1 y1 w9) := hF
  have hfl := flood_c b3 c3 _ (setM css I 13) w9 (HM2.out.2.2.on hF.bel) (HM2.out.2.1.on hF.bel)
  clear hF
  go_wp2_with fail
  refine hfl.mono ?_
  clear hfl hn1 hn2
  rintro _ w10 ⟨x2, y2, rfl, hF⟩
  obtain ⟨sa, hsa, hska⟩ := HF1.out.sky
  obtain ⟨la1, hla1, hlma⟩ := HF1.out.lamp
  obtain ⟨sb, hsb, hskb⟩ := hF.sky
  obtain ⟨lb1, hlb1, hlmb⟩ := hF.lamp
  have HF2 : Hid (Blk w10 x1 5 sa ∧ Blk w10 y1 5 la1 ∧ Blk w10 x2 5 sb ∧ Blk w10 y2 5 lb1 ∧ Below w.heap.size w w10 ∧ Below w3.heap.size w3 w10) := by
    have hb3 : Below w3.heap.size w3 w10 := HM2.out.1.trans ((HF1.out.bel.trans (hF.bel.mono HF1.out.bel.size)).mono HM2.out.1.size)
    have hb23 : Below w.heap.size w w3 := HG.out.2.2.2.1.trans (HM.out.1.mono HG.out.2.2.2.1.size)
    exact ⟨hsa.below hF.bel hsa.lt, hla1.below hF.bel hla1.lt, hsb, hlb1, hb23.trans (hb3.mono hb23.size), hb3⟩
  have HLt : Hid (IsLight (skyC css) sa ∧ IsLight (lampC css) la1 ∧ IsLight (skyC (setM css I 13)) sb ∧ IsLight (lampC (setM css I 13)) lb1) := ⟨hska, hlma, hskb, hlmb⟩
  have HCs : Hid (css.length = 9 ∧ (css.getD 4 []).length = 32768 ∧ I < 32768) := ⟨HG.out.1.1, HG.out.1.2 4 (by omega), hIb⟩
  have HA : Hid ((∀ k, k < 32768 → kv = 0 → la1.getD k 0 ≤ lb1.getD k 0 ∧ (lb1.getD k 0 ≤ la1.getD k 0 ∨ lb1.getD k 0 + (dist (mid k) (mid I) : Int) ≤ 14)) ∧ lb1.getD I 0 = 14) := by
    refine ⟨fun k hk h0 => ?_, adds_own HCs.out.1 HCs.out.2.1 HCs.out.2.2 HLt.out.2.2.2⟩
    have hz : (css.getD 4 []).getD I 0 = 0 := by rw [HK.out.1, Hkv.out, h0]
    exact ⟨less_light rfl rfl (fun i v => (adds HCs.out.1 HCs.out.2.1 HCs.out.2.2 hz i v).1) HLt.out.2.1 HLt.out.2.2.2 hk, add_light rfl rfl (fun i v => (adds HCs.out.1 HCs.out.2.1 HCs.out.2.2 hz i v).2) HLt.out.2.1 HLt.out.2.2.2 hk⟩
  have HLn : Hid (la1.length = 32768 ∧ lb1.length = 32768) := ⟨hlma.1, hlmb.1⟩
  have HBd : Hid (∀ k, k < 32768 → 0 ≤ lb1.getD k 0 ∧ lb1.getD k 0 ≤ 15) := fun k hk => hlmb.bd rfl hk
  have HP10 : Hid (Pre w10 gk 5 K4 ∧ w10.cell? ⟨b, 4, none⟩ = some (.slice (some ⟨gk, 0, none⟩) 32768 32768)) := by
    have hb8 := HF1.out.bel.trans (hF.bel.mono HF1.out.bel.size)
    exact ⟨HP4.out.1.below hb8 HP4.out.1.lt, cell_below HP4.out.2.1 hb8⟩
  have Hi : Hid (I < 32768 ∧ K4.length = 32768) := ⟨hIb, HK.out.2⟩
  clear hsa hska hla1 hlma hsb hskb hlb1 hlmb hF HF1 HM HM2 HNR3 Hgk HK HG HCs HLt HIt HP4 y4 yk k13' k9'
  have H0 : Hid (Below w10.heap.size w10 w10) := Below.refl _ _
  obtain ⟨s1, hs1⟩ : ∃ s, I % 16 = s := ⟨_, rfl⟩
  obtain ⟨qi, hqi⟩ : ∃ q, I / 16 = q := ⟨_, rfl⟩
  obtain ⟨s2, hs2⟩ : ∃ s, qi % 16 = s := ⟨_, rfl⟩
  obtain ⟨s3, hs3⟩ : ∃ s, I / 256 = s := ⟨_, rfl⟩
  have i1 : Int.tmod (I : Int) 16 = (s1 : Int) := by rw [Int.tmod_eq_emod_of_nonneg (by omega)]; omega
  have i2 : Int.tdiv (I : Int) 16 = (qi : Int) := by rw [Int.tdiv_eq_ediv_of_nonneg (by omega)]; omega
  have i3 : Int.tmod (qi : Int) 16 = (s2 : Int) := by rw [Int.tmod_eq_emod_of_nonneg (by omega)]; omega
  have i4 : Int.tdiv (I : Int) 256 = (s3 : Int) := by rw [Int.tdiv_eq_ediv_of_nonneg (by omega)]; omega
  have HsI : Hid (I % 16 = s1 ∧ I / 16 % 16 = s2 ∧ I / 256 = s3) := ⟨hs1, by rw [hqi]; exact hs2, hs3⟩
  have bs1 : s1 < 16 := by omega
  have bs2 : s2 < 16 := by omega
  have bs3 : s3 < 128 := by omega
  have bqi : qi < 2048 := by omega
  clear hs1 hqi hs2 hs3
  go_wp2
  go_loopw [17] (fun vi wr => ∃ k : Nat, k ≤ 32768 ∧ vi = .int .i64 (k : Int) ∧ Hid (Below w10.heap.size w10 wr)) (fun vi _ => 32768 - (intOf vi).toNat)
  case atStart => exact ⟨0, by omega, rfl, H0⟩
  case round =>
    clear H0
    obtain ⟨k, hk, rfl, HS⟩ := hrel
    by_cases hlt : k < 32768
    case neg =>
      have hlt' : ¬ (k : Int) < 32768 := by omega
      have R : Hid (Below w.heap.size w wr) := HF2.out.2.2.2.2.1.trans (HS.out.mono HF2.out.2.2.2.2.1.size)
      have ye := (HF2.out.2.2.2.1.below HS.out HF2.out.2.2.2.1.lt).cell (k := I) (by rw [HLn.out.2]; exact Hi.out.1)
      rw [HA.out.2] at ye
      clear HS HF2 HA HLn HBd HP10 Hi hlt i1 i2 i3 i4 HsI
      go_wp2
      go_ret
      exact ⟨rfl, R.out⟩
    have hlt' : (k : Int) < 32768 := by omega
    have wk : IntKind.i64.wrap ((k : Int) + 1) = ((k + 1 : Nat) : Int) := by rw [IntKind.wrap_i64]; omega
    obtain ⟨r1, hr1⟩ : ∃ s, k % 16 = s := ⟨_, rfl⟩
    obtain ⟨qk, hqk⟩ : ∃ q, k / 16 = q := ⟨_, rfl⟩
    obtain ⟨r2, hr2⟩ : ∃ s, qk % 16 = s := ⟨_, rfl⟩
    obtain ⟨r3, hr3⟩ : ∃ s, k / 256 = s := ⟨_, rfl⟩
    have k1 : Int.tmod (k : Int) 16 = (r1 : Int) := by rw [Int.tmod_eq_emod_of_nonneg (by omega)]; omega
    have k2 : Int.tdiv (k : Int) 16 = (qk : Int) := by rw [Int.tdiv_eq_ediv_of_nonneg (by omega)]; omega
    have k3 : Int.tmod (qk : Int) 16 = (r2 : Int) := by rw [Int.tmod_eq_emod_of_nonneg (by omega)]; omega
    have k4 : Int.tdiv (k : Int) 256 = (r3 : Int) := by rw [Int.tdiv_eq_ediv_of_nonneg (by omega)]; omega
    have br1 : r1 < 16 := by omega
    have br2 : r2 < 16 := by omega
    have br3 : r3 < 128 := by omega
    have bqk : qk < 2048 := by omega
    have hdist : dist (mid k) (mid I) = absd r1 s1 + absd r2 s2 + absd r3 s3 := by
      obtain ⟨e1, e2, e3⟩ := HsI.out
      rw [dist_mid, e1, e2, e3, hr1, hqk, hr2, hr3]
    clear hr1 hqk hr2 hr3
    have z1 := size_c ((r1 : Int) - (s1 : Int)) (by omega)
    have z2 := size_c ((r2 : Int) - (s2 : Int)) (by omega)
    have z3 := size_c ((r3 : Int) - (s3 : Int)) (by omega)
    rw [absd_is] at z1 z2 z3
    have w1' : IntKind.i64.wrap ((r1 : Int) - (s1 : Int)) = (r1 : Int) - (s1 : Int) := by rw [IntKind.wrap_i64]; omega
    have w2' : IntKind.i64.wrap ((r2 : Int) - (s2 : Int)) = (r2 : Int) - (s2 : Int) := by rw [IntKind.wrap_i64]; omega
    have w3' : IntKind.i64.wrap ((r3 : Int) - (s3 : Int)) = (r3 : Int) - (s3 : Int) := by rw [IntKind.wrap_i64]; omega
    have d1b : absd r1 s1 ≤ 300 := by unfold absd; omega
    have d2b : absd r2 s2 ≤ 300 := by unfold absd; omega
    have d3b : absd r3 s3 ≤ 300 := by unfold absd; omega
    have HD : Hid (dist (mid k) (mid I) = absd r1 s1 + absd r2 s2 + absd r3 s3) := hdist
    clear hdist
    generalize absd r1 s1 = D1 at *
    generalize absd r2 s2 = D2 at *
    generalize absd r3 s3 = D3 at *
    obtain ⟨F, hF⟩ : ∃ F, D1 + D2 + D3 = F := ⟨_, rfl⟩
    have wF : IntKind.i64.wrap ((D1 : Int) + (D2 : Int) + (D3 : Int)) = (F : Int) := by rw [IntKind.wrap_i64]; omega
    have HFd : Hid (dist (mid k) (mid I) = F) := HD.out.trans hF
    have Fb : F ≤ 900 := by omega
    clear hF HD
    go_wp2_with fail
    refine (z1 _).mono ?_
    rintro _ v1 ⟨rfl, hv⟩
    subst hv
    clear z1
    go_wp2_with fail
    refine (z2 _).mono ?_
    rintro _ v2 ⟨rfl, hv⟩
    subst hv
    clear z2
    go_wp2_with fail
    refine (z3 _).mono ?_
    rintro _ v4 ⟨rfl, hv⟩
    subst hv
    clear z3 k1 k2 k3 k4 w1' w2' w3' br1 br2 br3 bqk
    obtain ⟨f1, f2, f3, f4, f5, f6⟩ := HF2.out
    have HS4 : Hid (Below w10.heap.size w10 v4) := HS.out
    have y4 := cell_below HP10.out.2 HS.out
    have yk := (HP10.out.1.below HS.out HP10.out.1.lt).cell (k := I) (by rw [Hi.out.2]; exact Hi.out.1)
    rw [Hkv.out] at yk
    have ya := (f2.below HS.out f2.lt).cell (k := k) (by rw [HLn.out.1]; exact hlt)
    have yb := (f4.below HS.out f4.lt).cell (k := k) (by rw [HLn.out.2]; exact hlt)
    have hA := HA.out.1 k hlt
    rw [HFd.out] at hA
    obtain ⟨A, hAe⟩ : ∃ A, la1.getD k 0 = A := ⟨_, rfl⟩
    obtain ⟨B, hBe⟩ : ∃ B, lb1.getD k 0 = B := ⟨_, rfl⟩
    rw [hAe] at hA ya
    rw [hBe] at hA yb
    have bB := HBd.out k hlt
    rw [hBe] at bB
    obtain ⟨bB0, bB1⟩ := bB
    have hIi : (I : Int) < 32768 := by have := Hi.out.1; omega
    have w14 : IntKind.i64.wrap (14 - (F : Int)) = 14 - (F : Int) := by rw [IntKind.wrap_i64]; omega
    clear f1 f2 f3 f4 f5 f6 HS HF2 HA HLn HBd HP10 Hi hlt HsI HFd hAe hBe Hkv i1 i2 i3 i4 bs1 bs2 bs3 bqi d1b d2b d3b
    by_cases F0 : 0 < F
    case neg =>
      have F0' : ¬ 0 < (F : Int) := by omega
      have F0d : decide (0 < (F : Int)) = false := decide_eq_false F0'
      have F0n : decide (0 < F) = false := decide_eq_false F0
      clear hA
      go_wp2_with fail
      go_big_quiet (fail)
      have HE : Hid (Below w10.heap.size w10 (v4.drewN nq)) := HS4.out.trans (below_drewN (Below.refl _ _) _)
      clear HS4 y4 yk ya yb
      go_wp2
      exact ⟨⟨k + 1, by omega, by simp, HE⟩, by simp [intOf]; omega⟩
    have F0' : 0 < (F : Int) := by omega
    have F0d : decide (0 < (F : Int)) = true := decide_eq_true F0'
    have F0n : decide (0 < F) = true := decide_eq_true F0
    by_cases kv0 : kv = 0
    case neg =>
      have kv0' : (kv == 0) = false := by simpa using kv0
      clear hA
      go_wp2_with fail
      go_big_quiet (fail)
      have HE : Hid (Below w10.heap.size w10 (v4.drewN nq)) := HS4.out.trans (below_drewN (Below.refl _ _) _)
      clear HS4 y4 yk ya yb
      go_wp2
      exact ⟨⟨k + 1, by omega, by simp, HE⟩, by simp [intOf]; omega⟩
    have kv0' : (kv == 0) = true := by simp [kv0]
    obtain ⟨hA1, hA2⟩ := hA kv0
    have hd1 : ¬ B < A := by omega
    have hd1' : decide (B < A) = false := decide_eq_false hd1
    clear hA kv0
    by_cases hf : 14 - (F : Int) < B
    case neg =>
      have hf' : decide (14 - (F : Int) < B) = false := decide_eq_false hf
      clear hA1 hA2
      go_wp2_with fail
      go_big_quiet (fail)
      have HE : Hid (Below w10.heap.size w10 (v4.drewN nq)) := HS4.out.trans (below_drewN (Below.refl _ _) _)
      clear HS4 y4 yk ya yb
      go_wp2
      exact ⟨⟨k + 1, by omega, by simp, HE⟩, by simp [intOf]; omega⟩
    have hf' : decide (14 - (F : Int) < B) = true := decide_eq_true hf
    have hd2 : ¬ A < B := by omega
    have hd2' : decide (A < B) = false := decide_eq_false hd2
    clear hA1 hA2
    go_wp2_with fail
    go_big_quiet (fail)
    have HE : Hid (Below w10.heap.size w10 (v4.drewN nq)) := HS4.out.trans (below_drewN (Below.refl _ _) _)
    clear HS4 y4 yk ya yb
    go_wp2
    exact ⟨⟨k + 1, by omega, by simp, HE⟩, by simp [intOf]; omega⟩
end Go.Proofs.YtjeapaojbkicmaaDoor
