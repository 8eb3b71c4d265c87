/-
  LightMirrors: nine rows turned about; the walk.
-/
import Derived.Test.YtjeapaojbkicmaaDoorLaw0
import Derived.Test.YtjeapaojbkicmaaDoorLflood
import Derived.BigQuiet
import Derived.Deep.QuietTactic
import Derived.Deep.DeepCutAuto
set_option maxRecDepth 20000
namespace Go.Proofs.YtjeapaojbkicmaaDoor
open C Go.RowKit L

/-- A row of the nine, turned about. -/
def mirC (css : List (List Int)) (j : Nat) : List Int := (List.range 32768).map fun k => (css.getD (j / 3 * 3 + 2 - j % 3) []).getD (k / 16 * 16 + 15 - k % 16) 0
theorem mirC_len (css : List (List Int)) (j : Nat) : (mirC css j).length = 32768 := by simp [mirC]
theorem mirC_at (css : List (List Int)) (j : Nat) {k : Nat} (hk : k < 32768) : (mirC css j).getD k 0 = (css.getD (j / 3 * 3 + 2 - j % 3) []).getD (k / 16 * 16 + 15 - k % 16) 0 := by
  unfold mirC
  rw [List.getD_eq_getElem?_getD, List.getElem?_map, List.getElem?_range hk, Option.map_some, Option.getD_some]
def mirL (css : List (List Int)) : List (List Int) := (List.range 9).map (mirC css)
theorem mirL_at (css : List (List Int)) {j : Nat} (hj : j < 9) : (mirL css).getD j [] = mirC css j := by
  unfold mirL
  rw [List.getD_eq_getElem?_getD, List.getElem?_map, List.getElem?_range hj, Option.map_some, Option.getD_some]
theorem mirC_kinds {css : List (List Int)} (h : ∀ j, j < 9 → Kinds (css.getD j [])) {j : Nat} (hj : j < 9) : Kinds (mirC css j) := fun x hx => by
  unfold mirC at hx
  obtain ⟨k, _, rfl⟩ := List.mem_map.1 hx
  exact (h _ (by omega)).at _
theorem mirL_kAt {css : List (List Int)} (hl : ∀ j, j < 9 → (css.getD j []).length = 32768) (i : Nat) : kAt (mirL css) i = kAt css (turn i) := by
  obtain ⟨x, z, y, _, _, _, e, hx, hz⟩ := digits 48 48 i (by omega) (by omega)
  rw [e, turn_of hx hz, kAt_of _ hx hz, kAt_of _ (show 47 - x < 48 by omega) hz, mirL_at css (by omega)]
  by_cases hy : y < 128
  · rw [mirC_at css _ (by omega)]
    have e1 : (z / 16 * 3 + x / 16) / 3 * 3 + 2 - (z / 16 * 3 + x / 16) % 3 = z / 16 * 3 + (47 - x) / 16 := by omega
    have e2 : (y * 256 + z % 16 * 16 + x % 16) / 16 * 16 + 15 - (y * 256 + z % 16 * 16 + x % 16) % 16 = y * 256 + z % 16 * 16 + (47 - x) % 16 := by omega
    rw [e1, e2]
  · have h1 := mirC_len css (z / 16 * 3 + x / 16)
    have h2 := hl (z / 16 * 3 + (47 - x) / 16) (by omega)
    rw [List.getD_eq_getElem?_getD, List.getElem?_eq_none (by omega), List.getD_eq_getElem?_getD, List.getElem?_eq_none (by omega)]
theorem turn_mid (k : Nat) : turn (mid k) = mid (k / 16 * 16 + 15 - k % 16) := by unfold turn mid; omega
/-- Light that is turned about. -/
theorem mirror_light {s t : L.Sys} (hs : s.n = 48 * 48 * 128) (ht : t.n = 48 * 48 * 128) (h1 : ∀ i v, L.Lit s i v → L.Lit t (turn i) v) (h2 : ∀ i v, L.Lit t i v → L.Lit s (turn i) v) {a b : List Int} (ha : IsLight s a) (hb : IsLight t b) {k : Nat} (hk : k < 32768) : a.getD k 0 = b.getD (k / 16 * 16 + 15 - k % 16) 0 := by
  obtain ⟨_, l, hl, e1⟩ := ha
  obtain ⟨_, m, hm, e2⟩ := hb
  rw [e1 k hk, e2 _ (by omega), ← turn_mid]
  have hmk : mid k < 48 * 48 * 128 := mid_lt hk
  have htk := turn_lt hmk
  have a1 : l (mid k) ≤ m (turn (mid k)) := (hm _ (by rw [ht]; exact htk) _).1 (h1 _ _ ((hl _ (by rw [hs]; exact hmk) _).2 (Nat.le_refl _)))
  have a2 : m (turn (mid k)) ≤ l (turn (turn (mid k))) := (hl _ (by rw [hs, turn_turn]; exact hmk) _).1 (h2 _ _ ((hm _ (by rw [ht]; exact htk) _).2 (Nat.le_refl _)))
  rw [turn_turn] at a2
  have : l (mid k) = m (turn (mid k)) := Nat.le_antisymm a1 a2
  rw [this]
theorem many_rows {w0 w : World} {av : Option Addr} {cv : Nat} {gs : List Nat} {css : List (List Int)} (h : Many w0 28 5 slV (mirC css) 9 av cv gs w) : ∃ b, av = some ⟨b, 0, none⟩ ∧ Nr w b (fun j => gs.getD j 0) (fun _ => 32768) (mirL css) := by
  obtain ⟨b, e, hr⟩ := h.row (by omega)
  refine ⟨b, e, fun j hj => hr j hj, fun _ _ => Nat.le_refl _, fun j hj => ?_, fun j hj => ?_⟩
  · rw [mirL_at css hj]
    exact blk_pre (h.blk j hj)
  · rw [mirL_at css hj]
    exact mirC_len css j
/-- The first K cells of a new row. -/
structure MirI (wo : World) (g : Nat) (css : List (List Int)) (i K : Nat) (W : World) : Prop where
  blk : ∃ cs, Blk W g 5 cs ∧ cs.length = 32768 ∧ ∀ k, k < K → cs.getD k 0 = (mirC css i).getD k 0
  bel : Below wo.heap.size wo W
set_option maxRecDepth 1000000 in
set_option maxHeartbeats 4000000 in
theorem mirrored_c (b cv : Nat) (gs : Nat → Nat) (css : List (List Int)) (w : World) (hN : Nr w b gs (fun _ => 32768) css) (hk : ∀ j, j < 9 → Kinds (css.getD j [])) :
    Calls Tryd.prog 23 #[.slice (some ⟨b, 0, none⟩) 9 cv] w fun e w' => ∃ av c2 gs2, e = .returned (.slice av 9 c2) ∧ Many w 28 5 slV (mirC css) 9 av c2 gs2 w' := by
  obtain ⟨Post, hPost⟩ : ∃ Post : Ending → World → Prop, Post = fun e w' => ∃ av c2 gs2, e = .returned (.slice av 9 c2) ∧ Many w 28 5 slV (mirC css) 9 av c2 gs2 w' := ⟨_, rfl⟩
  rw [← hPost]
  have HP : Hid (∀ av c2 gs2 w', Many w 28 5 slV (mirC css) 9 av c2 gs2 w' → Post (.returned (.slice av 9 c2)) w') := fun av c2 gs2 w' h => by rw [hPost]; exact ⟨_, _, _, rfl, h⟩
  clear hPost
  have HR : Hid (Nr w b gs (fun _ => 32768) css ∧ ∀ j, j < 9 → Kinds (css.getD j [])) := ⟨hN, hk⟩
  clear hN hk
  have H0 : Hid (∃ gs, Many w 28 5 slV (mirC css) 0 none 0 gs w) := ⟨[], Many.init⟩
  have hmk := make_bytes
  obtain ⟨Z, hZe⟩ : ∃ Z, Z = List.replicate 32768 (0 : Int) := ⟨_, rfl⟩
  have HZ : Hid (Z.length = 32768) := by show Z.length = 32768; rw [hZe, List.length_replicate]
  rw [← hZe] at hmk
  clear hZe
  go_enter Tryd.func23, Tryd.ntmps23
  go_wp2
  go_loopw [3, 4] (fun vo vi wr => ∃ (i : Nat) (av : Option Addr) (c : Nat), i ≤ 9 ∧ vo = .slice av i c ∧ vi = .int .i64 (i : Int) ∧ Hid (∃ gs, Many w 28 5 slV (mirC css) i av c gs wr)) (fun _ vi _ => 9 - (intOf vi).toNat)
  case atStart => exact ⟨0, none, 0, by omega, rfl, rfl, H0⟩
  case round =>
    clear H0
    obtain ⟨i, av, c, hi, rfl, rfl, HM⟩ := hrel
    by_cases hlt : i < 9
    case neg =>
      have hge : ¬ (i : Int) < 9 := by omega
      obtain rfl : i = 9 := by omega
      obtain ⟨gs, hM⟩ := HM.out
      have R := HP.out av c gs wr hM
      clear HM HP HR hM hmk
      go_wp2
      first | exact R | (go_ret; exact R)
    have hlt' : (i : Int) < 9 := by omega
    have wi : IntKind.i64.wrap ((i : Int) + 1) = ((i + 1 : Nat) : Int) := by rw [IntKind.wrap_i64]; omega
    obtain ⟨q3, hq3⟩ : ∃ q, i / 3 = q := ⟨_, rfl⟩
    obtain ⟨r3, hr3⟩ : ∃ r, i % 3 = r := ⟨_, rfl⟩
    have t1 : Int.tdiv (i : Int) 3 = (q3 : Int) := by rw [Int.tdiv_eq_ediv_of_nonneg (by omega)]; omega
    have t2 : Int.tmod (i : Int) 3 = (r3 : Int) := by rw [Int.tmod_eq_emod_of_nonneg (by omega)]; omega
    have q3b : q3 ≤ 2 := by omega
    have r3b : r3 ≤ 2 := by omega
    obtain ⟨J, hJ⟩ : ∃ J, q3 * 3 + 2 - r3 = J := ⟨_, rfl⟩
    have eJ : (q3 : Int) * 3 + 2 - (r3 : Int) = (J : Int) := by omega
    have Jb : J < 9 := by omega
    have Jb' : (J : Int) < 9 := by omega
    have HJ : Hid (i / 3 * 3 + 2 - i % 3 = J) := by show i / 3 * 3 + 2 - i % 3 = J; rw [hq3, hr3]; exact hJ
    clear hq3 hr3 hJ
    obtain ⟨g, hg⟩ : ∃ g, wr.heap.size = g := ⟨_, rfl⟩
    obtain ⟨wi2, hwi2⟩ : ∃ wi2, wi2 = wr.alloc (.cells (vals Z) 5) := ⟨_, rfl⟩
    have hb2 : Below wr.heap.size wr wi2 := by rw [hwi2]; exact (Below.refl _ _).alloc (Nat.le_refl _) _
    have hbk : Blk wi2 g 5 Z := by rw [hwi2, ← hg]; exact Blk.new wr 5 Z
    have HW : Hid (wi2 = wr.alloc (.cells (vals Z) 5)) := hwi2
    have hyJ : wi2.cell? ⟨b, J, none⟩ = some (.slice (some ⟨gs J, 0, none⟩) 32768 32768) := by
      obtain ⟨gs', hM⟩ := HM.out
      exact cell_below (cell_below (HR.out.1.out J Jb) hM.bel |> fun h => h) hb2
    have HI : Hid (MirI wr g css i 0 wi2 ∧ wr.heap.size = g ∧ Nr wr b gs (fun _ => 32768) css) := by
      obtain ⟨gs', hM⟩ := HM.out
      exact ⟨⟨⟨Z, hbk, HZ.out, fun k hk => absurd hk (Nat.not_lt_zero _)⟩, hb2⟩, hg, HR.out.1.on hM.bel⟩
    have Hlt : Hid (i < 9 ∧ J < 9) := ⟨hlt, Jb⟩
    clear hwi2 hb2 hbk hg hlt HP
    obtain ⟨gj, hgj⟩ : ∃ gj, gs J = gj := ⟨_, rfl⟩
    rw [hgj] at hyJ
    have Hgj : Hid (gs J = gj) := hgj
    clear hgj
    obtain ⟨wq, hwq⟩ : ∃ wq, wq = wr := ⟨_, rfl⟩
    subst hwq
    rw [HW.out] at hyJ
    go_wp2
    rw [← HW.out, HI.out.2.1]
    clear hyJ t1 t2 HW
    go_loopw [7] (fun vk wr => ∃ K : Nat, K ≤ 32768 ∧ vk = .int .i64 (K : Int) ∧ Hid (MirI wq g css i K wr)) (fun vk _ => 32768 - (intOf vk).toNat)
    case atStart => exact ⟨0, by omega, rfl, HI.out.1⟩
    case round =>
      obtain ⟨K, hK, rfl, HS⟩ := hrel
      by_cases hlk : K < 32768
      case pos =>
        have hlk' : (K : Int) < 32768 := by omega
        have wk : IntKind.i64.wrap ((K : Int) + 1) = ((K + 1 : Nat) : Int) := by rw [IntKind.wrap_i64]; omega
        obtain ⟨q, hq⟩ : ∃ q, K / 16 = q := ⟨_, rfl⟩
        obtain ⟨r, hr⟩ : ∃ r, K % 16 = r := ⟨_, rfl⟩
        have k1 : Int.tdiv (K : Int) 16 = (q : Int) := by rw [Int.tdiv_eq_ediv_of_nonneg (by omega)]; omega
        have k2 : Int.tmod (K : Int) 16 = (r : Int) := by rw [Int.tmod_eq_emod_of_nonneg (by omega)]; omega
        have qb : q ≤ 2047 := by omega
        have rb : r ≤ 15 := by omega
        obtain ⟨M, hM⟩ : ∃ M, q * 16 + 15 - r = M := ⟨_, rfl⟩
        have eM : (q : Int) * 16 + 15 - (r : Int) = (M : Int) := by omega
        have Mb : M < 32768 := by omega
        have Mb' : (M : Int) < 32768 := by omega
        have HMk : Hid (K / 16 * 16 + 15 - K % 16 = M ∧ K < 32768) := ⟨by rw [hq, hr]; exact hM, hlk⟩
        clear hq hr hM hlk
        have hpj := HI.out.2.2.row J Hlt.out.2
        have hlj := HI.out.2.2.len J Hlt.out.2
        rw [Hgj.out] at hpj
        have ys := (hpj.below HS.out.bel hpj.lt).cell (k := M) (by rw [hlj]; exact Mb)
        obtain ⟨⟨cs, h1, h2, h3⟩, h4⟩ := HS.out
        have yt := h1.cell (k := K) (by rw [h2]; exact HMk.out.2)
        have ft := h1.free K
        obtain ⟨X, hX⟩ : ∃ X, (css.getD J []).getD M 0 = X := ⟨_, rfl⟩
        have HX : Hid ((css.getD J []).getD M 0 = X) := hX
        rw [hX] at ys
        have HE : Hid (MirI wq g css i (K + 1) (wr.setCell ⟨g, K, none⟩ (.int .u8 X))) := by
          have hKl := HMk.out.2
          refine ⟨⟨_, h1.set K X, by rw [List.length_set]; exact h2, fun k hk => ?_⟩, h4.trans ⟨rfl, rfl, rfl, by simp [World.setCell], fun j hj => Below.heap_setCell wr ⟨g, K, none⟩ _ j (by show j ≠ g; have := HI.out.2.1; omega)⟩⟩
          by_cases e : k = K
          · subst e
            rw [C.getD_set_self cs k _ (by omega), mirC_at css i hKl, HJ.out, HMk.out.1, HX.out]
          · rw [C.getD_set_ne cs _ (fun q => e q.symm)]
            exact h3 k (by omega)
        generalize cs.getD K 0 = v0 at yt
        clear h1 h2 h3 h4 hpj hlj hX HS HI HMk HX Hlt HJ Hgj HM HR HZ
        go_wp2
        exact ⟨⟨K + 1, by omega, by simp, HE⟩, by simp [intOf]; omega⟩
      have hlk' : ¬ (K : Int) < 32768 := by omega
      have HM1 : Hid (∃ gs, Many w 28 5 slV (mirC css) i av c gs (wr.alloc (.cells #[.slice (some ⟨g, 0, none⟩) 32768 32768] 28)) ∧ Blk (wr.alloc (.cells #[.slice (some ⟨g, 0, none⟩) 32768 32768] 28)) g 5 (mirC css i) ∧ g ∉ gs ∧ w.heap.size ≤ g) := by
        obtain rfl : K = 32768 := by omega
        obtain ⟨⟨cs, h1, h2, h3⟩, h4⟩ := HS.out
        obtain ⟨gs', hM⟩ := HM.out
        have hb3 : Below wr.heap.size wr (wr.alloc (.cells #[.slice (some ⟨g, 0, none⟩) 32768 32768] 28)) := (Below.refl _ _).alloc (Nat.le_refl _) _
        have e : cs = mirC css i := C.getD_ext (h2.trans (mirC_len css i).symm) (fun k hk => h3 k (by omega))
        rw [e] at h1
        have hgs := HI.out.2.1
        exact ⟨gs', (hM.on h4).on hb3, h1.below hb3 h1.lt, fun h => by have := hM.lt _ h; omega, by have := hM.bel.size; omega⟩
      clear HS HM HI Hlt HJ Hgj HR HZ hmk hK hlk
      obtain ⟨gs', hMM⟩ := HM1.out
      have HMM : Hid _ := hMM
      clear hMM HM1
      go_wp2_with (at_builtin; refine wpList_append_val 24 28 _ _ Tryd.underlying24 info28 rfl (by omega) rfl _ _ rfl w.heap.size av i c (gs'.map slV) rfl HMM.out.1.own ⟨wr.heap.size, 0, none⟩ (.slice (some ⟨g, 0, none⟩) 32768 32768) rfl (cell_new _ _ _) rfl (by omega) HMM.out.1.bel.size ?_; intro a9 c9 w9 ho9 hg9; have HE : Hid (∃ gs, Many w 28 5 slV (mirC css) (i + 1) a9 c9 gs w9) := ⟨_, HMM.out.1.add (by decide) HMM.out.2.1 HMM.out.2.2.2 HMM.out.2.2.1 ho9 hg9⟩; clear ho9 hg9)
      exact ⟨⟨i + 1, a9, c9, by omega, rfl, by simp, HE⟩, by simp [intOf]; omega⟩
set_option maxRecDepth 1000000 in
set_option maxHeartbeats 16000000 in
theorem lightMirrors_walk (la : Option Addr) (lb lo n lc : Nat) (P : Nat → Nat → Int) (w : World) (hn : n ≤ 9223372036854775807) (hla : 0 < n → la = some ⟨lb, lo, none⟩) (hc : ∀ i, i < n → ∀ f, f < 7 → w.cell? ⟨lb, lo + i * 7 + f, none⟩ = some (.int .i64 (P i f))) (hT : Tabs w) :
    Calls Tryd.prog 7 #[.slice la n lc] w fun e w' => e = .returned (.bool true) ∧ Below w.heap.size w w' := by
  have HI : Hid (n ≤ 9223372036854775807 ∧ (0 < n → la = some ⟨lb, lo, none⟩) ∧ ∀ i, i < n → ∀ f, f < 7 → w.cell? ⟨lb, lo + i * 7 + f, none⟩ = some (.int .i64 (P i f))) := ⟨hn, hla, hc⟩
  have HT : Hid (Tabs w) := hT
  have haw := awake_c w hT
  clear hn hla hc hT
  go_enter Tryd.func7, Tryd.ntmps7
  go_wp2_with fail
  refine haw.mono ?_
  clear haw
  rintro _ w1 ⟨rfl, hb1⟩
  have H1 : Hid (Below w.heap.size w w1) := hb1
  have hsc := scape_c la lb lo n lc P w1 HI.out.1 HI.out.2.1 (fun i hi f hf => (hb1.cell (p := ⟨lb, lo + i * 7 + f, none⟩) (World.block_lt_of_cell? w _ (HI.out.2.2 i hi f hf))).trans (HI.out.2.2 i hi f hf))
  clear hb1
  go_wp2_with fail
  refine hsc.mono ?_
  clear hsc
  rintro _ w2 ⟨b, cv, gs, css, rfl, hG⟩
  have HG : Hid ((css.length = 9 ∧ ∀ j, j < 9 → (css.getD j []).length = 32768) ∧ (∀ j, j < 9 → Kinds (css.getD j [])) ∧ Nr w2 b gs (fun _ => 32768) css ∧ Below w.heap.size w w2 ∧ Tabs w2 ∧ (∀ i j, i < 9 → j < 9 → gs i = gs j → i = j)) := by
    have hb : Below w.heap.size w w2 := H1.out.trans (hG.bel.mono H1.out.size)
    exact ⟨⟨hG.sh.n, hG.sh.len⟩, sh_kinds hG.sh (partsBd air_bd _), hG.nr, hb, HT.out.on hb, hG.ap⟩
  clear hG H1 HI HT
  have hch := chunks_c b cv gs (fun _ => 32768) css w2 HG.out.2.2.1 HG.out.2.1
  go_wp2_with fail
  refine hch.mono ?_
  clear hch
  rintro _ w3 ⟨av, c2, gs2, rfl, hM⟩
  obtain ⟨b2, rfl, hN⟩ := many_nine hM HG.out.1.2 HG.out.2.1
  have HM : Hid (Below w2.heap.size w2 w3 ∧ Tabs w3 ∧ N9 w3 b2 (fun i => gs2.getD i 0) css) := ⟨hM.bel, HG.out.2.2.2.2.1.on hM.bel, hN⟩
  clear hM hN
  have hnr3 : Nr w3 b gs (fun _ => 32768) css := HG.out.2.2.1.on HM.out.1
  have hmi := mirrored_c b cv gs css w3 hnr3 HG.out.2.1
  clear hnr3
  go_wp2_with fail
  refine hmi.mono ?_
  clear hmi
  rintro _ w4 ⟨avm, cm, gsm, rfl, hMm⟩
  obtain ⟨bm, rfl, hNm⟩ := many_rows hMm
  obtain ⟨ms, hms⟩ : ∃ ms, mirL css = ms := ⟨_, rfl⟩
  rw [hms] at hNm
  have HMS : Hid (mirL css = ms ∧ (∀ j, j < 9 → (ms.getD j []).length = 32768) ∧ ∀ j, j < 9 → Kinds (ms.getD j [])) := by
    rw [← hms]
    exact ⟨rfl, fun j hj => by rw [mirL_at css hj]; exact mirC_len css j, fun j hj => by rw [mirL_at css hj]; exact mirC_kinds HG.out.2.1 hj⟩
  have H4 : Hid (Below w3.heap.size w3 w4 ∧ Tabs w4) := ⟨hMm.bel, HM.out.2.1.on hMm.bel⟩
  have hch2 := chunks_c bm cm _ _ ms w4 hNm HMS.out.2.2
  clear hMm hNm hms
  go_wp2_with fail
  refine hch2.mono ?_
  clear hch2
  rintro _ w8 ⟨av, c3, gs3, rfl, hM⟩
  obtain ⟨b3, rfl, hN⟩ := many_nine hM HMS.out.2.1 HMS.out.2.2
  have HM2 : Hid (Below w3.heap.size w3 w8 ∧ Tabs w8 ∧ N9 w8 b3 (fun i => gs3.getD i 0) ms) := ⟨H4.out.1.trans (hM.bel.mono H4.out.1.size), H4.out.2.on hM.bel, hN⟩
  clear hM hN H4
  have hn1 : (binOp .eql 26 (.slice (some ⟨b2, 0, none⟩) 9 c2) (.slice none 0 0)).run Tryd.prog w8 = .ok (.bool false) w8 := by kernel_rfl
  have hn2 : (binOp .eql 26 (.slice (some ⟨b3, 0, none⟩) 9 c3) (.slice none 0 0)).run Tryd.prog w8 = .ok (.bool false) w8 := by kernel_rfl
  have hN8 := HM.out.2.2.on HM2.out.1
  have hfl := flood_c b2 c2 _ css w8 hN8 HM2.out.2.1
  clear hN8
  go_wp2_with fail
  refine hfl.mono ?_
  clear hfl
  rintro _ w9 ⟨x1, y1, rfl, hF⟩
  have HF1 : Hid (FloodG w8 css x1 y1 w9) := hF
  have hfl := flood_c b3 c3 _ ms w9 (HM2.out.2.2.on hF.bel) (HM2.out.2.1.on hF.bel)
  clear hF
  go_wp2_with fail
  refine hfl.mono ?_
  clear hfl hn1 hn2
  rintro _ w10 ⟨x2, y2, rfl, hF⟩
  obtain ⟨sa, hsa, hska⟩ := HF1.out.sky
  obtain ⟨la1, hla1, hlma⟩ := HF1.out.lamp
  obtain ⟨sb, hsb, hskb⟩ := hF.sky
  obtain ⟨lb1, hlb1, hlmb⟩ := hF.lamp
  have HF2 : Hid (Blk w10 x1 5 sa ∧ Blk w10 y1 5 la1 ∧ Blk w10 x2 5 sb ∧ Blk w10 y2 5 lb1 ∧ Below w.heap.size w w10 ∧ Below w3.heap.size w3 w10) := by
    have hb3 : Below w3.heap.size w3 w10 := HM2.out.1.trans ((HF1.out.bel.trans (hF.bel.mono HF1.out.bel.size)).mono HM2.out.1.size)
    have hb23 : Below w.heap.size w w3 := HG.out.2.2.2.1.trans (HM.out.1.mono HG.out.2.2.2.1.size)
    exact ⟨hsa.below hF.bel hsa.lt, hla1.below hF.bel hla1.lt, hsb, hlb1, hb23.trans (hb3.mono hb23.size), hb3⟩
  have HLt : Hid (IsLight (skyC css) sa ∧ IsLight (lampC css) la1 ∧ IsLight (skyC ms) sb ∧ IsLight (lampC ms) lb1) := ⟨hska, hlma, hskb, hlmb⟩
  have HCs : Hid (css.length = 9 ∧ (css.getD 4 []).length = 32768) := ⟨HG.out.1.1, HG.out.1.2 4 (by omega)⟩
  have HQ : Hid (∀ k, k < 32768 → sa.getD k 0 = sb.getD (k / 16 * 16 + 15 - k % 16) 0 ∧ la1.getD k 0 = lb1.getD (k / 16 * 16 + 15 - k % 16) 0) := fun k hk => by
    have hk1 : ∀ i, kAt ms i = kAt css (turn i) := fun i => by rw [← HMS.out.1]; exact mirL_kAt HG.out.1.2 i
    have hk2 : ∀ i, kAt css i = kAt ms (turn i) := fun i => by rw [hk1, turn_turn]
    exact ⟨mirror_light rfl rfl (fun i v => (mirrors hk2 i v).1) (fun i v => (mirrors hk1 i v).1) HLt.out.1 HLt.out.2.2.1 hk, mirror_light rfl rfl (fun i v => (mirrors hk2 i v).2) (fun i v => (mirrors hk1 i v).2) HLt.out.2.1 HLt.out.2.2.2 hk⟩
  have HLn : Hid ((sa.length = 32768 ∧ sb.length = 32768) ∧ la1.length = 32768 ∧ lb1.length = 32768) := ⟨⟨hska.1, hskb.1⟩, hlma.1, hlmb.1⟩
  clear hsa hska hla1 hlma hsb hskb hlb1 hlmb hF HF1 HM HM2 HG HCs HLt HMS
  have H0 : Hid (Below w10.heap.size w10 w10) := Below.refl _ _
  go_wp2
  go_loopw [13] (fun vi wr => ∃ k : Nat, k ≤ 32768 ∧ vi = .int .i64 (k : Int) ∧ Hid (Below w10.heap.size w10 wr)) (fun vi _ => 32768 - (intOf vi).toNat)
  case atStart => exact ⟨0, by omega, rfl, H0⟩
  case round =>
    clear H0
    obtain ⟨k, hk, rfl, HS⟩ := hrel
    by_cases hlt : k < 32768
    case neg =>
      have hlt' : ¬ (k : Int) < 32768 := by omega
      have R : Hid (Below w.heap.size w wr) := HF2.out.2.2.2.2.1.trans (HS.out.mono HF2.out.2.2.2.2.1.size)
      clear HS HF2 HQ HLn hlt
      go_wp2
      go_ret
      exact ⟨rfl, R.out⟩
    have hlt' : (k : Int) < 32768 := by omega
    have wk : IntKind.i64.wrap ((k : Int) + 1) = ((k + 1 : Nat) : Int) := by rw [IntKind.wrap_i64]; omega
    obtain ⟨q, hq⟩ : ∃ q, k / 16 = q := ⟨_, rfl⟩
    obtain ⟨r, hr⟩ : ∃ r, k % 16 = r := ⟨_, rfl⟩
    have k1 : Int.tdiv (k : Int) 16 = (q : Int) := by rw [Int.tdiv_eq_ediv_of_nonneg (by omega)]; omega
    have k2 : Int.tmod (k : Int) 16 = (r : Int) := by rw [Int.tmod_eq_emod_of_nonneg (by omega)]; omega
    have qb : q ≤ 2047 := by omega
    have rb : r ≤ 15 := by omega
    obtain ⟨M, hM⟩ : ∃ M, q * 16 + 15 - r = M := ⟨_, rfl⟩
    have eM : (q : Int) * 16 + 15 - (r : Int) = (M : Int) := by omega
    have Mb : M < 32768 := by omega
    have Mb' : (M : Int) < 32768 := by omega
    obtain ⟨f1, f2, f3, f4, f5, f6⟩ := HF2.out
    have hqq := HQ.out k hlt
    rw [hq, hr, hM] at hqq
    have ya := (f1.below HS.out f1.lt).cell (k := k) (by rw [HLn.out.1.1]; exact hlt)
    have yb := (f3.below HS.out f3.lt).cell (k := M) (by rw [HLn.out.1.2]; exact Mb)
    have yc := (f2.below HS.out f2.lt).cell (k := k) (by rw [HLn.out.2.1]; exact hlt)
    have yd := (f4.below HS.out f4.lt).cell (k := M) (by rw [HLn.out.2.2]; exact Mb)
    rw [← hqq.1] at yb
    rw [← hqq.2] at yd
    generalize sa.getD k 0 = A at ya yb
    generalize la1.getD k 0 = B at yc yd
    clear f1 f2 f3 f4 f5 f6 hlt hqq hq hr hM
    go_wp2_with fail
    go_quiet (fail)
    have HE : Hid (Below w10.heap.size w10 (wr.drewN nq)) := HS.out.trans (below_drewN (Below.refl _ _) _)
    clear HS HF2 HQ HLn ya yb yc yd
    go_wp2
    exact ⟨⟨k + 1, by omega, by simp, HE⟩, by simp [intOf]; omega⟩
end Go.Proofs.YtjeapaojbkicmaaDoor
