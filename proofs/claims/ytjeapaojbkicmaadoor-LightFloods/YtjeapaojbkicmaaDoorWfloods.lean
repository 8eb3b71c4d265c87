/-
  LightFloods: the walk.
-/
import Derived.Test.YtjeapaojbkicmaaDoorLaw0
import Derived.Test.YtjeapaojbkicmaaDoorLflood
import Derived.Test.YtjeapaojbkicmaaDoorCAwake
import Derived.Test.YtjeapaojbkicmaaDoorLheld
set_option maxRecDepth 20000
namespace Go.Proofs.YtjeapaojbkicmaaDoor
open C Go.RowKit L

theorem light_kinds {s : L.Sys} (hn : s.n = 48 * 48 * 128) {a : List Int} (h : IsLight s a) : Kinds a := fun x hx => by
  obtain ⟨i, hi, rfl⟩ := List.getElem_of_mem hx
  have := h.bd hn (i := i) (by have := h.1; omega)
  rw [List.getD_eq_getElem?_getD, List.getElem?_eq_getElem hi] at this
  simp only [Option.getD_some] at this
  omega
theorem blk_conv {w : World} {g c : Nat} {t : TypeId} {cs : List Int} (h : Blk w g t cs) (hl : cs.length = 32768) (hk : Kinds cs) : (convert 28 9 (.slice (some ⟨g, 0, none⟩) 32768 c)).run Tryd.prog w = .ok (.string (strOfNums cs)) w := by
  have hs := Pre.src (blk_pre h) hk
  rw [hl] at hs
  exact conv_c hs
theorem pre_conv {w : World} {g c : Nat} {t : TypeId} {cs : List Int} (h : Pre w g t cs) (hl : cs.length = 32768) (hk : Kinds cs) : (convert 28 9 (.slice (some ⟨g, 0, none⟩) 32768 c)).run Tryd.prog w = .ok (.string (strOfNums cs)) w := by
  have hs := Pre.src h hk
  rw [hl] at hs
  exact conv_c hs
/-- A row of bytes of one's own as a row in memory. -/
theorem own_pre {w : World} {lo c : Nat} {a : Option Addr} {xs : List Int} (h : OwnB w lo a c xs) (h0 : 0 < xs.length) : ∃ g, a = some ⟨g, 0, none⟩ ∧ lo ≤ g ∧ Pre w g 5 xs := by
  have h' := h
  unfold OwnB at h'
  rcases h'.2 with ⟨_, h1⟩ | ⟨g, cap, cur, hv, hlo, hh, hl, _, _, ht⟩
  · omega
  · simp only [Value.slice.injEq] at hv
    obtain ⟨rfl, _⟩ := hv
    refine ⟨g, rfl, hlo, cur, hh, ?_, fun k hk => ?_⟩
    · have e := congrArg List.length ht
      rw [List.length_take, Nat.mul_one] at e
      unfold bvs at e
      rw [List.length_map, Array.length_toList] at e
      omega
    · have e := congrArg (fun l => l[k]?) ht
      change (List.take (xs.length * 1) cur.toList)[k]? = (bvs xs)[k]? at e
      rw [List.getElem?_take, if_pos (by omega)] at e
      unfold bvs at e
      rw [List.getElem?_map, List.getElem?_eq_getElem hk] at e
      rw [List.getD_eq_getElem?_getD, List.getElem?_eq_getElem hk]
      simpa using e
set_option maxRecDepth 1000000 in
set_option maxHeartbeats 16000000 in
theorem lightFloods_walk (la : Option Addr) (lb lo n lc : Nat) (P : Nat → Nat → Int) (w : World) (hn : n ≤ 9223372036854775807) (hla : 0 < n → la = some ⟨lb, lo, none⟩) (hc : ∀ i, i < n → ∀ f, f < 7 → w.cell? ⟨lb, lo + i * 7 + f, none⟩ = some (.int .i64 (P i f))) (hT : Tabs w) :
    Calls Tryd.prog 3 #[.slice la n lc] w fun e w' => e = .returned (.bool true) ∧ Below w.heap.size w w' := by
  have HI : Hid (n ≤ 9223372036854775807 ∧ (0 < n → la = some ⟨lb, lo, none⟩) ∧ ∀ i, i < n → ∀ f, f < 7 → w.cell? ⟨lb, lo + i * 7 + f, none⟩ = some (.int .i64 (P i f))) := ⟨hn, hla, hc⟩
  have HT : Hid (Tabs w) := hT
  have haw := awake_c w hT
  clear hn hla hc hT
  go_enter Tryd.func3, Tryd.ntmps3
  go_wp2_with fail
  refine haw.mono ?_
  clear haw
  rintro _ w1 ⟨rfl, hb1⟩
  have H1 : Hid (Below w.heap.size w w1) := hb1
  have hsc := scape_c la lb lo n lc P w1 HI.out.1 HI.out.2.1 (fun i hi f hf => (hb1.cell (p := ⟨lb, lo + i * 7 + f, none⟩) (World.block_lt_of_cell? w _ (HI.out.2.2 i hi f hf))).trans (HI.out.2.2 i hi f hf))
  clear hb1
  go_wp2_with fail
  refine hsc.mono ?_
  clear hsc
  rintro _ w2 ⟨b, cv, gs, css, rfl, hG⟩
  have HG : Hid ((css.length = 9 ∧ ∀ j, j < 9 → (css.getD j []).length = 32768) ∧ (∀ j, j < 9 → Kinds (css.getD j [])) ∧ Nr w2 b gs (fun _ => 32768) css ∧ Below w.heap.size w w2 ∧ Tabs w2 ∧ (∀ i j, i < 9 → j < 9 → gs i = gs j → i = j)) := by
    have hb : Below w.heap.size w w2 := H1.out.trans (hG.bel.mono H1.out.size)
    exact ⟨⟨hG.sh.n, hG.sh.len⟩, sh_kinds hG.sh (partsBd air_bd _), hG.nr, hb, HT.out.on hb, hG.ap⟩
  clear hG H1 HI HT
  have hch := chunks_c b cv gs (fun _ => 32768) css w2 HG.out.2.2.1 HG.out.2.1
  go_wp2_with fail
  refine hch.mono ?_
  clear hch
  rintro _ w3 ⟨av, c2, gs2, rfl, hM⟩
  obtain ⟨b2, rfl, hN⟩ := many_nine hM HG.out.1.2 HG.out.2.1
  have HM : Hid (Below w2.heap.size w2 w3 ∧ Tabs w3 ∧ N9 w3 b2 (fun i => gs2.getD i 0) css) := ⟨hM.bel, HG.out.2.2.2.2.1.on hM.bel, hN⟩
  clear hM hN
  have hnn : (binOp .eql 26 (.slice (some ⟨b2, 0, none⟩) 9 c2) (.slice none 0 0)).run Tryd.prog w3 = .ok (.bool false) w3 := by kernel_rfl
  have hfl := flood_c b2 c2 _ css w3 HM.out.2.2 HM.out.2.1
  go_wp2_with fail
  refine hfl.mono ?_
  clear hfl hnn
  rintro _ w4 ⟨x, y, rfl, hF⟩
  obtain ⟨ra, hra, hsky⟩ := hF.sky
  obtain ⟨rb, hrb, hlamp⟩ := hF.lamp
  have hb24 : Below w2.heap.size w2 w4 := HM.out.1.trans (hF.bel.mono HM.out.1.size)
  have hN4 : Nr w4 b gs (fun _ => 32768) css := HG.out.2.2.1.on hb24
  have hrf := rflood_c b cv gs (fun _ => 32768) css w4 hN4 HG.out.2.1
  have HF : Hid (IsLight (skyC css) ra ∧ IsLight (lampC css) rb ∧ Blk w4 x 5 ra ∧ Blk w4 y 5 rb ∧ Nr w4 b gs (fun _ => 32768) css ∧ N9 w4 b2 (fun i => gs2.getD i 0) css ∧ Below w.heap.size w w4) := ⟨hsky, hlamp, hra, hrb, hN4, HM.out.2.2.on hF.bel, HG.out.2.2.2.1.trans (hb24.mono HG.out.2.2.2.1.size)⟩
  have HKs : Hid ((∀ j, j < 9 → (css.getD j []).length = 32768) ∧ ∀ j, j < 9 → Kinds (css.getD j [])) := ⟨HG.out.1.2, HG.out.2.1⟩
  clear hra hrb hsky hlamp hb24 hN4 hF HM HG
  go_wp2_with fail
  refine hrf.mono ?_
  clear hrf
  rintro _ w5 ⟨a5, b5, ca5, cb5, rfl, hR⟩
  obtain ⟨B5, ra2, rb2, hB5, hs2, hl2, hoa, hob⟩ := hR.rows
  have era : ra2 = ra := hs2.same rfl HF.out.1
  have erb : rb2 = rb := hl2.same rfl HF.out.2.1
  rw [era] at hoa hs2
  rw [erb] at hob hl2
  obtain ⟨xa, rfl, _, hpa⟩ := own_pre hoa (by rw [hs2.1]; omega)
  obtain ⟨xb, rfl, _, hpb⟩ := own_pre hob (by rw [hl2.1]; omega)
  have H5 : Hid (Blk w5 x 5 ra ∧ Blk w5 y 5 rb ∧ Pre w5 xa 5 ra ∧ Pre w5 xb 5 rb ∧ Nr w5 b gs (fun _ => 32768) css ∧ N9 w5 b2 (fun i => gs2.getD i 0) css ∧ Below w.heap.size w w5 ∧ (ra.length = 32768 ∧ rb.length = 32768) ∧ Kinds ra ∧ Kinds rb) := by
    obtain ⟨f1, f2, f3, f4, f5, f6, f7⟩ := HF.out
    exact ⟨f3.below hR.bel f3.lt, f4.below hR.bel f4.lt, hpa, hpb, f5.on hR.bel, f6.on hR.bel, f7.trans (hR.bel.mono f7.size), ⟨f1.1, f2.1⟩, light_kinds rfl f1, light_kinds rfl f2⟩
  clear HF hR hB5 hs2 hl2 hoa hob era erb hpa hpb
  have H0 : Hid (Below w5.heap.size w5 w5) := Below.refl _ _
  go_wp2
  go_loopw [11] (fun vi wr => ∃ I : Nat, I ≤ 9 ∧ vi = .int .i64 (I : Int) ∧ Hid (Below w5.heap.size w5 wr)) (fun vi _ => 9 - (intOf vi).toNat)
  case atStart => exact ⟨0, by omega, rfl, H0⟩
  case round =>
    clear H0
    obtain ⟨i, hI, rfl, HS⟩ := hrel
    by_cases hlt : i < 9
    case neg =>
      have hlt' : ¬ (i : Int) < 9 := by omega
      obtain ⟨f1, f2, f3, f4, f5, f6, f7, ⟨f8, f8b⟩, f9, f10⟩ := H5.out
      have v1 := blk_conv (c := 32768) (f1.below HS.out f1.lt) f8 f9
      have v2 := pre_conv (c := ca5) (f3.below HS.out f3.lt) f8 f9
      have v3 := blk_conv (c := 32768) (f2.below HS.out f2.lt) f8b f10
      have v4 := pre_conv (c := cb5) (f4.below HS.out f4.lt) f8b f10
      obtain ⟨X, hX⟩ : ∃ X, strOfNums ra = X := ⟨_, rfl⟩
      obtain ⟨Y, hY⟩ : ∃ Y, strOfNums rb = Y := ⟨_, rfl⟩
      rw [hX] at v1 v2
      rw [hY] at v3 v4
      have R : Hid (Below w.heap.size w wr) := f7.trans (HS.out.mono f7.size)
      clear f1 f2 f3 f4 f5 f6 f7 f8 f8b f9 f10 hX hY H5 HS HKs hlt hI
      go_wp2
      go_ret
      exact ⟨by simp, R.out⟩
    have hlt' : (i : Int) < 9 := by omega
    have wi : IntKind.i64.wrap ((i : Int) + 1) = ((i + 1 : Nat) : Int) := by rw [IntKind.wrap_i64]; omega
    go_wp2_with fail
    refine region_L (fun W => Below wr.heap.size wr W) 12 (by kernel_rfl) ?_
    have hHeld : Below wr.heap.size wr wr.drew := (Below.refl _ wr).drew
    obtain ⟨va, hva⟩ : ∃ va, wr.drew = va := ⟨_, rfl⟩
    rw [hva] at hHeld ⊢
    clear hva
    have hne : Nonempty (Sub (fun W => Below wr.heap.size wr W)) := ⟨⟨_, hHeld⟩⟩
    obtain ⟨f1, f2, f3, f4, f5, f6, f7, f8, f9, f10⟩ := H5.out
    have hn9 := f6.on HS.out
    have hnr := f5.on HS.out
    obtain ⟨cs, hcs⟩ : ∃ cs, css.getD i [] = cs := ⟨_, rfl⟩
    have Hcs : Hid (css.getD i [] = cs ∧ cs.length = 32768 ∧ Kinds cs) := ⟨hcs, by rw [← hcs]; exact HKs.out.1 i hlt, by rw [← hcs]; exact HKs.out.2 i hlt⟩
    obtain ⟨X, hX⟩ : ∃ X, X = strOfNums cs := ⟨_, rfl⟩
    obtain ⟨xgi, hxgi⟩ : ∃ xgi, gs2.getD i 0 = xgi := ⟨_, rfl⟩
    obtain ⟨gi, hgi⟩ : ∃ gi, gs i = gi := ⟨_, rfl⟩
    have k0 : ∀ s : Sub (fun W => Below wr.heap.size wr W), s.w.cell? ⟨b2, i, none⟩ = some (.pointer (some ⟨xgi, 0, none⟩)) := fun s => by
      have h := cell_below (hn9.row i hlt) s.ok
      unfold ptV at h
      rwa [hxgi] at h
    have k1 : ∀ s : Sub (fun W => Below wr.heap.size wr W), s.w.cell? ⟨b, i, none⟩ = some (.slice (some ⟨gi, 0, none⟩) 32768 32768) := fun s => by
      have h := cell_below (hnr.out i hlt) s.ok
      rwa [hgi] at h
    have hcw : ∀ s : Sub (fun W => Below wr.heap.size wr W), (convert 28 9 (.slice (some ⟨gi, 0, none⟩) 32768 32768)).run Tryd.prog s.w = .ok (.string X) s.w := fun s => by
      have h := hnr.row i hlt
      rw [hgi, hcs] at h
      rw [hX]
      exact pre_conv (h.below s.ok h.lt) Hcs.out.2.1 Hcs.out.2.2
    have HBk : Hid (∀ W, Below wr.heap.size wr W → Blk W xgi 62 cs) := fun W h => by
      have h2 := hn9.blk i hlt
      simp only [hxgi, hcs] at h2
      exact h2.below h h2.lt
    have HXs : Hid (X = strOfNums cs) := hX
    clear hX hcs hxgi hgi f1 f2 f3 f4 f5 f6 f7 f8 f9 f10 hn9 hnr hI
    refine take_L (i := 0) rfl (by kernel_rfl) (by kernel_rfl) (by kernel_rfl) (by kernel_rfl) (fun _ _ _ _ h => h) (by exact hHeld) (fun K hK => ?_)
    go_simp
    refine hK _ ?_
    clear hK K
    refine take_L (i := 1) rfl (by kernel_rfl) (by kernel_rfl) (by kernel_rfl) (by kernel_rfl) (fun _ _ _ _ h => h) (by exact hHeld) (fun K hK => ?_)
    go_simp
    refine hK _ ?_
    clear hK K
    refine take_L (i := 2) rfl (by kernel_rfl) (by kernel_rfl) (by kernel_rfl) (by kernel_rfl) (fun _ _ _ _ h => h) (by exact hHeld) (fun K hK => ?_)
    go_simp
    refine hK _ ?_
    clear hK K
    refine take_L (i := 3) rfl (by kernel_rfl) (by kernel_rfl) (by kernel_rfl) (by kernel_rfl) (fun _ _ _ _ h => h) (by exact hHeld) (fun K hK => ?_)
    go_simp
    refine hK _ ?_
    clear hK K
    refine take_L (i := 6) rfl (by kernel_rfl) (by kernel_rfl) (by kernel_rfl) (by kernel_rfl) (fun _ _ _ _ h => h) (by exact hHeld) (fun K hK => ?_)
    go_simp
    refine hK _ ?_
    clear hK K
    refine take_L (i := 7) rfl (by kernel_rfl) (by kernel_rfl) (by kernel_rfl) (by kernel_rfl) (fun _ _ _ _ h => h) (by exact hHeld) (fun K hK => ?_)
    go_simp
    refine hK _ ?_
    clear hK K
    refine take_L (i := 8) rfl (by kernel_rfl) (by kernel_rfl) (by kernel_rfl) (by kernel_rfl) (fun _ _ _ _ h => h) (by exact hHeld) (fun K hK => ?_)
    go_simp
    refine hK _ ?_
    clear hK K
    refine take_L (i := 9) rfl (by kernel_rfl) (by kernel_rfl) (by kernel_rfl) (by kernel_rfl) (fun _ _ _ _ h => h) (by exact hHeld) (fun K hK => ?_)
    go_simp
    refine hK _ ?_
    clear hK K
    refine take_L (i := 10) rfl (by kernel_rfl) (by kernel_rfl) (by kernel_rfl) (by kernel_rfl) (fun _ _ _ _ h => h) (by exact hHeld) (fun K hK => ?_)
    go_simp
    refine hK _ ?_
    clear hK K
    refine one_L (i := 4) (by kernel_rfl) rfl (fun K hK => ?_)
    go_simp
    refine (bytes_c xgi cs va (HBk.out va hHeld) Hcs.out.2.1).mono ?_
    rintro _ w7 ⟨rfl, hB7, hb7⟩
    have v7 : (convert 28 9 (.slice (some ⟨va.heap.size, 0, none⟩) 32768 32768)).run Tryd.prog w7 = .ok (.string X) w7 := by rw [HXs.out]; exact blk_conv hB7 Hcs.out.2.1 Hcs.out.2.2
    replace hHeld : Below wr.heap.size wr w7 := hHeld.trans (hb7.mono hHeld.size)
    refine hK.out _ _ (fun _ => hHeld) ?_
    clear hK K hB7 hb7 hcw hne k0 k1 HBk
    generalize va.heap.size = gv at *
    refine one_L (i := 5) (by kernel_rfl) rfl (fun K hK => ?_)
    go_simp
    refine hK.out _ _ (fun _ => hHeld) ?_
    clear hK K
    clear v7
    refine one_L (i := 11) (by kernel_rfl) rfl (fun K hK => ?_)
    go_simp
    refine hK.out _ _ (fun _ => hHeld) ?_
    clear hK K
    refine done_L (by kernel_rfl) ?_ _
    have HE : Hid (Below w5.heap.size w5 w7) := HS.out.trans (hHeld.mono HS.out.size)
    clear hHeld HXs Hcs HS H5 HKs hlt
    go_wp2
    exact ⟨⟨i + 1, by omega, by simp, HE⟩, by simp [intOf]; omega⟩
end Go.Proofs.YtjeapaojbkicmaaDoor
