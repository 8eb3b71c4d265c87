/-
  The document's Light, of any box.
-/
import Derived.Test.YtmfjmcaaoljjlaaDoorMspr
import Derived.Test.YtmfjmcaaoljjlaaDoorMsky
set_option maxRecDepth 20000
namespace Go.Proofs.YtmfjmcaaoljjlaaDoor
open C Go.RowKit L

theorem lv_of {ls : List Int} {f : Nat → Nat} (h : ∀ i, ls.getD i 0 = (f i : Int)) (hf : ∀ i, f i ≤ 15) : Lv ls ∧ ∀ i, li ls i = f i :=
  ⟨fun i => by have := hf i; rw [h i]; omega, fun i => by unfold li; rw [h i]; simp⟩
theorem blk_pre {w : World} {g : Nat} {t : TypeId} {cs : List Int} (h : Blk w g t cs) : Pre w g t cs :=
  ⟨_, h, by rw [vals_size]; exact Nat.le_refl _, fun k hk => by simp [vals, hk]⟩
theorem Pre.grown {w w' : World} {b r : Nat} {t : TypeId} {cs : List Int} (h : Pre w b t cs) (hg : w.grownBy w' (some r)) (hne : b ≠ r) : Pre w' b t cs := by
  obtain ⟨cur, hc, hr⟩ := h
  exact ⟨cur, (hg.block b (Array.getElem?_eq_some_iff.1 hc).1 (fun e => hne (by cases e; rfl))).trans hc, hr⟩
theorem Fd.grown {w w' : World} {g r : Nat} {W D T : Int} {kv : Value} (h : Fd w g W D T kv) (hg : w.grownBy w' (some r)) (hne : g ≠ r) : Fd w' g W D T kv :=
  (hg.block g (Array.getElem?_eq_some_iff.1 h).1 (fun e => hne (by cases e; rfl))).trans h
theorem below_grown {w w1 w2 : World} {r : Nat} (h : Below w.heap.size w w1) (hg : w1.grownBy w2 (some r)) (hr : w.heap.size ≤ r) : Below w.heap.size w w2 :=
  ⟨hg.os.trans h.os, hg.tape.trans h.tape, hg.output.trans h.output, Nat.le_trans h.size hg.size, fun j hj => (hg.block j (Nat.lt_of_lt_of_le hj h.size) (fun e => by have e' : some j = some r := e; injection e' with e'; omega)).trans (h.block j hj)⟩
/-- What a row of bytes is, if it is a field's light. -/
structure LightOf (s : L.Sys) (n : Nat) (a : List Int) : Prop where
  len : a.length = n
  lv : Lv a
  told : L.Told s (li a)
theorem LightOf.same {s : L.Sys} {n : Nat} (hn : s.n = n) {a b : List Int} (ha : LightOf s n a) (hb : LightOf s n b) : a = b := by
  refine C.getD_ext (ha.len.trans hb.len.symm) fun i hi => ?_
  have h := ha.told.same hb.told (i := i) (by rw [hn, ← ha.len]; exact hi)
  have h1 := ha.lv i
  have h2 := hb.lv i
  unfold li at h
  omega
theorem sky_srcg {W D T : Nat} (hW : 0 < W) (hD : 0 < D) {K : Nat → Int} {ls : List Int} (h : SkG (W * D) T (skyN W D T K) K (W * D) T ls) (i : Nat) : ls.getD i 0 = (skyN W D T K i : Int) := by
  rcases Nat.lt_or_ge i (W * D * T) with hi | hi
  · exact h.all (Nat.mul_pos hW hD) i hi
  · rw [List.getD_eq_getElem?_getD, List.getElem?_eq_none (by rw [h.len]; exact hi)]
    unfold skyN
    rw [if_neg (fun x => by omega)]
    rfl
theorem lamp_srcg {W D T n : Nat} (hn : n = W * D * T) {K : Nat → Int} {ls : List Int} (h : Upto (fun j => (emitsK (K j) : Int)) n n ls) (i : Nat) : ls.getD i 0 = (lampN W D T K i : Int) := by
  unfold lampN
  rcases Nat.lt_or_ge i n with hi | hi
  · rw [h.told i hi, if_pos (by omega)]
  · rw [h.rest i hi, if_neg (by omega)]
    rfl
theorem spo_g {e : SpE} {src : Nat → Nat} {hs : ∀ i, src i ≤ 15} (hb : Bx e.W e.D e.T) (hn : e.N = e.W * e.D * e.T) (hl : e.ks.length = e.N) (hk : Kinds e.ks) (h1 : e.gl ≠ e.kb) (h2 : e.gl ≠ e.g) (h3 : e.gl < e.w0.heap.size) : SpO e (fsys e.W e.D e.T (fun j => e.ks.getD j 0) src hs hb.w0 hb.d0) where
  n := hn
  bx := hb
  nb := by rw [hn]; exact Nat.mul_le_mul (Nat.mul_le_mul hb.w1 hb.d1) hb.t1
  sn := hn.symm
  pass := fun _ => rfl
  loss := fun _ => rfl
  adj := fun i j => by rw [hn]; exact Iff.rfl
  kl := hl
  kk := hk
  n1 := h1
  n2 := h2
  b0 := h3
/-- What Light answers. -/
structure LightG (w : World) (W D T n : Nat) (ks : List Int) (hW : 0 < W) (hD : 0 < D) (ga gb : Nat) (w' : World) : Prop where
  sky : ∃ a, LightOf (L.skyS W D T (fun j => ks.getD j 0) hW hD) n a ∧ Pre w' ga 5 a
  lamp : ∃ b, LightOf (L.lampS W D T (fun j => ks.getD j 0) hW hD) n b ∧ Pre w' gb 5 b
  lo : w.heap.size ≤ ga ∧ w.heap.size ≤ gb ∧ ga ≠ gb
  bel : Below w.heap.size w w'
set_option maxHeartbeats 1000000 in
theorem rlight_c (g kb n cap W D T : Nat) (ks : List Int) (w : World) (hbx : Bx W D T) (hF : Fd w g W D T (.slice (some ⟨kb, 0, none⟩) n cap)) (hK : Pre w kb 5 ks) (hn : n = W * D * T) (hl : ks.length = n) (hk : Kinds ks) :
    Calls Tryd.prog 21 #[.pointer (some ⟨g, 0, none⟩)] w fun e w' => ∃ ga gb, e = .returned (.tuple #[.slice (some ⟨ga, 0, none⟩) n n, .slice (some ⟨gb, 0, none⟩) n n]) ∧ LightG w W D T n ks hbx.w0 hbx.d0 ga gb w' := by
  obtain ⟨Post, hPost⟩ : ∃ Post : Ending → World → Prop, Post = fun e w' => ∃ ga gb, e = .returned (.tuple #[.slice (some ⟨ga, 0, none⟩) n n, .slice (some ⟨gb, 0, none⟩) n n]) ∧ LightG w W D T n ks hbx.w0 hbx.d0 ga gb w' := ⟨_, rfl⟩
  rw [← hPost]
  have HP : Hid (∀ ga gb w', LightG w W D T n ks hbx.w0 hbx.d0 ga gb w' → Post (.returned (.tuple #[.slice (some ⟨ga, 0, none⟩) n n, .slice (some ⟨gb, 0, none⟩) n n])) w') := fun ga gb w' h => by rw [hPost]; exact ⟨ga, gb, rfl, h⟩
  clear hPost
  have Hb : Hid (Bx W D T ∧ n = W * D * T ∧ ks.length = n ∧ Kinds ks ∧ n ≤ 294912) := ⟨hbx, hn, hl, hk, by rw [hn]; exact Nat.mul_le_mul (Nat.mul_le_mul hbx.w1 hbx.d1) hbx.t1⟩
  have H1 : Hid (Fd w g W D T (.slice (some ⟨kb, 0, none⟩) n cap) ∧ Pre w kb 5 ks ∧ Below w.heap.size w w) := ⟨hF, hK, Below.refl _ _⟩
  have hsk := rskyg_c g kb n cap W D T ks w hbx hF hK hn hl hk
  clear hF hK hn hl hk
  go_enter Tryd.func21, Tryd.ntmps21
  go_wp2_with fail
  refine hsk.mono ?_
  clear hsk
  rintro _ w2 ⟨gs, ls, rfl, hgs, hbs, hsk, hb2⟩
  have H2 : Hid ((Fd w2 g W D T (.slice (some ⟨kb, 0, none⟩) n cap) ∧ Pre w2 kb 5 ks ∧ Below w.heap.size w w2) ∧ Pre w2 gs 5 ls ∧ w.heap.size ≤ gs ∧ kb < w.heap.size ∧ g < w.heap.size) := ⟨⟨H1.out.1.on hb2, H1.out.2.1.below hb2 H1.out.2.1.lt, hb2⟩, blk_pre hbs, hgs, H1.out.2.1.lt, (Array.getElem?_eq_some_iff.1 H1.out.1).1⟩
  have Hs : Hid (ls.length = n ∧ Lv ls ∧ ∀ i, li ls i = (L.skyS W D T (fun j => ks.getD j 0) hbx.w0 hbx.d0).src i) := by
    obtain ⟨h1, h2⟩ := lv_of (sky_srcg hbx.w0 hbx.d0 hsk) (skyN_le W D T _)
    exact ⟨hsk.len.trans Hb.out.2.1.symm, h1, h2⟩
  clear H1 hgs hbs hsk hb2
  have hla := rlamps_c g kb n cap W D T ks w2 H2.out.1.1 H2.out.1.2.1 Hb.out.2.2.1 Hb.out.2.2.2.1 (by have := Hb.out.2.2.2.2; omega)
  go_wp2_with fail
  refine hla.mono ?_
  clear hla
  rintro _ w3 ⟨gl, lm, rfl, hgl, hbl, hup, hb3⟩
  have H3 : Hid ((Fd w3 g W D T (.slice (some ⟨kb, 0, none⟩) n cap) ∧ Pre w3 kb 5 ks ∧ Below w.heap.size w w3) ∧ Pre w3 gs 5 ls ∧ Pre w3 gl 5 lm ∧ gs ≠ kb ∧ gs ≠ g ∧ gl ≠ kb ∧ gl ≠ g ∧ gl ≠ gs ∧ w.heap.size ≤ gs ∧ w.heap.size ≤ gl) := by
    obtain ⟨⟨h1, h2, h3⟩, h4, h5, h6, h7⟩ := H2.out
    have := h4.lt
    have := h2.lt
    have := h3.size
    exact ⟨⟨h1.on hb3, h2.below hb3 h2.lt, h3.trans (hb3.mono h3.size)⟩, h4.below hb3 h4.lt, blk_pre hbl, by omega, by omega, by omega, by omega, by omega, by omega, by omega⟩
  have Hl : Hid (lm.length = n ∧ Lv lm ∧ ∀ i, li lm i = (L.lampS W D T (fun j => ks.getD j 0) hbx.w0 hbx.d0).src i) := by
    obtain ⟨h1, h2⟩ := lv_of (lamp_srcg Hb.out.2.1 hup) (lampN_le W D T _)
    exact ⟨hup.len, h1, h2⟩
  clear H2 hgl hbl hup hb3
  have hs1 := rspread_c ⟨g, kb, gs, w3.heap.size, n, cap, W, D, T, ks, w3⟩ (L.skyS W D T (fun j => ks.getD j 0) hbx.w0 hbx.d0) ls n rfl (spo_g hbx Hb.out.2.1 Hb.out.2.2.1 Hb.out.2.2.2.1 H3.out.2.2.2.1 H3.out.2.2.2.2.1 H3.out.2.1.lt) Hs.out.1 Hs.out.2.1 Hs.out.2.2 H3.out.2.1 H3.out.1.1 H3.out.1.2.1
  go_wp2_with fail
  refine hs1.mono ?_
  clear hs1
  rintro _ w4 ⟨rfl, ls1, hT1, hL1, hlen1, hp1, hg4⟩
  have H4 : Hid ((Fd w4 g W D T (.slice (some ⟨kb, 0, none⟩) n cap) ∧ Pre w4 kb 5 ks ∧ Below w.heap.size w w4) ∧ Pre w4 gs 5 ls1 ∧ Pre w4 gl 5 lm ∧ gl ≠ kb ∧ gl ≠ g ∧ gl ≠ gs ∧ w.heap.size ≤ gl ∧ w.heap.size ≤ gs) := by
    obtain ⟨⟨h1, h2, h3⟩, h4, h5, n1, n2, n3, n4, n5, n6, n7⟩ := H3.out
    exact ⟨⟨h1.grown hg4 (Ne.symm n2), h2.grown hg4 (Ne.symm n1), below_grown h3 hg4 n6⟩, hp1, h5.grown hg4 n5, n3, n4, n5, n7, n6⟩
  have HT1 : Hid (LightOf (L.skyS W D T (fun j => ks.getD j 0) hbx.w0 hbx.d0) n ls1) := ⟨hlen1, hL1, hT1⟩
  clear H3 Hs hT1 hL1 hlen1 hp1 hg4
  have hs2 := rspread_c ⟨g, kb, gl, w4.heap.size, n, cap, W, D, T, ks, w4⟩ (L.lampS W D T (fun j => ks.getD j 0) hbx.w0 hbx.d0) lm n rfl (spo_g hbx Hb.out.2.1 Hb.out.2.2.1 Hb.out.2.2.2.1 H4.out.2.2.2.1 H4.out.2.2.2.2.1 H4.out.2.2.1.lt) Hl.out.1 Hl.out.2.1 Hl.out.2.2 H4.out.2.2.1 H4.out.1.1 H4.out.1.2.1
  go_wp2_with fail
  refine hs2.mono ?_
  clear hs2
  rintro _ w5 ⟨rfl, lm1, hT2, hL2, hlen2, hp2, hg5⟩
  have R := HP.out gs gl w5 (by
    obtain ⟨⟨h1, h2, h3⟩, h4, h5, n3, n4, n5, n7, n8⟩ := H4.out
    exact ⟨⟨ls1, HT1.out, h4.grown hg5 (Ne.symm n5)⟩, ⟨lm1, ⟨hlen2, hL2, hT2⟩, hp2⟩, ⟨n8, n7, Ne.symm n5⟩, below_grown h3 hg5 n7⟩)
  clear H4 Hl HT1 hT2 hL2 hlen2 hp2 hg5 Hb HP
  go_wp2
  first | exact R | (go_ret2; exact R) | (go_ret; exact R)
end Go.Proofs.YtmfjmcaaoljjlaaDoor
