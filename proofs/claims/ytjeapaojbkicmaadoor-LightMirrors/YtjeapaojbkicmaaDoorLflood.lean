/-
  The document's Flood.
-/
import Derived.Test.YtjeapaojbkicmaaDoorLfla
set_option maxRecDepth 20000
namespace Go.Proofs.YtjeapaojbkicmaaDoor
open C Go.RowKit L

/-- What Flood gives back. -/
structure FlG (w : World) (css : List (List Int)) (a b : Option Addr) (ca cb : Nat) (w' : World) : Prop where
  rows : ∃ B ra rb, w.heap.size ≤ B ∧ IsLight (skyC css) ra ∧ IsLight (lampC css) rb ∧ OwnB w' B a ca ra ∧ OwnB w' B b cb rb
  bel : Below w.heap.size w w'
set_option maxRecDepth 100000 in
set_option maxHeartbeats 4000000 in
theorem rflood_c (gn cn : Nat) (ga gc : Nat → Nat) (css : List (List Int)) (w : World) (hN : Nr w gn ga gc css) (hk : ∀ j, j < 9 → Kinds (css.getD j [])) :
    Calls Tryd.prog 13 #[.slice (some ⟨gn, 0, none⟩) 9 cn] w fun e w' => ∃ a b ca cb, e = .returned (.tuple #[.slice a 32768 ca, .slice b 32768 cb]) ∧ FlG w css a b ca cb w' := by
  obtain ⟨Post, hPost⟩ : ∃ Post : Ending → World → Prop, Post = fun e w' => ∃ a b ca cb, e = .returned (.tuple #[.slice a 32768 ca, .slice b 32768 cb]) ∧ FlG w css a b ca cb w' := ⟨_, rfl⟩
  rw [← hPost]
  have HP : Hid (∀ a b ca cb w', FlG w css a b ca cb w' → Post (.returned (.tuple #[.slice a 32768 ca, .slice b 32768 cb])) w') := fun a b ca cb w' h => by rw [hPost]; exact ⟨_, _, _, _, rfl, h⟩
  clear hPost
  have HR : Hid (Nr w gn ga gc css ∧ ∀ j, j < 9 → Kinds (css.getD j [])) := ⟨hN, hk⟩
  clear hN hk
  go_enter Tryd.func13, Tryd.ntmps13
  go_wp2_with fail
  refine (rnine_c gn cn ga gc css w HR.out.1).mono ?_
  rintro _ w1 ⟨rfl, a1, c1, hNi⟩
  obtain ⟨kb, rfl, _, hkb2, hpk⟩ := hNi.end
  obtain ⟨n, hn⟩ : ∃ n, 16 * 18432 = n := ⟨_, rfl⟩
  have hfd := hNi.fd
  rw [hn] at hfd
  have Hn : Hid (n = 294912) := by show n = 294912; omega
  obtain ⟨ks, hks⟩ : ∃ ks, nb css 18432 = ks := ⟨_, rfl⟩
  have Hks : Hid ((∀ i, ks.getD i 0 = kAt css i) ∧ Kinds ks ∧ ks.length = n) := by
    rw [← hks]
    exact ⟨nb_at HR.out.1.len, nb_kinds HR.out.2, by rw [nb_len]; exact hn⟩
  rw [hks] at hpk
  have H1 : Hid (Fd w1 w.heap.size 48 48 128 (.slice (some ⟨kb, 0, none⟩) n c1) ∧ Pre w1 kb 5 ks ∧ Below w.heap.size w w1) := ⟨hfd, hpk, hNi.bel⟩
  clear hfd hpk hNi hn hks hkb2
  go_wp2_with fail
  refine (rsky48_c w.heap.size kb n c1 ks w1 H1.out.1 H1.out.2.1 Hn.out (by have := Hks.out.2.2; have := Hn.out; omega) Hks.out.2.1).mono ?_
  rintro _ w2 ⟨gs, ls, rfl, hgs, hbs, hsk, hb2⟩
  have H2 : Hid ((Fd w2 w.heap.size 48 48 128 (.slice (some ⟨kb, 0, none⟩) n c1) ∧ Pre w2 kb 5 ks ∧ Below w.heap.size w w2) ∧ Pre w2 gs 5 ls ∧ w1.heap.size ≤ gs ∧ kb < w1.heap.size ∧ w.heap.size < w1.heap.size) := ⟨⟨H1.out.1.on hb2, H1.out.2.1.below hb2 H1.out.2.1.lt, H1.out.2.2.trans (hb2.mono H1.out.2.2.size)⟩, blk_pre hbs, hgs, H1.out.2.1.lt, (Array.getElem?_eq_some_iff.1 H1.out.1).1⟩
  have Hs : Hid (ls.length = n ∧ Lv ls ∧ ∀ i, li ls i = (skyC css).src i) := by
    have hn := Hn.out
    have e : (fun j => ks.getD j 0) = kAt css := funext Hks.out.1
    rw [e] at hsk
    obtain ⟨h1, h2⟩ := lv_of (sky_src hsk) (skyN_le 48 48 128 (kAt css))
    exact ⟨hsk.len.trans hn.symm, h1, h2⟩
  clear H1 hgs hbs hsk hb2
  go_wp2_with fail
  refine (rlamps_c w.heap.size kb n c1 48 48 128 ks w2 H2.out.1.1 H2.out.1.2.1 Hks.out.2.2 Hks.out.2.1 (by have := Hn.out; omega)).mono ?_
  rintro _ w3 ⟨gl, lm, rfl, hgl, hbl, hup, hb3⟩
  have H3 : Hid ((Fd w3 w.heap.size 48 48 128 (.slice (some ⟨kb, 0, none⟩) n c1) ∧ Pre w3 kb 5 ks ∧ Below w.heap.size w w3) ∧ Pre w3 gs 5 ls ∧ Pre w3 gl 5 lm ∧ gs ≠ kb ∧ gs ≠ w.heap.size ∧ gl ≠ kb ∧ gl ≠ w.heap.size ∧ gl ≠ gs ∧ w.heap.size ≤ gs ∧ w.heap.size ≤ gl) := by
    obtain ⟨⟨h1, h2, h3⟩, h4, h5, h6, h7⟩ := H2.out
    have := h4.lt
    have := h2.lt
    exact ⟨⟨h1.on hb3, h2.below hb3 h2.lt, h3.trans (hb3.mono h3.size)⟩, h4.below hb3 h4.lt, blk_pre hbl, by omega, by omega, by omega, by omega, by omega, by omega, by omega⟩
  have Hl : Hid (lm.length = n ∧ Lv lm ∧ ∀ i, li lm i = (lampC css).src i) := by
    have hn := Hn.out
    rw [hn] at hup
    have e : (fun j => (emitsK (ks.getD j 0) : Int)) = fun j => (emitsK (kAt css j) : Int) := funext fun j => by rw [Hks.out.1 j]
    rw [e] at hup
    obtain ⟨h1, h2⟩ := lv_of (lamp_src hup) (lampN_le 48 48 128 (kAt css))
    exact ⟨hup.len.trans hn.symm, h1, h2⟩
  clear H2 hgl hbl hup hb3
  go_wp2_with fail
  refine (rspread_c ⟨w.heap.size, kb, gs, w3.heap.size, n, c1, ks, w3⟩ (skyC css) ls n rfl (spo_of Hn.out rfl Hks.out.1 Hks.out.2.2 Hks.out.2.1 H3.out.2.2.2.1 H3.out.2.2.2.2.1 H3.out.2.1.lt) Hs.out.1 Hs.out.2.1 Hs.out.2.2 H3.out.2.1 H3.out.1.1 H3.out.1.2.1).mono ?_
  rintro _ w4 ⟨rfl, ls1, hT1, hL1, hlen1, hp1, hg4⟩
  have H4 : Hid ((Fd w4 w.heap.size 48 48 128 (.slice (some ⟨kb, 0, none⟩) n c1) ∧ Pre w4 kb 5 ks ∧ Below w.heap.size w w4) ∧ Pre w4 gs 5 ls1 ∧ Pre w4 gl 5 lm ∧ gl ≠ kb ∧ gl ≠ w.heap.size ∧ gl ≠ gs ∧ w.heap.size ≤ gl) := by
    obtain ⟨⟨h1, h2, h3⟩, h4, h5, n1, n2, n3, n4, n5, n6, n7⟩ := H3.out
    exact ⟨⟨h1.grown hg4 (Ne.symm n2), h2.grown hg4 (Ne.symm n1), ⟨hg4.os.trans h3.os, hg4.tape.trans h3.tape, hg4.output.trans h3.output, Nat.le_trans h3.size hg4.size, fun j hj => (hg4.block j (Nat.lt_of_lt_of_le hj h3.size) (fun e => by have e' : some j = some gs := e; injection e' with e'; omega)).trans (h3.block j hj)⟩⟩, hp1, h5.grown hg4 n5, n3, n4, n5, n7⟩
  have HT1 : Hid (L.Told (skyC css) (li ls1) ∧ Lv ls1 ∧ ls1.length = n) := ⟨hT1, hL1, hlen1⟩
  clear H3 Hs hT1 hL1 hlen1 hp1 hg4
  go_wp2_with fail
  refine (rspread_c ⟨w.heap.size, kb, gl, w4.heap.size, n, c1, ks, w4⟩ (lampC css) lm n rfl (spo_of Hn.out rfl Hks.out.1 Hks.out.2.2 Hks.out.2.1 H4.out.2.2.2.1 H4.out.2.2.2.2.1 H4.out.2.2.1.lt) Hl.out.1 Hl.out.2.1 Hl.out.2.2 H4.out.2.2.1 H4.out.1.1 H4.out.1.2.1).mono ?_
  rintro _ w5 ⟨rfl, lm1, hT2, hL2, hlen2, hp2, hg5⟩
  have H5 : Hid (Below w.heap.size w w5 ∧ Pre w5 gs 5 ls1 ∧ Pre w5 gl 5 lm1) := by
    obtain ⟨⟨h1, h2, h3⟩, h4, h5, n3, n4, n5, n7⟩ := H4.out
    exact ⟨⟨hg5.os.trans h3.os, hg5.tape.trans h3.tape, hg5.output.trans h3.output, Nat.le_trans h3.size hg5.size, fun j hj => (hg5.block j (Nat.lt_of_lt_of_le hj h3.size) (fun e => by have e' : some j = some gl := e; injection e' with e'; omega)).trans (h3.block j hj)⟩, h4.grown hg5 (Ne.symm n5), hp2⟩
  have HT2 : Hid (L.Told (lampC css) (li lm1) ∧ Lv lm1 ∧ lm1.length = n) := ⟨hT2, hL2, hlen2⟩
  clear H4 Hl hT2 hL2 hlen2 hp2 hg5 Hks HR
  have H0 : Hid (Two w5 (fun i => ls1.getD (mid i) 0) (fun i => lm1.getD (mid i) 0) 0 none none 0 0 w5) := Two.start _ _ _
  go_wp2
  go_loopw [7, 8, 9] (fun va vb vi wr => ∃ (i : Nat) (a b : Option Addr) (ca cb : Nat), i ≤ 32768 ∧ va = .slice a i ca ∧ vb = .slice b i cb ∧ vi = .int .i64 (i : Int) ∧ Hid (Two w5 (fun i => ls1.getD (mid i) 0) (fun i => lm1.getD (mid i) 0) i a b ca cb wr)) (fun _ _ vi _ => 32768 - (intOf vi).toNat)
  case atStart => exact ⟨0, none, none, 0, 0, by omega, rfl, rfl, rfl, H0⟩
  case round =>
    clear H0
    obtain ⟨i, a, b, ca, cb, hi, rfl, rfl, rfl, HT⟩ := hrel
    by_cases hlt : i < 32768
    case neg =>
      have hge : ¬ (i : Int) < 32768 := by omega
      obtain rfl : i = 32768 := by omega
      have R := HP.out a b ca cb wr ⟨⟨w5.heap.size, _, _, H5.out.1.size, told_light HT1.out.1 HT1.out.2.1, told_light HT2.out.1 HT2.out.2.1, HT.out.oa, HT.out.ob⟩, H5.out.1.trans (HT.out.bel.mono H5.out.1.size)⟩
      clear HT HP HT1 HT2 H5
      go_wp2
      first | exact R | (go_ret2; exact R)
    have hlt' : (i : Int) < 32768 := by omega
    clear HP
    obtain ⟨m, hm⟩ : ∃ m, mid i = m := ⟨_, rfl⟩
    obtain ⟨q1, hq1⟩ : ∃ q, i / 256 = q := ⟨_, rfl⟩
    obtain ⟨q2, hq2⟩ : ∃ q, i / 16 = q := ⟨_, rfl⟩
    obtain ⟨r2, hr2⟩ : ∃ r, q2 % 16 = r := ⟨_, rfl⟩
    obtain ⟨r3, hr3⟩ : ∃ r, i % 16 = r := ⟨_, rfl⟩
    have t1 : Int.tdiv (i : Int) 256 = (q1 : Int) := by rw [Int.tdiv_eq_ediv_of_nonneg (by omega)]; omega
    have t2 : Int.tdiv (i : Int) 16 = (q2 : Int) := by rw [Int.tdiv_eq_ediv_of_nonneg (by omega)]; omega
    have t3 : Int.tmod (q2 : Int) 16 = (r2 : Int) := by rw [Int.tmod_eq_emod_of_nonneg (by omega)]; omega
    have t4 : Int.tmod (i : Int) 16 = (r3 : Int) := by rw [Int.tmod_eq_emod_of_nonneg (by omega)]; omega
    have q1b : q1 ≤ 127 := by omega
    have q2b : q2 ≤ 2047 := by omega
    have r2b : r2 ≤ 15 := by omega
    have r3b : r3 ≤ 15 := by omega
    have em : (((q1 : Int) * 48 + 16 + (r2 : Int)) * 48 + 16 + (r3 : Int)) = (m : Int) := by
      unfold mid at hm
      rw [hq1, hq2, hr2, hr3] at hm
      omega
    have hmn : m < n := by have := Hn.out; omega
    have hmn' : (m : Int) < (n : Int) := by omega
    have hnb : n ≤ 300000 := by have := Hn.out; omega
    obtain ⟨x1, hx1⟩ : ∃ x, ls1.getD m 0 = x := ⟨_, rfl⟩
    obtain ⟨x2, hx2⟩ : ∃ x, lm1.getD m 0 = x := ⟨_, rfl⟩
    have Hx : Hid (ls1.getD (mid i) 0 = x1 ∧ lm1.getD (mid i) 0 = x2) := by rw [hm]; exact ⟨hx1, hx2⟩
    have y1 : wr.cell? ⟨gs, m, none⟩ = some (.int .u8 x1) := by
      have := (H5.out.2.1.below HT.out.bel H5.out.2.1.lt).cell (k := m) (by rw [HT1.out.2.2]; exact hmn)
      rwa [hx1] at this
    have hc2 : w5.cell? ⟨gl, m, none⟩ = some (.int .u8 x2) := by
      have := H5.out.2.2.cell (k := m) (by rw [HT2.out.2.2]; exact hmn)
      rwa [hx2] at this
    have Hc2 : Hid (∀ w', Below w5.heap.size w5 w' → w'.cell? ⟨gl, m, none⟩ = some (.int .u8 x2)) := fun w' h => cell_below hc2 h
    have Hb1 : Hid (Below wr.heap.size wr (wr.alloc (.cells #[.int .u8 x1] 5))) := (Below.refl _ _).alloc (Nat.le_refl _) _
    have HOA : Hid (OwnB (wr.alloc (.cells #[.int .u8 x1] 5)) w5.heap.size a ca (rowF (fun i => ls1.getD (mid i) 0) i)) := ownsRow_on HT.out.oa Hb1.out
    have HBs : Hid (w5.heap.size ≤ (wr.alloc (.cells #[.int .u8 x1] 5)).heap.size) := Nat.le_trans HT.out.bel.size Hb1.out.size
    clear hc2 hx1 hx2 hm hq1 hq2 hr2 hr3 HT1 HT2 H5 Hn
    go_wp2_with (at_builtin; first
      | (refine wpList_append_byte rfl _ _ rfl w5.heap.size a i ca (rowF (fun i => ls1.getD (mid i) 0) i) (rowF_len _ i) rfl HOA.out ⟨wr.heap.size, 0, none⟩ x1 rfl (cell_one_byte _ _ _) (by omega) HBs.out ?_; intro a9 c9 w9 HO9 hg9 hat9; have hst := own_step (W := wr) (w5 := w5) (a' := a9) (c' := c9) Hb1.out (rowF_len _ i) (rowF_len _ i) HT.out.oa HT.out.ob HT.out.ap HT.out.bel hg9 hat9; have y2 := Hc2.out w9 hst.2.2; have Hb9 : Hid (Below w9.heap.size w9 (w9.alloc (.cells #[.int .u8 x2] 5))) := (Below.refl _ _).alloc (Nat.le_refl _) _; have HOB : Hid (OwnB (w9.alloc (.cells #[.int .u8 x2] 5)) w5.heap.size b cb (rowF (fun i => lm1.getD (mid i) 0) i)) := ownsRow_on hst.1 Hb9.out; have HB9 : Hid (w5.heap.size ≤ (w9.alloc (.cells #[.int .u8 x2] 5)).heap.size) := Nat.le_trans hst.2.2.size Hb9.out.size; have Hst : Hid _ := hst; clear hst hg9 hat9)
      | (refine wpList_append_byte rfl _ _ rfl w5.heap.size b i cb (rowF (fun i => lm1.getD (mid i) 0) i) (rowF_len _ i) rfl HOB.out ⟨w9.heap.size, 0, none⟩ x2 rfl (cell_one_byte _ _ _) (by omega) HB9.out ?_; intro a10 c10 w10 HO10 hg10 hat10; have hst2 := own_step (W := w9) (w5 := w5) (a' := a10) (c' := c10) (n := i) (m := i + 1) Hb9.out (rowF_len _ i) (rowF_len (fun i => ls1.getD (mid i) 0) (i + 1)) Hst.out.1 (by rw [rowF_next, Hx.out.1]; exact HO9.out) (fun g h1 h2 => Hst.out.2.1 g h2 h1) Hst.out.2.2 hg10 hat10; have HE : Hid (Two w5 (fun i => ls1.getD (mid i) 0) (fun i => lm1.getD (mid i) 0) (i + 1) a9 a10 c9 c10 w10) := ⟨hst2.1, by rw [rowF_next, Hx.out.2]; exact HO10.out, fun g h1 h2 => hst2.2.1 g h2 h1, hst2.2.2⟩; clear hst2 hg10 hat10 HO10))
    exact ⟨⟨i + 1, a9, a10, c9, c10, by omega, rfl, rfl, by simp, HE⟩, by simp [intOf]; omega⟩
end Go.Proofs.YtjeapaojbkicmaaDoor
