/-
  JournalPrefix: the walk, over what is asked of a journal.
-/
import Derived.Test.YtjkeejbfipmidaaJagain
set_option maxRecDepth 20000
namespace Go.Proofs.Ytjkeejbfipmidaa
open Go.RowKit

theorem total_mono (ls : List Gp) (j : Nat) : total (ls.take j) ≤ total ls := by
  unfold total
  induction ls generalizing j with
  | nil => simp
  | cons g r ih =>
    cases j with
    | zero => simp
    | succ j =>
      have := ih j
      simp only [List.take_succ_cons, List.map_cons, List.sum_cons]
      omega
/-- The document's disk behind groups that may be. -/
structure Ran (R : St) (m : Nat) : Prop where
  free : R.free
  noj : NoJ R.l
  len : R.l.length ≤ m
  wr : R.writes ≤ m
theorem Ran.new : Ran St.new 0 := ⟨new_free, NoJ.nil, Nat.le_refl _, Int.le_refl _⟩
theorem Ran.more {R : St} {m : Nat} (h : Ran R m) {l : List Bk} (hl : ∀ b ∈ l, badB b = false) : Ran (R.doAll l) (m + l.length) ∧ (R.doAll l).l = doAll R.l l := by
  have e := St.doAll_l h.free hl
  have f := doAll_few R l
  refine ⟨⟨h.free.doAll l, by rw [e]; exact h.noj.doAll hl, by have := h.len; omega, by have := h.wr; omega⟩, e⟩

set_option maxHeartbeats 8000000 in
theorem journalPrefix_walk (J : JSpec) (hAw : AwakeSays) (a ca : Option Addr) (len cap cn cc : Nat) (n : Int) (ls : List Gp) (W : World) (hl : ls.length = len) (hle : len ≤ maxLen) (hG : Gps W a ls) (hn : I64 n) (hI : Ints (fun _ => False) W ca cn) (hcn : cn ≤ maxLen) :
    Calls Try.prog 5 #[.slice a len cap, .int .i64 n, .slice ca cn cc] W fun e W' => e = .returned (.bool true) ∧ Below W.heap.size W W' := by
  obtain ⟨Post, hPost⟩ : ∃ Post : Ending → World → Prop, Post = fun e w' => e = .returned (.bool true) ∧ Below W.heap.size W w' := ⟨_, rfl⟩
  rw [← hPost]
  have HP : Hid (∀ w', Below W.heap.size W w' → Post (.returned (.bool true)) w') := fun w' h => by rw [hPost]; exact ⟨rfl, h⟩
  clear hPost
  have HG : Hid (ls.length = len ∧ len ≤ maxLen ∧ Gps W a ls) := ⟨hl, hle, hG⟩
  have HI : Hid (Ints (fun _ => False) W ca cn ∧ cn ≤ maxLen) := ⟨hI, hcn⟩
  have hn1 := hn.1
  have hn2 := hn.2
  clear hl hle hG hI hcn hn
  go_enter Try.func5, Try.ntmps5
  go_wp2_with fail
  refine (hAw W).mono ?_
  rintro e w0 ⟨rfl, hb0⟩
  have HN0 : Hid (Below W.heap.size W w0) := hb0
  clear hb0
  go_wp2_with fail
  refine (small_c a len cap ls w0 HG.out.1 (HG.out.2.2.on HN0.out)).mono ?_
  rintro e w0' ⟨ok, rfl, hok, hw⟩
  replace hw := hw.symm
  subst hw
  go_wp2_with fail
  refine (new_c w0).mono ?_
  rintro e w1 ⟨⟨d, F, rfl, hD1, hF1, hF2⟩, hb1⟩
  have HN1 : Hid (Below W.heap.size W w1) := HN0.out.trans (hb1.mono HN0.out.size)
  have HD1 : Hid (PDisk F w1 d St.new ∧ (∀ k, F k → W.heap.size ≤ k) ∧ ∀ k, F k → k < w1.heap.size) := ⟨hD1, fun k hk => Nat.le_trans HN0.out.size (hF1 k hk), hF2⟩
  clear hD1 hF1 hF2 hb1 HN0
  cases ok with
  | false =>
    have R := HP.out w1 HN1.out
    clear HP HD1 HN1 HG HI
    go_wp2
    exact R
  | true =>
  obtain ⟨hlen, htot⟩ := hok rfl
  clear hok
  go_wp2
  go_loopw [10, 11] (fun v10 v11 wr => ∃ (i : Nat), i ≤ len ∧ v10 = .int .i64 (i : Int) ∧ wr = w1 ∧ Hid (∀ k (h : k < ls.length), k < i → may (ls[k].l.map Pt.bk) = 0)) (fun v10 _ _ => len - (intOf v10).toNat)
  case atStart => exact ⟨0, Nat.zero_le _, rfl, rfl, fun k h hk => absurd hk (Nat.not_lt_zero _)⟩
  case round =>
    obtain ⟨i, hi, rfl, rfl, HM⟩ := hrel
    by_cases hlt : i < len
    · have hlt' : (i : Int) < len := by omega
      have hil : i < ls.length := by rw [HG.out.1]; exact hlt
      obtain ⟨b, off, rfl, hO⟩ := (HG.out.2.2.on HN1.out) i hil
      have HMn : Hid (may (ls[i].l.map Pt.bk) = 0 → ∀ k (h : k < ls.length), k < i + 1 → may (ls[k].l.map Pt.bk) = 0) := fun h k hk hki => by
        by_cases e : k < i
        · exact HM.out k hk e
        · obtain rfl : k = i := by omega
          exact h
      generalize ls[i] = g at hO HMn
      obtain ⟨ga, gn, gc, gl⟩ := g
      have c0 : wr.cell? ⟨b, off + i, none⟩ = some (.slice ga gn gc) := hO.c0
      have HO : Hid (GpAt wr b off i ⟨ga, gn, gc, gl⟩) := hO
      have R := HP.out wr HN1.out
      clear hO hil HM HD1 HP HI
      go_wp2_with fail
      refine (may_c ga gn gc gl wr HO.out.len HO.out.le HO.out.puts).mono ?_
      rintro e w1' ⟨rfl, hw⟩
      replace hw := hw.symm
      subst hw
      try simp only at HMn
      generalize may (gl.map Pt.bk) = m at *
      by_cases z : m = 0
      · subst z
        have HM2 : Hid _ := HMn.out rfl
        clear HMn HO R HG
        go_wp2
        go_roundw
        case rel => exact ⟨i + 1, by omega, by go_num, trivial, HM2.out⟩
        case measure => simp [intOf]; omega
      · have t1 : (m != 0) = true := bne_iff_ne.2 z
        clear HMn HO HG
        go_wp2
        exact R
    · obtain rfl : i = len := by omega
      have HMs : Hid (∀ k (h : k < ls.length), may (ls[k].l.map Pt.bk) = 0) := fun k h => HM.out k h (by rw [← HG.out.1]; exact h)
      clear HM
      go_wp2_with fail
      refine (J.open_ F d St.new [] wr HD1.out.1 HD1.out.2.2 J.new (by decide)).mono ?_
      rintro _ w2 ⟨S2, jv, E, rfl, hC2, hw2, hst2, hor⟩
      rcases hor with ⟨rfl, j, rfl, hJ2⟩ | ⟨_, h, _⟩
      rotate_left
      · exact absurd new_free h
      have HN2 : Hid (Below W.heap.size W w2) := HN1.out.trans (hC2.below HD1.out.2.1 HN1.out.size)
      have HJ2 : Hid (J.JP (Gr F wr w2) w2 j d S2 [] ∧ (∀ k, Gr F wr w2 k → W.heap.size ≤ k ∧ k < w2.heap.size)) := ⟨hJ2, fun k hk => ⟨by rcases hk with h | h; exact HD1.out.2.1 k h; have := HN1.out.size; omega, Gr.lt HD1.out.2.2 hC2.size k hk⟩⟩
      have Hf2 : Hid (S2.writes ≤ 2000) := by have : St.new.writes = 0 := rfl; show S2.writes ≤ 2000; omega
      clear hJ2 hC2 hw2 hst2 HD1 HN1
      generalize Gr F wr w2 = Fj at *
      go_wp2_with fail
      refine (cut_c Fj d S2 n ⟨hn1, hn2⟩ w2 (J.jp_disk HJ2.out.1)).mono ?_
      rintro e w3 ⟨rfl, hD3, hO3⟩
      have hdF : Fj d := (J.jp_disk HJ2.out.1).inF
      have HN3 : Hid (Below W.heap.size W w3) := HN2.out.trans (hO3.below (HJ2.out.2 d hdF).1)
      have HJ3 : Hid (J.JP Fj w3 j d (S2.cut n) [] ∧ (∀ k, Fj k → W.heap.size ≤ k ∧ k < w3.heap.size)) := ⟨J.jp_cut HJ2.out.1 hO3 hD3, fun k hk => by have := HJ2.out.2 k hk; have := hO3.size; omega⟩
      have hw3 : (S2.cut n).writes ≤ 2000 := Hf2.out
      generalize S2.cut n = S3 at *
      clear hD3 hO3 hdF HJ2 HN2 Hf2
      go_wp2_with fail
      refine (rnew_c w3).mono ?_
      rintro e w4 ⟨⟨r, F1, rfl, hR7, hR8, hR9⟩, hb7⟩
      have HN4 : Hid (Below W.heap.size W w4) := HN3.out.trans (hb7.mono HN3.out.size)
      have HA4 : Hid (∃ Fk F1 S R, J.JP Fk w4 j d S R.l ∧ Refs W.heap.size w4 Fk F1 F1 r R r R ∧ Ran R (total (ls.take 0)) ∧ S.writes ≤ 2000 + (0 : Nat) * 2000) := by
        have hfa : ∀ k, F1 k → W.heap.size ≤ k ∧ k < w4.heap.size ∧ ¬ Fj k := fun k hk => by
          have := hR8 k hk
          have := HN3.out.size
          exact ⟨by omega, hR9 k hk, fun hf => by have := (HJ3.out.2 k hf).2; omega⟩
        exact ⟨Fj, F1, S3, St.new, J.jp_keep HJ3.out.1 (fun k hk => hb7.block k (HJ3.out.2 k hk).2), ⟨fun k hk => by have := HJ3.out.2 k hk; have := hb7.size; omega, hR7, hR7, hfa, hfa⟩, Ran.new, by omega⟩
      clear hR7 hR8 hR9 hb7 HJ3 HN3 hw3
      go_wp2
      go_loopw [15, 16] (fun v15 v16 wr => ∃ (t : Nat), t ≤ i ∧ v15 = .int .i64 (t : Int) ∧ Hid (∃ Fk F1 S R, J.JP Fk wr j d S R.l ∧ Refs W.heap.size wr Fk F1 F1 r R r R ∧ Ran R (total (ls.take t)) ∧ S.writes ≤ 2000 + (t : Int) * 2000) ∧ Hid (Below W.heap.size W wr)) (fun v15 _ _ => i - (intOf v15).toNat)
      case atStart => exact ⟨0, Nat.zero_le _, rfl, HA4.out, HN4.out⟩
      case round =>
        clear HA4 HN4
        obtain ⟨t, ht, rfl, HA, HN⟩ := hrel
        obtain ⟨Fk, F2, S, R, hJ0, hT0, hR0, hw0⟩ := HA.out
        have HJ : Hid (J.JP Fk wr j d S R.l) := hJ0
        have HT : Hid (Refs W.heap.size wr Fk F2 F2 r R r R) := hT0
        have HR : Hid (Ran R (total (ls.take t))) := hR0
        clear hJ0 hT0 hR0 HA
        by_cases htl : t < i
        · have htl' : (t : Int) < i := by omega
          have htk : t < ls.length := by rw [HG.out.1]; exact htl
          obtain ⟨b, off, rfl, hOW⟩ := HG.out.2.2 t htk
          have HMt : Hid (may (ls[t].l.map Pt.bk) = 0) := HMs.out t htk
          have Htt : Hid (total (ls.take (t + 1)) = total (ls.take t) + ls[t].n ∧ total (ls.take (t + 1)) ≤ 1000) := ⟨total_take ls t htk, Nat.le_trans (total_mono ls (t + 1)) htot⟩
          generalize ls[t] = g at hOW HMt Htt
          obtain ⟨ga, gn, gc, gl⟩ := g
          simp only at HMt Htt
          have HO : Hid (GpAt W b off t ⟨ga, gn, gc, gl⟩) := hOW
          have c0 : wr.cell? ⟨b, off + t, none⟩ = some (.slice ga gn gc) := (hOW.on HN.out).c0
          have hgn : gn ≤ 1000 := by have := Htt.out; omega
          clear hOW htk
          go_wp2_with fail
          refine (copied_c ga gn gc gl W wr HO.out.len HO.out.puts HN.out (by omega)).mono ?_
          rintro e w5 ⟨b1, d1, k1, rfl, hk1, hcp1, hmap1, hb5⟩
          have HN5 : Hid (Below W.heap.size W w5) := HN.out.trans (hb5.mono HN.out.size)
          have HT5 : Hid (Refs W.heap.size w5 Fk F2 F2 r R r R) := HT.out.inside hb5
          have HJ5 : Hid (J.JP Fk w5 j d S R.l) := J.jp_keep HJ.out (fun k hk => hb5.block k (HT.out.j k hk).2)
          have Hk1 : Hid (k1.length = gn ∧ Puts w5 b1 k1 ∧ k1.map Pt.bk = gl.map Pt.bk) := ⟨hk1, hcp1.puts, hmap1⟩
          clear hk1 hcp1 hmap1 hb5 HT HJ HN c0
          go_wp2_with fail
          refine (J.group_ Fk j d S R.l b1 gn d1 k1 w5 HJ5.out (fun k hk => (HT5.out.j k hk).2) Hk1.out.1 (by omega) Hk1.out.2.1 (by omega)).mono ?_
          rintro _ w6 ⟨S6, E, rfl, hC6, hw6, hst6, hor⟩
          rw [Hk1.out.2.2, HMt.out] at hor
          have HN6 : Hid (Below W.heap.size W w6) := HN5.out.trans (hC6.below (fun k hk => (HT5.out.j k hk).1) HN5.out.size)
          have HT6 : Hid (Refs W.heap.size w6 (Gr Fk w5 w6) F2 F2 r R r R) := HT5.out.chg hC6 HN5.out.size
          have Hgb : Hid (∀ b ∈ gl.map Pt.bk, badB b = false) := (may_ok.1 HMt.out).1
          have Hgl : Hid ((gl.map Pt.bk).length = gn) := by show _ = _; rw [List.length_map]; exact HO.out.len
          have Hmore : Hid (Ran (R.doAll (gl.map Pt.bk)) (total (ls.take (t + 1))) ∧ (R.doAll (gl.map Pt.bk)).l = doAll R.l (gl.map Pt.bk)) := by
            have h := HR.out.more Hgb.out
            rw [Hgl.out, ← Htt.out.1] at h
            exact h
          have hw6' : S6.writes ≤ 2000 + ((t + 1 : Nat) : Int) * 2000 := by omega
          clear hC6 hw6 hst6 HT5 HJ5 HN5 Hk1
          generalize Gr Fk w5 w6 = Fl at *
          have key : ∀ (Q : Prop), (E = 0 → J.JP Fl w6 j d S6 (doAll R.l (gl.map Pt.bk)) → Q) → (E = 8 → PDisk Fl w6 d S6 → (J.Rec S6 R.l ∨ J.Rec S6 (doAll R.l (gl.map Pt.bk))) → Q) → Q := fun Q h1 h2 => by
            rcases hor with ⟨h, _⟩ | ⟨_, h, _, hJ⟩ | ⟨_, h, _, _, hX, hr⟩
            · exact absurd rfl h
            · exact h1 h hJ
            · exact h2 h (J.jx_disk hX) (hr.imp id (fun h => h.2))
          clear hor
          refine key _ (fun hE hJ6 => ?_) (fun hE hD6 hR6 => ?_)
          · subst hE
            have HJ6 : Hid (J.JP Fl w6 j d S6 (doAll R.l (gl.map Pt.bk))) := hJ6
            have cg : w6.cell? ⟨b, off + t, none⟩ = some (.slice ga gn gc) := (HO.out.on HN6.out).c0
            clear hJ6 key HP
            go_wp2_with fail
            refine (do_c F2 r R ga gn gc gl W w6 HO.out.len HO.out.puts HN6.out HT6.out.a (fun k hk => (HT6.out.fa k hk).1) (by
              have h1 := HR.out.len
              have h2 := HR.out.wr
              have h3 := Htt.out
              exact ⟨by omega, by omega⟩)).mono ?_
            rintro e w7 ⟨rfl, F3, hR7, hF7, hC7⟩
            have HN7 : Hid (Below W.heap.size W w7) := HN6.out.trans (hC7.below (fun k hk => (HT6.out.fa k hk).1) HN6.out.size)
            have HA7 : Hid (∃ Fk F1 S R, J.JP Fk w7 j d S R.l ∧ Refs W.heap.size w7 Fk F1 F1 r R r R ∧ Ran R (total (ls.take (t + 1))) ∧ S.writes ≤ 2000 + ((t + 1 : Nat) : Int) * 2000) := by
              have hs := hC7.size
              have hs0 := HN6.out.size
              have hfa : ∀ k, F3 k → W.heap.size ≤ k ∧ k < w7.heap.size ∧ ¬ Fl k := fun k hk => by
                rcases hF7 k hk with h | h
                · have := HT6.out.fa k h
                  exact ⟨this.1, by omega, this.2.2⟩
                · exact ⟨by omega, h.2, fun hf => by have := (HT6.out.j k hf).2; omega⟩
              refine ⟨Fl, F3, S6, _, ?_, ⟨fun k hk => by have := HT6.out.j k hk; omega, hR7, hR7, hfa, hfa⟩, Hmore.out.1, hw6'⟩
              rw [Hmore.out.2]
              exact J.jp_keep HJ6.out (fun k hk => hC7.block k (HT6.out.j k hk).2 (fun hf => (HT6.out.fa k hf).2.2 hk))
            clear hR7 hF7 hC7 HT6 HJ6 HN6 Hmore HR HMt Htt HO Hgb Hgl
            go_wp2
            go_roundw
            case rel => exact ⟨t + 1, by omega, by go_num, HA7.out, HN7.out⟩
            case measure => simp [intOf]; omega
          · subst hE
            obtain ⟨V, hV⟩ : ∃ V, J.Rec S6 V ∧ (V = R.l ∨ V = doAll R.l (gl.map Pt.bk)) := by
              rcases hR6 with h | h
              · exact ⟨_, h, Or.inl rfl⟩
              · exact ⟨_, h, Or.inr rfl⟩
            have HVd : Hid (J.Rec S6 V ∧ PDisk Fl w6 d S6) := ⟨hV.1, hD6⟩
            have HVo : Hid (V = R.l ∨ V = doAll R.l (gl.map Pt.bk)) := hV.2
            have HVn : Hid (NoJ V ∧ V.length ≤ 1000) := by
              rcases hV.2 with h | h
              · rw [h]; exact ⟨HR.out.noj, by have := HR.out.len; have := Htt.out; omega⟩
              · rw [h, ← Hmore.out.2]; exact ⟨Hmore.out.1.noj, by have := Hmore.out.1.len; have := Htt.out; omega⟩
            have hw6b : S6.writes ≤ 200000 := by omega
            have hne : ¬ (t : Int) = (i : Int) := by omega
            have hneb : ((t : Int) == (i : Int)) = false := beq_eq_false_iff_ne.2 hne
            clear hV hD6 hR6 key
            go_wp2_with fail
            refine (opened_c J Fl d S6 V ca cn cc w6 HVd.out.2 (fun k hk => (HT6.out.j k hk).2) HVd.out.1 (by omega) (fun k hk => ?_) HI.out.2).mono ?_
            · obtain ⟨b, off, x, e, hx, _, hc⟩ := HI.out.1 k hk
              have hlt := World.block_lt_of_cell? W _ hc
              exact ⟨b, off, x, e, hx, fun hf => by have := (HT6.out.j b hf).1; simp only at hlt; omega, cell_on HN6.out hc⟩
            rintro _ w8 ⟨j2, S8, rfl, hJ8, hf8, hC8, hw8⟩
            have HN8 : Hid (Below W.heap.size W w8) := HN6.out.trans (hC8.below (fun k hk => (HT6.out.j k hk).1) HN6.out.size)
            have HT8 : Hid (Refs W.heap.size w8 (Gr Fl w6 w8) F2 F2 r R r R) := HT6.out.chg hC8 HN6.out.size
            have HD8 : Hid (PDisk (Gr Fl w6 w8) w8 d S8 ∧ Sees S8 V ∧ S8.out = false) := ⟨J.jp_disk hJ8, J.jp_sees hJ8, hf8.1⟩
            have Hfl : Hid ((filesOf (at_ S8.l)).length ≤ 1000000) := by
              have := sees_len HD8.out.2.1 HVn.out.1
              have := HVn.out.2
              show (filesOf (at_ S8.l)).length ≤ 1000000
              omega
            clear hJ8 hf8 hC8 hw8 HT6 HVd HI
            generalize Gr Fl w6 w8 = Fm at *
            go_wp2_with fail
            refine (whole_c Fm F2 d r S8 R _ i cap ls W w8 HG.out.1 HG.out.2.1 HG.out.2.2 HN8.out HD8.out.1 (fun k hk => (HT8.out.j k hk).2) HT8.out.a (fun k hk => (HT8.out.fa k hk).2.1) Hfl.out).mono ?_
            rintro e w9 ⟨rfl, hb9⟩
            have HN9 : Hid (Below W.heap.size W w9) := HN8.out.trans (hb9.mono HN8.out.size)
            have HT9 : Hid (Refs W.heap.size w9 Fm F2 F2 r R r R) := HT8.out.inside hb9
            have HD9 : Hid (PDisk Fm w9 d S8) := HD8.out.1.keep (fun k hk => hb9.block k (HT8.out.j k hk).2)
            obtain ⟨v, hv⟩ : ∃ v, v = wholeB S8 R ls := ⟨_, rfl⟩
            rw [← hv]
            cases v with
            | true =>
              have Rr := HP.out w9 HN9.out
              clear hv HP hb9 HN8 HT8 HD8 HN9 HG HT9 HD9
              go_wp2
              exact Rr
            | false =>
              have HVe : Hid (V = (R.doAll (gl.map Pt.bk)).l) := by
                rcases HVo.out with h | h
                · have := whole_true (S := S8) (R := R) (by rw [← h]; exact HD8.out.2.1) HR.out.noj HD8.out.2.2 HR.out.free.1 ls
                  rw [this] at hv
                  cases hv
                · rw [Hmore.out.2]; exact h
              have cg : w9.cell? ⟨b, off + t, none⟩ = some (.slice ga gn gc) := (HO.out.on HN9.out).c0
              have HS : Hid (Sees S8 V ∧ S8.out = false) := HD8.out.2
              clear hv hb9 HN8 HT8 HD8 HVo
              go_wp2_with fail
              refine (do_c F2 r R ga gn gc gl W w9 HO.out.len HO.out.puts HN9.out HT9.out.a (fun k hk => (HT9.out.fa k hk).1) (by
                have h1 := HR.out.len
                have h2 := HR.out.wr
                have h3 := Htt.out
                exact ⟨by omega, by omega⟩)).mono ?_
              rintro e w10 ⟨rfl, F3, hR10, hF10, hC10⟩
              have HN10 : Hid (Below W.heap.size W w10) := HN9.out.trans (hC10.below (fun k hk => (HT9.out.fa k hk).1) HN9.out.size)
              have HD10 : Hid (PDisk Fm w10 d S8 ∧ ∀ k, Fm k → k < w10.heap.size) := ⟨HD9.out.keep (fun k hk => hC10.block k (HT9.out.j k hk).2 (fun hf => (HT9.out.fa k hf).2.2 hk)), fun k hk => by have := (HT9.out.j k hk).2; have := hC10.size; omega⟩
              have HR10 : Hid (RDisk F3 w10 r (R.doAll (gl.map Pt.bk)) ∧ ∀ k, F3 k → k < w10.heap.size) := ⟨hR10, fun k hk => by
                rcases hF10 k hk with h | h
                · have := (HT9.out.fa k h).2.1; have := hC10.size; omega
                · exact h.2⟩
              clear hR10 hF10 hC10 HT9 HD9 HN9
              go_wp2_with fail
              refine (whole_c Fm F3 d r S8 _ _ i cap ls W w10 HG.out.1 HG.out.2.1 HG.out.2.2 HN10.out HD10.out.1 HD10.out.2 HR10.out.1 HR10.out.2 Hfl.out).mono ?_
              rintro e w11 ⟨rfl, hb11⟩
              have hv : wholeB S8 (R.doAll (gl.map Pt.bk)) ls = true := whole_true (by rw [← HVe.out]; exact HS.out.1) Hmore.out.1.noj HS.out.2 Hmore.out.1.free.1 ls
              rw [hv]
              have Rr := HP.out w11 (HN10.out.trans (hb11.mono HN10.out.size))
              clear HP hb11 HN10 HD10 HR10 HG
              go_wp2
              exact Rr
        · obtain rfl : t = i := by omega
          have HVd : Hid (J.Rec S R.l ∧ PDisk Fk wr d S) := ⟨J.jp_rec HJ.out, J.jp_disk HJ.out⟩
          obtain ⟨V, hV⟩ : ∃ V, V = R.l := ⟨_, rfl⟩
          have HVo : Hid (V = R.l) := hV
          rw [← hV] at HVd
          have HVn : Hid (NoJ V ∧ V.length ≤ 1000) := by rw [hV]; exact ⟨HR.out.noj, by have := HR.out.len; have := total_mono ls t; omega⟩
          have hw6b : S.writes ≤ 200000 := by omega
          have HN6 : Hid (Below W.heap.size W wr) := HN.out
          have HT6 : Hid (Refs W.heap.size wr Fk F2 F2 r R r R) := HT.out
          clear hV HJ HN HT HMs
          go_wp2_with fail
          refine (opened_c J Fk d S V ca cn cc wr HVd.out.2 (fun k hk => (HT6.out.j k hk).2) HVd.out.1 (by omega) (fun k hk => ?_) HI.out.2).mono ?_
          · obtain ⟨b, off, x, e, hx, _, hc⟩ := HI.out.1 k hk
            have hlt := World.block_lt_of_cell? W _ hc
            exact ⟨b, off, x, e, hx, fun hf => by have := (HT6.out.j b hf).1; simp only at hlt; omega, cell_on HN6.out hc⟩
          rintro _ w8 ⟨j2, S8, rfl, hJ8, hf8, hC8, hw8⟩
          have HN8 : Hid (Below W.heap.size W w8) := HN6.out.trans (hC8.below (fun k hk => (HT6.out.j k hk).1) HN6.out.size)
          have HT8 : Hid (Refs W.heap.size w8 (Gr Fk wr w8) F2 F2 r R r R) := HT6.out.chg hC8 HN6.out.size
          have HD8 : Hid (PDisk (Gr Fk wr w8) w8 d S8 ∧ Sees S8 V ∧ S8.out = false) := ⟨J.jp_disk hJ8, J.jp_sees hJ8, hf8.1⟩
          have Hfl : Hid ((filesOf (at_ S8.l)).length ≤ 1000000) := by
            have := sees_len HD8.out.2.1 HVn.out.1
            have := HVn.out.2
            show (filesOf (at_ S8.l)).length ≤ 1000000
            omega
          clear hJ8 hf8 hC8 hw8 HT6 HVd HI
          generalize Gr Fk wr w8 = Fm at *
          go_wp2_with fail
          refine (whole_c Fm F2 d r S8 R _ t cap ls W w8 HG.out.1 HG.out.2.1 HG.out.2.2 HN8.out HD8.out.1 (fun k hk => (HT8.out.j k hk).2) HT8.out.a (fun k hk => (HT8.out.fa k hk).2.1) Hfl.out).mono ?_
          rintro e w9 ⟨rfl, hb9⟩
          have HN9 : Hid (Below W.heap.size W w9) := HN8.out.trans (hb9.mono HN8.out.size)
          have hv : wholeB S8 R ls = true := whole_true (by rw [← HVo.out]; exact HD8.out.2.1) HR.out.noj HD8.out.2.2 HR.out.free.1 ls
          rw [hv]
          have Rr := HP.out w9 HN9.out
          clear HP hb9 HN8 HT8 HD8 HN9 HG
          go_wp2
          exact Rr
end Go.Proofs.Ytjkeejbfipmidaa
