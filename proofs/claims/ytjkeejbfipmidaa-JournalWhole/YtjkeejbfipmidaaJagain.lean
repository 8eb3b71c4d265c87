/-
  JournalAgain: the walk, over what is asked of a journal.
-/
import Derived.Test.YtjkeejbfipmidaaJwhole
set_option maxRecDepth 20000
namespace Go.Proofs.Ytjkeejbfipmidaa
open Go.RowKit

/-- One group in a slice of the law's own. -/
theorem one_gps (w : World) (a : Option Addr) (n c : Nat) (l : List Pt) (h : l.length = n) (e : n ≤ maxLen) (p : Puts w a l) :
    Gps (w.alloc (.cells #[.slice a n c] 33)) (some ⟨w.heap.size, 0, none⟩) [⟨a, n, c, l⟩] := by
  have hb : Below w.heap.size w (w.alloc (.cells #[.slice a n c] 33)) := (Below.refl _ _).alloc (Nat.le_refl _) _
  have hh : (w.alloc (.cells #[.slice a n c] 33)).heap[w.heap.size]? = some (.cells #[.slice a n c] 33 (0, 0)) := heap_alloc_new w _
  intro k hk
  refine ⟨w.heap.size, 0, rfl, ?_⟩
  match k, hk with
  | 0, _ => exact ⟨by rw [cell_of_row _ _ 0 _ 33 (0, 0) hh]; rfl, h, e, p.on hb⟩
/-- One number in a slice of the law's own. -/
theorem one_ints (F : Nat → Prop) (w : World) (x : Int) (hx : I64 x) (hF : ∀ k, F k → k < w.heap.size) : Ints F (w.alloc (.cells #[.int .i64 x] 3)) (some ⟨w.heap.size, 0, none⟩) 1 := fun k hk => by
  have hh : (w.alloc (.cells #[.int .i64 x] 3)).heap[w.heap.size]? = some (.cells #[.int .i64 x] 3 (0, 0)) := heap_alloc_new w _
  obtain rfl : k = 0 := by omega
  exact ⟨w.heap.size, 0, x, rfl, hx, fun h => absurd (hF _ h) (Nat.lt_irrefl _), by rw [cell_of_row _ _ 0 _ 3 (0, 0) hh]; rfl⟩

/-- whole, of one group. -/
theorem whole_one (Fd Fr : Nat → Prop) (d r : Nat) (S R : St) (a1 : Option Addr) (n1 c1 : Nat) (gs : List Gp) (w : World) (hl : gs.length = 1) (hG : Gps (w.alloc (.cells #[.slice a1 n1 c1] 33)) (some ⟨w.heap.size, 0, none⟩) gs) (hD : PDisk Fd w d S) (hFd : ∀ k, Fd k → k < w.heap.size) (hR : RDisk Fr w r R) (hFr : ∀ k, Fr k → k < w.heap.size) (hfl : (filesOf (at_ S.l)).length ≤ 1000000) :
    Calls Try.prog 17 #[.pointer (some ⟨d, 0, none⟩), .pointer (some ⟨r, 0, none⟩), .slice (some ⟨w.heap.size, 0, none⟩) 1 1] (w.alloc (.cells #[.slice a1 n1 c1] 33)) fun e w' => e = .returned (.bool (wholeB S R gs)) ∧ Below w.heap.size w w' := by
  have hb : Below w.heap.size w (w.alloc (.cells #[.slice a1 n1 c1] 33)) := (Below.refl _ _).alloc (Nat.le_refl _) _
  have hs := hb.size
  refine (whole_c Fd Fr d r S R (some ⟨w.heap.size, 0, none⟩) 1 1 gs _ _ hl (by decide) hG (Below.refl _ _) (hD.keep (fun k hk => hb.block k (hFd k hk))) (fun k hk => by have := hFd k hk; omega) (hR.keep (fun k hk => hb.block k (hFr k hk))) (fun k hk => by have := hFr k hk; omega) hfl).mono ?_
  rintro e w' ⟨rfl, hb'⟩
  exact ⟨rfl, hb.trans (hb'.mono hs)⟩

set_option maxHeartbeats 8000000 in
theorem journalAgain_walk (J : JSpec) (hAw : AwakeSays) (a1 : Option Addr) (n1 c1 : Nat) (n t : Int) (l1 : List Pt) (W : World) (h1 : l1.length = n1) (e1 : n1 ≤ maxLen) (p1 : Puts W a1 l1) (hn : I64 n) :
    Calls Try.prog 7 #[.slice a1 n1 c1, .int .i64 n, .int .i64 t] W fun e W' => e = .returned (.bool true) ∧ Below W.heap.size W W' := by
  obtain ⟨Post, hPost⟩ : ∃ Post : Ending → World → Prop, Post = fun e w' => e = .returned (.bool true) ∧ Below W.heap.size W w' := ⟨_, rfl⟩
  rw [← hPost]
  have HP : Hid (∀ w', Below W.heap.size W w' → Post (.returned (.bool true)) w') := fun w' h => by rw [hPost]; exact ⟨rfl, h⟩
  clear hPost
  have H1 : Hid (l1.length = n1 ∧ n1 ≤ maxLen ∧ Puts W a1 l1) := ⟨h1, e1, p1⟩
  have hn1 := hn.1
  have hn2 := hn.2
  clear h1 e1 p1 hn
  go_enter Try.func7, Try.ntmps7
  go_wp2_with fail
  refine (hAw W).mono ?_
  rintro e w0 ⟨rfl, hb0⟩
  go_wp2_with fail
  refine (new_c w0).mono ?_
  rintro e w1 ⟨⟨d, F, rfl, hD1, hF1, hF2⟩, hb1⟩
  have HN1 : Hid (Below W.heap.size W w1) := hb0.trans (hb1.mono hb0.size)
  have HD1 : Hid (PDisk F w1 d St.new ∧ (∀ k, F k → W.heap.size ≤ k) ∧ ∀ k, F k → k < w1.heap.size) := ⟨hD1, fun k hk => Nat.le_trans hb0.size (hF1 k hk), hF2⟩
  clear hD1 hF1 hF2 hb1 hb0
  go_wp2_with fail
  refine (may_c a1 n1 c1 l1 w1 H1.out.1 H1.out.2.1 (H1.out.2.2.on HN1.out)).mono ?_
  rintro e w1' ⟨rfl, hw⟩
  replace hw := hw.symm
  subst hw
  obtain ⟨m1, hm1⟩ : ∃ m1, m1 = may (l1.map Pt.bk) := ⟨_, rfl⟩
  have HM1 : Hid (m1 = may (l1.map Pt.bk)) := hm1
  rw [← hm1]
  clear hm1
  have R1 := HP.out w1 HN1.out
  by_cases z1 : m1 = 0
  rotate_left
  · have t1 : (m1 != 0) = true := bne_iff_ne.2 z1
    clear HP HD1 HN1 HM1 H1
    go_wp2
    exact R1
  subst z1
  by_cases z2 : t < 0
  · clear HP HD1 HN1 HM1 H1
    go_wp2
    exact R1
  by_cases z3 : 10 < t
  · clear HP HD1 HN1 HM1 H1
    go_wp2
    exact R1
  clear R1
  obtain ⟨T, hT⟩ : ∃ T : Nat, t = (T : Int) := ⟨t.toNat, by omega⟩
  subst hT
  have hT10 : T ≤ 10 := by omega
  clear z2 z3
  obtain ⟨g1, s1⟩ := may_ok.1 HM1.out.symm
  have HG1 : Hid (∀ b ∈ l1.map Pt.bk, badB b = false) := g1
  rw [List.length_map, H1.out.1] at s1
  clear g1
  go_wp2_with fail
  refine (J.open_ F d St.new [] w1 HD1.out.1 HD1.out.2.2 J.new (by decide)).mono ?_
  rintro _ w2 ⟨S2, jv, E, rfl, hC2, hw2, hst2, hor⟩
  rcases hor with ⟨rfl, j, rfl, hJ2⟩ | ⟨_, h, _⟩
  rotate_left
  · exact absurd new_free h
  have HN2 : Hid (Below W.heap.size W w2) := HN1.out.trans (hC2.below HD1.out.2.1 HN1.out.size)
  have HJ2 : Hid (J.JP (Gr F w1 w2) w2 j d S2 [] ∧ (∀ k, Gr F w1 w2 k → W.heap.size ≤ k ∧ k < w2.heap.size)) := ⟨hJ2, fun k hk => ⟨by rcases hk with h | h; exact HD1.out.2.1 k h; have := HN1.out.size; omega, Gr.lt HD1.out.2.2 hC2.size k hk⟩⟩
  have Hf2 : Hid (S2.writes ≤ 2000) := by have : St.new.writes = 0 := rfl; show S2.writes ≤ 2000; omega
  clear hJ2 hC2 hw2 hst2 HD1 HN1
  generalize Gr F w1 w2 = Fj at *
  go_wp2_with fail
  refine (cut_c Fj d S2 n ⟨hn1, hn2⟩ w2 (J.jp_disk HJ2.out.1)).mono ?_
  rintro e w3 ⟨rfl, hD3, hO3⟩
  have hdF : Fj d := (J.jp_disk HJ2.out.1).inF
  have HN3 : Hid (Below W.heap.size W w3) := HN2.out.trans (hO3.below (HJ2.out.2 d hdF).1)
  have HJ3 : Hid (J.JP Fj w3 j d (S2.cut n) [] ∧ (∀ k, Fj k → W.heap.size ≤ k ∧ k < w3.heap.size)) := ⟨J.jp_cut HJ2.out.1 hO3 hD3, fun k hk => by have := HJ2.out.2 k hk; have := hO3.size; omega⟩
  have hw3 : (S2.cut n).writes ≤ 2000 := Hf2.out
  generalize S2.cut n = S3 at *
  clear hD3 hO3 hdF HJ2 HN2 Hf2
  go_wp2_with fail
  refine (copied_c a1 n1 c1 l1 W w3 H1.out.1 H1.out.2.2 HN3.out (by omega)).mono ?_
  rintro e w4 ⟨b1, d1, k1, rfl, hk1, hcp1, hmap1, hb4⟩
  have HN4 : Hid (Below W.heap.size W w4) := HN3.out.trans (hb4.mono HN3.out.size)
  have HJ4 : Hid (J.JP Fj w4 j d S3 [] ∧ (∀ k, Fj k → W.heap.size ≤ k ∧ k < w4.heap.size)) := ⟨J.jp_keep HJ3.out.1 (fun k hk => hb4.block k (HJ3.out.2 k hk).2), fun k hk => by have := HJ3.out.2 k hk; have := hb4.size; omega⟩
  have Hk1 : Hid (k1.length = n1 ∧ Puts w4 b1 k1 ∧ k1.map Pt.bk = l1.map Pt.bk) := ⟨hk1, hcp1.puts, hmap1⟩
  clear hk1 hcp1 hmap1 hb4 HJ3 HN3
  go_wp2_with fail
  refine (J.group_ Fj j d S3 [] b1 n1 d1 k1 w4 HJ4.out.1 (fun k hk => (HJ4.out.2 k hk).2) Hk1.out.1 (by omega) Hk1.out.2.1 (by omega)).mono ?_
  rintro _ w5 ⟨S5, E, rfl, hC5, hw5, hst5, hor⟩
  rw [Hk1.out.2.2, ← HM1.out] at hor
  have HN5 : Hid (Below W.heap.size W w5) := HN4.out.trans (hC5.below (fun k hk => (HJ4.out.2 k hk).1) HN4.out.size)
  have Hor : Hid (PDisk (Gr Fj w4 w5) w5 d S5 ∧ (∀ k, Gr Fj w4 w5 k → W.heap.size ≤ k ∧ k < w5.heap.size) ∧ ∃ V, J.Rec S5 V ∧ (V = [] ∨ V = doAll [] (l1.map Pt.bk))) := by
    have hF : ∀ k, Gr Fj w4 w5 k → W.heap.size ≤ k ∧ k < w5.heap.size := fun k hk => ⟨by rcases hk with h | h; exact (HJ4.out.2 k h).1; have := HN4.out.size; omega, Gr.lt (fun k hk => (HJ4.out.2 k hk).2) hC5.size k hk⟩
    rcases hor with ⟨h, _⟩ | ⟨_, _, _, hJ⟩ | ⟨_, _, _, _, hX, hr⟩
    · exact absurd rfl h
    · exact ⟨J.jp_disk hJ, hF, _, J.jp_rec hJ, Or.inr rfl⟩
    · rcases hr with hr | ⟨_, hr⟩
      · exact ⟨J.jx_disk hX, hF, _, hr, Or.inl rfl⟩
      · exact ⟨J.jx_disk hX, hF, _, hr, Or.inr rfl⟩
  have hw5' : S5.writes ≤ 4000 := by omega
  clear hor hC5 hw5 hst5 HJ4 HN4 Hk1 HM1 hw3
  obtain ⟨V, hV⟩ : ∃ V, J.Rec S5 V ∧ (V = [] ∨ V = doAll [] (l1.map Pt.bk)) := Hor.out.2.2
  have HVr : Hid (J.Rec S5 V) := hV.1
  have HVn : Hid (NoJ V ∧ V.length ≤ 256) := by
    rcases hV.2 with rfl | rfl
    · exact ⟨NoJ.nil, by simp⟩
    · refine ⟨NoJ.nil.doAll HG1.out, ?_⟩
      have := doAll_len [] (l1.map Pt.bk)
      rw [List.length_map, H1.out.1] at this
      simp only [List.length_nil] at this
      omega
  clear hV
  generalize Gr Fj w4 w5 = Fk at *
  go_wp2_with fail
  refine (opened_c J Fk d S5 V none 0 0 w5 Hor.out.1 (fun k hk => (Hor.out.2.1 k hk).2) HVr.out (by omega) (fun k hk => absurd hk (Nat.not_lt_zero _)) (Nat.zero_le _)).mono ?_
  rintro _ w6 ⟨j2, S6, rfl, hJ6, hf6, hC6, hw6⟩
  have HN6 : Hid (Below W.heap.size W w6) := HN5.out.trans (hC6.below (fun k hk => (Hor.out.2.1 k hk).1) HN5.out.size)
  have HD6 : Hid (PDisk (Gr Fk w5 w6) w6 d S6 ∧ (∀ k, Gr Fk w5 w6 k → W.heap.size ≤ k ∧ k < w6.heap.size) ∧ J.Rec S6 V) := ⟨J.jp_disk hJ6, fun k hk => ⟨by rcases hk with h | h; exact (Hor.out.2.1 k h).1; have := HN5.out.size; omega, Gr.lt (fun k hk => (Hor.out.2.1 k hk).2) hC6.size k hk⟩, J.jp_rec hJ6⟩
  have Hs6 : Hid (Sees S6 V ∧ S6.out = false) := ⟨J.jp_sees hJ6, hf6.1⟩
  have hw6' : S6.writes ≤ 46000 := by omega
  clear hJ6 hf6 hC6 hw6 Hor HN5 HVr hw5'
  generalize Gr Fk w5 w6 = Fl at *
  go_wp2_with fail
  refine (rnew_c w6).mono ?_
  rintro e w7 ⟨⟨r, F1, rfl, hR7, hR8, hR9⟩, hb7⟩
  have HN7 : Hid (Below W.heap.size W w7) := HN6.out.trans (hb7.mono HN6.out.size)
  have HT7 : Hid (Refs W.heap.size w7 Fl F1 F1 r St.new r St.new) := by
    have hfa : ∀ k, F1 k → W.heap.size ≤ k ∧ k < w7.heap.size ∧ ¬ Fl k := fun k hk => by
      have := hR8 k hk
      have := HN6.out.size
      exact ⟨by omega, hR9 k hk, fun hf => by have := (HD6.out.2.1 k hf).2; omega⟩
    exact ⟨fun k hk => by have := HD6.out.2.1 k hk; have := hb7.size; omega, hR7, hR7, hfa, hfa⟩
  have HD7 : Hid (PDisk Fl w7 d S6 ∧ J.Rec S6 V) := ⟨HD6.out.1.keep (fun k hk => hb7.block k (HD6.out.2.1 k hk).2), HD6.out.2.2⟩
  clear hR7 hR8 hR9 hb7 HD6 HN6
  obtain ⟨gs, hgs⟩ : ∃ gs : List Gp, gs = [⟨a1, n1, c1, l1⟩] := ⟨_, rfl⟩
  have HGs : Hid (∀ w, Below W.heap.size W w → Gps (w.alloc (.cells #[.slice a1 n1 c1] 33)) (some ⟨w.heap.size, 0, none⟩) gs) := fun w h => by
    rw [hgs]
    exact one_gps w a1 n1 c1 l1 H1.out.1 H1.out.2.1 (H1.out.2.2.on h)
  have Hgl : Hid (gs.length = 1) := by rw [hgs]; rfl
  have Hfl : Hid (∀ S, Sees S V → (filesOf (at_ S.l)).length ≤ 1000000) := fun S h => by
    have := sees_len h HVn.out.1
    have := HVn.out.2
    omega
  clear hgs
  go_wp2_with fail
  refine (whole_one Fl F1 d r S6 St.new a1 n1 c1 gs w7 Hgl.out (HGs.out w7 HN7.out) HD7.out.1 (fun k hk => (HT7.out.j k hk).2) HT7.out.a (fun k hk => (HT7.out.fa k hk).2.1) (Hfl.out S6 Hs6.out.1)).mono ?_
  rintro e w8 ⟨rfl, hb8⟩
  have HN8 : Hid (Below W.heap.size W w8) := HN7.out.trans (hb8.mono HN7.out.size)
  have HT8 : Hid (Refs W.heap.size w8 Fl F1 F1 r St.new r St.new) := HT7.out.inside hb8
  have HD8 : Hid (PDisk Fl w8 d S6 ∧ J.Rec S6 V) := ⟨HD7.out.1.keep (fun k hk => hb8.block k (HT7.out.j k hk).2), HD7.out.2⟩
  obtain ⟨v0, hv0⟩ : ∃ v0, v0 = wholeB S6 St.new gs := ⟨_, rfl⟩
  have Hv0 : Hid (v0 = wholeB S6 St.new gs) := hv0
  rw [← hv0]
  clear hb8 HT7 HD7 HN7 hv0
  go_wp2_with fail
  refine (do_c F1 r St.new a1 n1 c1 l1 W w8 H1.out.1 H1.out.2.2 HN8.out HT8.out.a (fun k hk => (HT8.out.fa k hk).1) ⟨by have : St.new.l.length = 0 := rfl; omega, by have : St.new.writes = 0 := rfl; omega⟩).mono ?_
  rintro e w9 ⟨rfl, F3, hR9, hF9, hC9⟩
  generalize St.new.doAll (l1.map Pt.bk) = R1 at *
  have HN9 : Hid (Below W.heap.size W w9) := HN8.out.trans (hC9.below (fun k hk => (HT8.out.fa k hk).1) HN8.out.size)
  have HT9 : Hid (Refs W.heap.size w9 Fl F3 F3 r R1 r R1) := by
    have hs := hC9.size
    have hs0 := HN8.out.size
    have hfa : ∀ k, F3 k → W.heap.size ≤ k ∧ k < w9.heap.size ∧ ¬ Fl k := fun k hk => by
      rcases hF9 k hk with h | h
      · have := HT8.out.fa k h
        exact ⟨this.1, by omega, this.2.2⟩
      · exact ⟨by omega, h.2, fun hf => by have := (HT8.out.j k hf).2; omega⟩
    exact ⟨fun k hk => by have := HT8.out.j k hk; omega, hR9, hR9, hfa, hfa⟩
  have HD9 : Hid (PDisk Fl w9 d S6 ∧ J.Rec S6 V) := ⟨HD8.out.1.keep (fun k hk => hC9.block k (HT8.out.j k hk).2 (fun hf => (HT8.out.fa k hf).2.2 hk)), HD8.out.2⟩
  clear hR9 hF9 hC9 HT8 HD8 HN8
  go_wp2_with fail
  refine (whole_one Fl F3 d r S6 R1 a1 n1 c1 gs w9 Hgl.out (HGs.out w9 HN9.out) HD9.out.1 (fun k hk => (HT9.out.j k hk).2) HT9.out.a (fun k hk => (HT9.out.fa k hk).2.1) (Hfl.out S6 Hs6.out.1)).mono ?_
  rintro e w10 ⟨rfl, hb10⟩
  have HN10 : Hid (Below W.heap.size W w10) := HN9.out.trans (hb10.mono HN9.out.size)
  have HA10 : Hid (∃ Fm S, Refs W.heap.size w10 Fm F3 F3 r R1 r R1 ∧ PDisk Fm w10 d S ∧ J.Rec S V ∧ Sees S V ∧ S.out = false ∧ S.writes ≤ 46000 + (0 : Nat) * 42000) := ⟨Fl, S6, HT9.out.inside hb10, HD9.out.1.keep (fun k hk => hb10.block k (HT9.out.j k hk).2), HD9.out.2, Hs6.out.1, Hs6.out.2, by omega⟩
  obtain ⟨v1, hv1⟩ : ∃ v1, v1 = wholeB S6 R1 gs := ⟨_, rfl⟩
  have Hv1 : Hid (v1 = wholeB S6 R1 gs) := hv1
  rw [← hv1]
  clear hb10 HT9 HD9 HN9 hv1
  go_wp2
  go_loopw [12, 16] (fun v12 v16 wr => ∃ (i : Nat), i ≤ T ∧ v16 = .int .i64 (i : Int) ∧ Hid (∃ Fm S, Refs W.heap.size wr Fm F3 F3 r R1 r R1 ∧ PDisk Fm wr d S ∧ J.Rec S V ∧ Sees S V ∧ S.out = false ∧ S.writes ≤ 46000 + (i : Int) * 42000) ∧ Hid (Below W.heap.size W wr)) (fun _ v16 _ => T - (intOf v16).toNat)
  case atStart => exact ⟨0, Nat.zero_le _, rfl, HA10.out, HN10.out⟩
  case round =>
    clear HA10 HN10
    obtain ⟨i, hi, rfl, HA, HN⟩ := hrel
    obtain ⟨Fm, S, hT0, hD0, hR0, hS0, ho0, hw0⟩ := HA.out
    have HT : Hid (Refs W.heap.size wr Fm F3 F3 r R1 r R1) := hT0
    have HD : Hid (PDisk Fm wr d S ∧ J.Rec S V ∧ Sees S V ∧ S.out = false) := ⟨hD0, hR0, hS0, ho0⟩
    clear hT0 hD0 hR0 hS0 ho0 HA
    by_cases hlt : i < T
    · have hlt' : (i : Int) < T := by omega
      have hbx : Below wr.heap.size wr (wr.alloc (.cells #[.int .i64 (i : Int)] 3)) := (Below.refl _ _).alloc (Nat.le_refl _) _
      have HI : Hid (Ints Fm (wr.alloc (.cells #[.int .i64 (i : Int)] 3)) (some ⟨wr.heap.size, 0, none⟩) 1) := one_ints Fm wr i ⟨by omega, by omega⟩ (fun k hk => (HT.out.j k hk).2)
      have HNx : Hid (Below W.heap.size W (wr.alloc (.cells #[.int .i64 (i : Int)] 3))) := HN.out.trans (hbx.mono HN.out.size)
      have HTx : Hid (Refs W.heap.size (wr.alloc (.cells #[.int .i64 (i : Int)] 3)) Fm F3 F3 r R1 r R1) := HT.out.inside hbx
      have HDx : Hid (PDisk Fm (wr.alloc (.cells #[.int .i64 (i : Int)] 3)) d S ∧ J.Rec S V) := ⟨HD.out.1.keep (fun k hk => hbx.block k (HT.out.j k hk).2), HD.out.2.1⟩
      clear hbx HT HD HN HP
      go_wp2_with fail
      generalize wr.heap.size = X at *
      generalize wr.alloc (.cells #[.int .i64 (i : Int)] 3) = wx at *
      refine (opened_c J Fm d S V (some ⟨X, 0, none⟩) 1 1 wx HDx.out.1 (fun k hk => (HTx.out.j k hk).2) HDx.out.2 (by omega) HI.out (by decide)).mono ?_
      rintro _ wy ⟨j3, Sy, rfl, hJy, hfy, hCy, hwy⟩
      have HNy : Hid (Below W.heap.size W wy) := HNx.out.trans (hCy.below (fun k hk => (HTx.out.j k hk).1) HNx.out.size)
      have HAy : Hid (∃ Fm S, Refs W.heap.size wy Fm F3 F3 r R1 r R1 ∧ PDisk Fm wy d S ∧ J.Rec S V ∧ Sees S V ∧ S.out = false ∧ S.writes ≤ 46000 + ((i + 1 : Nat) : Int) * 42000) := ⟨Gr Fm wx wy, Sy, HTx.out.chg hCy HNx.out.size, J.jp_disk hJy, J.jp_rec hJy, J.jp_sees hJy, hfy.1, by omega⟩
      clear hJy hfy hCy hwy HTx HDx HNx HI
      go_wp2
      go_roundw
      case rel => exact ⟨i + 1, by omega, by go_num, HAy.out, HNy.out⟩
      case measure => simp [intOf]; omega
    · obtain rfl : i = T := by omega
      go_wp2_with fail
      refine (rnew_c wr).mono ?_
      rintro e wx ⟨⟨r0, F0, rfl, hRx, hRy, hRz⟩, hbx⟩
      have HNx : Hid (Below W.heap.size W wx) := HN.out.trans (hbx.mono HN.out.size)
      have HTx : Hid (Refs W.heap.size wx Fm F3 F3 r R1 r R1) := HT.out.inside hbx
      have HDx : Hid (PDisk Fm wx d S) := HD.out.1.keep (fun k hk => hbx.block k (HT.out.j k hk).2)
      have HRx : Hid (RDisk F0 wx r0 St.new ∧ ∀ k, F0 k → k < wx.heap.size) := ⟨hRx, hRz⟩
      clear hRx hRy hRz hbx HN HT
      go_wp2_with fail
      refine (whole_one Fm F0 d r0 S St.new a1 n1 c1 gs wx Hgl.out (HGs.out wx HNx.out) HDx.out (fun k hk => (HTx.out.j k hk).2) HRx.out.1 HRx.out.2 (Hfl.out S HD.out.2.2.1)).mono ?_
      rintro e wy ⟨rfl, hby⟩
      have HNy : Hid (Below W.heap.size W wy) := HNx.out.trans (hby.mono HNx.out.size)
      have HTy : Hid (Refs W.heap.size wy Fm F3 F3 r R1 r R1) := HTx.out.inside hby
      have HDy : Hid (PDisk Fm wy d S) := HDx.out.keep (fun k hk => hby.block k (HTx.out.j k hk).2)
      rw [whole_eq HD.out.2.2.1 Hs6.out.1 HVn.out.1 HD.out.2.2.2 Hs6.out.2, ← Hv0.out]
      clear hby HNx HTx HDx HRx
      go_wp2_with fail
      refine (whole_one Fm F3 d r S R1 a1 n1 c1 gs wy Hgl.out (HGs.out wy HNy.out) HDy.out (fun k hk => (HTy.out.j k hk).2) HTy.out.a (fun k hk => (HTy.out.fa k hk).2.1) (Hfl.out S HD.out.2.2.1)).mono ?_
      rintro e wz ⟨rfl, hbz⟩
      rw [whole_eq HD.out.2.2.1 Hs6.out.1 HVn.out.1 HD.out.2.2.2 Hs6.out.2, ← Hv1.out]
      have R := HP.out wz (HNy.out.trans (hbz.mono HNy.out.size))
      clear HP hbz HNy HTy HDy HD Hv0 Hv1 HGs Hfl Hgl HVn Hs6
      cases v0 <;> cases v1 <;> (go_wp2; exact R)
end Go.Proofs.Ytjkeejbfipmidaa
