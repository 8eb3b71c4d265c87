/-
  JournalWhole: the walk, over what is asked of a journal.
-/
import Derived.Test.YtjkeejbfipmidaaJspec
set_option maxRecDepth 20000
namespace Go.Proofs.Ytjkeejbfipmidaa
open Go.RowKit

/-- Refs of the document's disks, apart from Fj, all from block B on. -/
structure Refs (B : Nat) (w : World) (Fj F1 F2 : Nat → Prop) (r1 : Nat) (R1 : St) (r2 : Nat) (R2 : St) : Prop where
  j : ∀ k, Fj k → B ≤ k ∧ k < w.heap.size
  a : RDisk F1 w r1 R1
  b : RDisk F2 w r2 R2
  fa : ∀ k, F1 k → B ≤ k ∧ k < w.heap.size ∧ ¬ Fj k
  fb : ∀ k, F2 k → B ≤ k ∧ k < w.heap.size ∧ ¬ Fj k
theorem Refs.chg {B : Nat} {w w' : World} {Fj F1 F2 : Nat → Prop} {r1 r2 : Nat} {R1 R2 : St} (h : Refs B w Fj F1 F2 r1 R1 r2 R2) (hC : Chg Fj w w') (hB : B ≤ w.heap.size) : Refs B w' (Gr Fj w w') F1 F2 r1 R1 r2 R2 := by
  have hs := hC.size
  refine ⟨fun k hk => ?_, h.a.keep (fun k hk => hC.block k (h.fa k hk).2.1 (h.fa k hk).2.2), h.b.keep (fun k hk => hC.block k (h.fb k hk).2.1 (h.fb k hk).2.2), fun k hk => ?_, fun k hk => ?_⟩
  · rcases hk with h1 | h1
    · have := h.j k h1; omega
    · omega
  · have := h.fa k hk
    refine ⟨this.1, by omega, fun hg => ?_⟩
    rcases hg with h1 | h1
    · exact this.2.2 h1
    · omega
  · have := h.fb k hk
    refine ⟨this.1, by omega, fun hg => ?_⟩
    rcases hg with h1 | h1
    · exact this.2.2 h1
    · omega
theorem Refs.only {B : Nat} {w w' : World} {Fj F1 F2 : Nat → Prop} {r1 r2 : Nat} {R1 R2 : St} (h : Refs B w Fj F1 F2 r1 R1 r2 R2) {d : Nat} (hO : Only d w w') (hd : Fj d) : Refs B w' Fj F1 F2 r1 R1 r2 R2 := by
  have hC : Chg Fj w w' := hO.toChg hd
  have hs := hO.size
  exact ⟨fun k hk => by have := h.j k hk; omega, h.a.keep (fun k hk => hC.block k (h.fa k hk).2.1 (h.fa k hk).2.2), h.b.keep (fun k hk => hC.block k (h.fb k hk).2.1 (h.fb k hk).2.2), fun k hk => ⟨(h.fa k hk).1, by rw [hs]; exact (h.fa k hk).2.1, (h.fa k hk).2.2⟩, fun k hk => ⟨(h.fb k hk).1, by rw [hs]; exact (h.fb k hk).2.1, (h.fb k hk).2.2⟩⟩
theorem Refs.inside {B : Nat} {w w' : World} {Fj F1 F2 : Nat → Prop} {r1 r2 : Nat} {R1 R2 : St} (h : Refs B w Fj F1 F2 r1 R1 r2 R2) (hb : Below w.heap.size w w') : Refs B w' Fj F1 F2 r1 R1 r2 R2 := by
  have hs := hb.size
  exact ⟨fun k hk => by have := h.j k hk; omega, h.a.keep (fun k hk => hb.block k (h.fa k hk).2.1), h.b.keep (fun k hk => hb.block k (h.fb k hk).2.1), fun k hk => ⟨(h.fa k hk).1, by have := (h.fa k hk).2.1; omega, (h.fa k hk).2.2⟩, fun k hk => ⟨(h.fb k hk).1, by have := (h.fb k hk).2.1; omega, (h.fb k hk).2.2⟩⟩
/-- Refs groups in a slice of the law's own. -/
theorem two_gps (w : World) (a1 a2 : Option Addr) (n1 c1 n2 c2 : Nat) (l1 l2 : List Pt) (h1 : l1.length = n1) (h2 : l2.length = n2) (e1 : n1 ≤ maxLen) (e2 : n2 ≤ maxLen) (p1 : Puts w a1 l1) (p2 : Puts w a2 l2) :
    Gps (w.alloc (.cells #[.slice a1 n1 c1, .slice a2 n2 c2] 33)) (some ⟨w.heap.size, 0, none⟩) [⟨a1, n1, c1, l1⟩, ⟨a2, n2, c2, l2⟩] := by
  have hb : Below w.heap.size w (w.alloc (.cells #[.slice a1 n1 c1, .slice a2 n2 c2] 33)) := (Below.refl _ _).alloc (Nat.le_refl _) _
  have hh : (w.alloc (.cells #[.slice a1 n1 c1, .slice a2 n2 c2] 33)).heap[w.heap.size]? = some (.cells #[.slice a1 n1 c1, .slice a2 n2 c2] 33 (0, 0)) := heap_alloc_new w _
  intro k hk
  refine ⟨w.heap.size, 0, rfl, ?_⟩
  match k, hk with
  | 0, _ => exact ⟨by rw [cell_of_row _ _ 0 _ 33 (0, 0) hh]; rfl, h1, e1, p1.on hb⟩
  | 1, _ => exact ⟨by rw [cell_of_row _ _ 1 _ 33 (0, 0) hh]; rfl, h2, e2, p2.on hb⟩
/-- Behind a group that may be. -/
theorem new_free : St.new.free := ⟨rfl, rfl⟩
def AwakeSays : Prop := ∀ w, Calls Try.prog 8 #[] w fun e w' => e = .returned (.bool true) ∧ Below w.heap.size w w'

set_option maxHeartbeats 8000000 in
theorem journalWhole_walk (J : JSpec) (hAw : AwakeSays) (a1 a2 ca : Option Addr) (n1 c1 n2 c2 cn cc : Nat) (n : Int) (l1 l2 : List Pt) (W : World) (h1 : l1.length = n1) (h2 : l2.length = n2) (e1 : n1 ≤ maxLen) (e2 : n2 ≤ maxLen) (p1 : Puts W a1 l1) (p2 : Puts W a2 l2) (hn : I64 n) (hI : Ints (fun _ => False) W ca cn) (hcn : cn ≤ maxLen) :
    Calls Try.prog 4 #[.slice a1 n1 c1, .slice a2 n2 c2, .int .i64 n, .slice ca cn cc] W fun e W' => e = .returned (.bool true) ∧ Below W.heap.size W W' := by
  obtain ⟨Post, hPost⟩ : ∃ Post : Ending → World → Prop, Post = fun e w' => e = .returned (.bool true) ∧ Below W.heap.size W w' := ⟨_, rfl⟩
  rw [← hPost]
  have HP : Hid (∀ w', Below W.heap.size W w' → Post (.returned (.bool true)) w') := fun w' h => by rw [hPost]; exact ⟨rfl, h⟩
  clear hPost
  have H1 : Hid (l1.length = n1 ∧ n1 ≤ maxLen ∧ Puts W a1 l1) := ⟨h1, e1, p1⟩
  have H2 : Hid (l2.length = n2 ∧ n2 ≤ maxLen ∧ Puts W a2 l2) := ⟨h2, e2, p2⟩
  have HI : Hid (Ints (fun _ => False) W ca cn ∧ cn ≤ maxLen) := ⟨hI, hcn⟩
  have hn1 := hn.1
  have hn2 := hn.2
  clear h1 e1 p1 h2 e2 p2 hI hcn hn
  go_enter Try.func4, Try.ntmps4
  go_wp2_with fail
  refine (hAw W).mono ?_
  rintro e w0 ⟨rfl, hb0⟩
  go_wp2_with fail
  refine (new_c w0).mono ?_
  rintro e w1 ⟨⟨d, F, rfl, hD1, hF1, hF2⟩, hb1⟩
  have HN1 : Hid (Below W.heap.size W w1) := hb0.trans (hb1.mono hb0.size)
  have HD1 : Hid (PDisk F w1 d St.new ∧ (∀ k, F k → W.heap.size ≤ k) ∧ ∀ k, F k → k < w1.heap.size) := ⟨hD1, fun k hk => Nat.le_trans hb0.size (hF1 k hk), hF2⟩
  clear hD1 hF1 hF2 hb1 hb0
  go_wp2_with fail
  refine (may_c a1 n1 c1 l1 w1 H1.out.1 H1.out.2.1 (H1.out.2.2.on HN1.out)).mono ?_
  rintro e w1' ⟨rfl, hw⟩
  replace hw := hw.symm
  subst hw
  go_wp2_with fail
  refine (may_c a2 n2 c2 l2 w1 H2.out.1 H2.out.2.1 (H2.out.2.2.on HN1.out)).mono ?_
  rintro e w1' ⟨rfl, hw⟩
  replace hw := hw.symm
  subst hw
  obtain ⟨m1, hm1⟩ : ∃ m1, m1 = may (l1.map Pt.bk) := ⟨_, rfl⟩
  obtain ⟨m2, hm2⟩ : ∃ m2, m2 = may (l2.map Pt.bk) := ⟨_, rfl⟩
  have HM1 : Hid (m1 = may (l1.map Pt.bk)) := hm1
  have HM2 : Hid (m2 = may (l2.map Pt.bk)) := hm2
  rw [← hm1, ← hm2]
  clear hm1 hm2
  have R1 := HP.out w1 HN1.out
  by_cases z1 : m1 = 0
  · by_cases z2 : m2 = 0
    · subst z1 z2
      clear R1
      obtain ⟨g1, s1⟩ := may_ok.1 HM1.out.symm
      obtain ⟨g2, s2⟩ := may_ok.1 HM2.out.symm
      have HG1 : Hid (∀ b ∈ l1.map Pt.bk, badB b = false) := g1
      have HG2 : Hid (∀ b ∈ l2.map Pt.bk, badB b = false) := g2
      rw [List.length_map, H1.out.1] at s1
      rw [List.length_map, H2.out.1] at s2
      clear g1 g2
      go_wp2_with fail
      refine (J.open_ F d St.new [] w1 HD1.out.1 HD1.out.2.2 J.new (by decide)).mono ?_
      rintro _ w2 ⟨S2, jv, E, rfl, hC2, hw2, hst2, hor⟩
      have hf2 := hst2.free new_free
      rcases hor with ⟨rfl, j, rfl, hJ2⟩ | ⟨_, h, _⟩
      rotate_left
      · exact absurd new_free h
      have HN2 : Hid (Below W.heap.size W w2) := HN1.out.trans (hC2.below HD1.out.2.1 HN1.out.size)
      have HJ2 : Hid (J.JP (Gr F w1 w2) w2 j d S2 [] ∧ (∀ k, Gr F w1 w2 k → W.heap.size ≤ k ∧ k < w2.heap.size)) := ⟨hJ2, fun k hk => ⟨by rcases hk with h | h; exact HD1.out.2.1 k h; have := HN1.out.size; omega, Gr.lt HD1.out.2.2 hC2.size k hk⟩⟩
      have Hf2 : Hid (S2.free ∧ S2.writes ≤ 2000) := ⟨hf2, by have : St.new.writes = 0 := rfl; omega⟩
      clear hJ2 hC2 hw2 hst2 hf2 HD1 HN1
      generalize Gr F w1 w2 = Fj at *
      go_wp2_with fail
      refine (rnew_c w2).mono ?_
      rintro e w3 ⟨⟨r, Fr, rfl, hR3, hR4, hR5⟩, hb3⟩
      have HN3 : Hid (Below W.heap.size W w3) := HN2.out.trans (hb3.mono HN2.out.size)
      have HR3 : Hid (RDisk Fr w3 r St.new ∧ (∀ k, Fr k → w2.heap.size ≤ k ∧ k < w3.heap.size)) := ⟨hR3, fun k hk => ⟨hR4 k hk, hR5 k hk⟩⟩
      have Hb3 : Hid (Below w2.heap.size w2 w3) := hb3
      clear hR3 hR4 hR5 hb3
      go_wp2_with fail
      refine (do_c Fr r St.new a1 n1 c1 l1 W w3 H1.out.1 H1.out.2.2 HN3.out HR3.out.1 (fun k hk => Nat.le_trans HN2.out.size (HR3.out.2 k hk).1) ⟨by have : St.new.l.length = 0 := rfl; omega, by have : St.new.writes = 0 := rfl; omega⟩).mono ?_
      rintro e w4 ⟨rfl, F1, hR4, hF4, hC4⟩
      obtain ⟨R1, hR1⟩ : ∃ R1, R1 = St.new.doAll (l1.map Pt.bk) := ⟨_, rfl⟩
      rw [← hR1] at hR4
      have HE1 : Hid (R1 = St.new.doAll (l1.map Pt.bk)) := hR1
      have hb4 : Below w2.heap.size w2 w4 := Hb3.out.trans (hC4.below (fun k hk => (HR3.out.2 k hk).1) Hb3.out.size)
      have Hb4 : Hid (Below w2.heap.size w2 w4) := hb4
      have HR4 : Hid (RDisk F1 w4 r R1 ∧ (∀ k, F1 k → w2.heap.size ≤ k ∧ k < w4.heap.size)) := ⟨hR4, fun k hk => by
        have := hC4.size
        have := Hb3.out.size
        rcases hF4 k hk with h | h
        · have := HR3.out.2 k h; omega
        · omega⟩
      have HN4 : Hid (Below W.heap.size W w4) := HN2.out.trans (hb4.mono HN2.out.size)
      clear hR4 hF4 hC4 hb4 hR1 HR3 Hb3 HN3
      go_wp2_with fail
      refine (rcopy_c F1 r R1 w4 HR4.out.1).mono ?_
      rintro e w5 ⟨r2, F2, rfl, hR5, hF5, hb5⟩
      have HR5 : Hid (RDisk F2 w5 r2 R1 ∧ (∀ k, F2 k → w4.heap.size ≤ k ∧ k < w5.heap.size) ∧ Below w4.heap.size w4 w5) := ⟨hR5, hF5, hb5⟩
      have HN5 : Hid (Below W.heap.size W w5) := HN4.out.trans (hb5.mono HN4.out.size)
      clear hR5 hF5 hb5
      go_wp2_with fail
      refine (do_c F2 r2 R1 a2 n2 c2 l2 W w5 H2.out.1 H2.out.2.2 HN5.out HR5.out.1 (fun k hk => Nat.le_trans HN4.out.size (HR5.out.2.1 k hk).1) (by
        have h := doAll_few St.new (l1.map Pt.bk)
        rw [← HE1.out, List.length_map, H1.out.1] at h
        have e1 : St.new.l.length = 0 := rfl
        have e2 : St.new.writes = 0 := rfl
        exact ⟨by omega, by omega⟩)).mono ?_
      rintro e w6 ⟨rfl, F3, hR6, hF6, hC6⟩
      obtain ⟨R2, hR2⟩ : ∃ R2, R2 = R1.doAll (l2.map Pt.bk) := ⟨_, rfl⟩
      rw [← hR2] at hR6
      have HE2 : Hid (R2 = R1.doAll (l2.map Pt.bk)) := hR2
      have hb6 : Below w4.heap.size w4 w6 := HR5.out.2.2.trans (hC6.below (fun k hk => (HR5.out.2.1 k hk).1) HR5.out.2.2.size)
      have HN6 : Hid (Below W.heap.size W w6) := HN4.out.trans (hb6.mono HN4.out.size)
      have HT6 : Hid (Refs W.heap.size w6 Fj F1 F3 r R1 r2 R2) := by
        have s0 := HN2.out.size
        have s1 := Hb4.out.size
        have s2 := hb6.size
        refine ⟨fun k hk => ?_, HR4.out.1.keep (fun k hk => hb6.block k (HR4.out.2 k hk).2), hR6, fun k hk => ?_, fun k hk => ?_⟩
        · have := HJ2.out.2 k hk; omega
        · have h := HR4.out.2 k hk
          exact ⟨by omega, by omega, fun hf => by have := HJ2.out.2 k hf; omega⟩
        · have s3 := hC6.size
          have h : w4.heap.size ≤ k ∧ k < w6.heap.size := by
            rcases hF6 k hk with h | h
            · have := HR5.out.2.1 k h; omega
            · have := HR5.out.2.2.size; omega
          exact ⟨by omega, by omega, fun hf => by have := HJ2.out.2 k hf; omega⟩
      have HJ6 : Hid (J.JP Fj w6 j d S2 []) := J.jp_keep HJ2.out.1 (fun k hk => by
        have h := HJ2.out.2 k hk
        rw [hb6.block k (by have := Hb4.out.size; omega)]
        exact Hb4.out.block k h.2)
      clear hR6 hF6 hC6 hb6 hR2 HR5 HR4 HJ2 HN5 HN4 HN2 Hb4
      go_wp2_with fail
      refine (copied_c a1 n1 c1 l1 W w6 H1.out.1 H1.out.2.2 HN6.out (by omega)).mono ?_
      rintro e w7 ⟨b1, d1, k1, rfl, hk1, hcp1, hmap1, hb7⟩
      have HN7 : Hid (Below W.heap.size W w7) := HN6.out.trans (hb7.mono HN6.out.size)
      have HT7 : Hid (Refs W.heap.size w7 Fj F1 F3 r R1 r2 R2) := HT6.out.inside hb7
      have HJ7 : Hid (J.JP Fj w7 j d S2 []) := J.jp_keep HJ6.out (fun k hk => hb7.block k (HT6.out.j k hk).2)
      have Hk1 : Hid (k1.length = n1 ∧ Puts w7 b1 k1 ∧ k1.map Pt.bk = l1.map Pt.bk) := ⟨hk1, hcp1.puts, hmap1⟩
      clear hk1 hcp1 hmap1 hb7 HT6 HJ6 HN6
      go_wp2_with fail
      refine (J.group_ Fj j d S2 [] b1 n1 d1 k1 w7 HJ7.out (fun k hk => (HT7.out.j k hk).2) Hk1.out.1 (by omega) Hk1.out.2.1 (by have := Hf2.out.2; omega)).mono ?_
      rintro _ w8 ⟨S8, E, rfl, hC8, hw8, hst8, hor⟩
      rw [Hk1.out.2.2, ← HM1.out] at hor
      rcases hor with ⟨h, _⟩ | ⟨_, rfl, _, hJ8⟩ | ⟨_, _, h, _⟩
      · exact absurd rfl h
      rotate_left
      · exact absurd Hf2.out.1 h
      have HN8 : Hid (Below W.heap.size W w8) := HN7.out.trans (hC8.below (fun k hk => (HT7.out.j k hk).1) HN7.out.size)
      have HT8 : Hid (Refs W.heap.size w8 (Gr Fj w7 w8) F1 F3 r R1 r2 R2) := HT7.out.chg hC8 HN7.out.size
      have HJ8 : Hid (J.JP (Gr Fj w7 w8) w8 j d S8 (doAll [] (l1.map Pt.bk))) := hJ8
      have Hf8 : Hid (S8.free ∧ S8.writes ≤ 4000) := ⟨hst8.free Hf2.out.1, by have := Hf2.out.2; omega⟩
      clear hJ8 hC8 hw8 hst8 HT7 HJ7 HN7 Hk1 Hf2
      generalize Gr Fj w7 w8 = Fk at *
      go_wp2_with fail
      refine (writes_c Fk d S8 w8 (J.jp_disk HJ8.out)).mono ?_
      rintro e w8' ⟨rfl, hw⟩
      replace hw := hw.symm
      subst hw
      go_wp2_with fail
      refine (cut_c Fk d S8 n ⟨hn1, hn2⟩ w8 (J.jp_disk HJ8.out)).mono ?_
      rintro e w9 ⟨rfl, hD9, hO9⟩
      have hdF : Fk d := (J.jp_disk HJ8.out).inF
      have HN9 : Hid (Below W.heap.size W w9) := HN8.out.trans (hO9.below (HT8.out.j d hdF).1)
      have HT9 : Hid (Refs W.heap.size w9 Fk F1 F3 r R1 r2 R2) := HT8.out.only hO9 hdF
      have HJ9 : Hid (J.JP Fk w9 j d (S8.cut n) (doAll [] (l1.map Pt.bk))) := J.jp_cut HJ8.out hO9 hD9
      have hwr : (S8.cut n).writes = S8.writes := rfl
      have Hw8 : Hid (S8.writes ≤ 4000) := Hf8.out.2
      generalize S8.cut n = S9 at *
      clear hD9 hO9 hdF HT8 HJ8 HN8 Hf8
      go_wp2_with fail
      refine (copied_c a2 n2 c2 l2 W w9 H2.out.1 H2.out.2.2 HN9.out (by omega)).mono ?_
      rintro e w10 ⟨b2, d2, k2, rfl, hk2, hcp2, hmap2, hb10⟩
      have HN10 : Hid (Below W.heap.size W w10) := HN9.out.trans (hb10.mono HN9.out.size)
      have HT10 : Hid (Refs W.heap.size w10 Fk F1 F3 r R1 r2 R2) := HT9.out.inside hb10
      have HJ10 : Hid (J.JP Fk w10 j d S9 (doAll [] (l1.map Pt.bk))) := J.jp_keep HJ9.out (fun k hk => hb10.block k (HT9.out.j k hk).2)
      have Hk2 : Hid (k2.length = n2 ∧ Puts w10 b2 k2 ∧ k2.map Pt.bk = l2.map Pt.bk) := ⟨hk2, hcp2.puts, hmap2⟩
      clear hk2 hcp2 hmap2 hb10 HT9 HJ9 HN9
      go_wp2_with fail
      refine (J.group_ Fk j d S9 _ b2 n2 d2 k2 w10 HJ10.out (fun k hk => (HT10.out.j k hk).2) Hk2.out.1 (by omega) Hk2.out.2.1 (by have := Hw8.out; omega)).mono ?_
      rintro _ w11 ⟨S11, E, rfl, hC11, hw11, hst11, hor⟩
      rw [Hk2.out.2.2, ← HM2.out] at hor
      have HN11 : Hid (Below W.heap.size W w11) := HN10.out.trans (hC11.below (fun k hk => (HT10.out.j k hk).1) HN10.out.size)
      have HT11 : Hid (Refs W.heap.size w11 (Gr Fk w10 w11) F1 F3 r R1 r2 R2) := HT10.out.chg hC11 HN10.out.size
      have HV1 : Hid (doAll [] (l1.map Pt.bk) = R1.l ∧ R1.free ∧ NoJ R1.l ∧ R1.l.length ≤ 256) := by
        have h := St.doAll_l new_free HG1.out
        rw [← HE1.out] at h
        refine ⟨h.symm, by rw [HE1.out]; exact new_free.doAll _, by rw [h]; exact NoJ.nil.doAll HG1.out, ?_⟩
        rw [h]
        have := doAll_len St.new.l (l1.map Pt.bk)
        rw [List.length_map, H1.out.1] at this
        have e : St.new.l.length = 0 := rfl
        omega
      have HV2 : Hid (doAll R1.l (l2.map Pt.bk) = R2.l ∧ R2.free ∧ NoJ R2.l ∧ R2.l.length ≤ 512) := by
        have h := St.doAll_l HV1.out.2.1 HG2.out
        rw [← HE2.out] at h
        refine ⟨h.symm, by rw [HE2.out]; exact HV1.out.2.1.doAll _, by rw [h]; exact HV1.out.2.2.1.doAll HG2.out, ?_⟩
        rw [h]
        have := doAll_len R1.l (l2.map Pt.bk)
        rw [List.length_map, H2.out.1] at this
        have := HV1.out.2.2.2
        omega
      have HOr : Hid (PDisk (Gr Fk w10 w11) w11 d S11 ∧ ∃ V, J.Rec S11 V ∧ (V = R1.l ∨ V = R2.l) ∧ ((E = 0 ∧ V = R2.l) ∨ (E = 8 ∧ (V = R1.l ∨ S11.writes ≠ S8.writes)))) := by
        rw [HV1.out.1, HV2.out.1] at hor
        rcases hor with ⟨h, _⟩ | ⟨_, rfl, _, hJ⟩ | ⟨_, rfl, _, _, hX, hr⟩
        · exact absurd rfl h
        · exact ⟨J.jp_disk hJ, R2.l, J.jp_rec hJ, Or.inr rfl, Or.inl ⟨rfl, rfl⟩⟩
        · refine ⟨J.jx_disk hX, ?_⟩
          rcases hr with hr | ⟨hne, hr⟩
          · exact ⟨R1.l, hr, Or.inl rfl, Or.inr ⟨rfl, Or.inl rfl⟩⟩
          · exact ⟨R2.l, hr, Or.inr rfl, Or.inr ⟨rfl, Or.inr (by omega)⟩⟩
      have Hw11 : Hid (S11.writes ≤ 6000) := by have := Hw8.out; show S11.writes ≤ 6000; omega
      clear hor hC11 hw11 hst11 HT10 HJ10 HN10 Hk2 HM1 HM2 HG1 HG2 HE1 HE2 hwr Hw8
      generalize Gr Fk w10 w11 = Fl at *
      go_wp2_with fail
      refine (writes_c Fl d S11 w11 HOr.out.1).mono ?_
      rintro e w11' ⟨rfl, hw⟩
      replace hw := hw.symm
      subst hw
      obtain ⟨V, hV⟩ : ∃ V, J.Rec S11 V ∧ (V = R1.l ∨ V = R2.l) ∧ ((E = 0 ∧ V = R2.l) ∨ (E = 8 ∧ (V = R1.l ∨ S11.writes ≠ S8.writes))) := HOr.out.2
      have HV : Hid (J.Rec S11 V ∧ (V = R1.l ∨ V = R2.l) ∧ ((E = 0 ∧ V = R2.l) ∨ (E = 8 ∧ (V = R1.l ∨ S11.writes ≠ S8.writes)))) := hV
      clear hV
      go_wp2_with fail
      refine (opened_c J Fl d S11 V ca cn cc w11 HOr.out.1 (fun k hk => (HT11.out.j k hk).2) HV.out.1 (by have := Hw11.out; omega) (fun k hk => ?_) HI.out.2).mono ?_
      · obtain ⟨b, off, x, e, hx, _, hc⟩ := HI.out.1 k hk
        have hlt := World.block_lt_of_cell? W _ hc
        exact ⟨b, off, x, e, hx, fun hf => by have := (HT11.out.j b hf).1; simp only at hlt; omega, cell_on HN11.out hc⟩
      rintro _ w12 ⟨j2, S12, rfl, hJ12, hf12, hC12, hw12⟩
      have HN12 : Hid (Below W.heap.size W w12) := HN11.out.trans (hC12.below (fun k hk => (HT11.out.j k hk).1) HN11.out.size)
      have HT12 : Hid (Refs W.heap.size w12 (Gr Fl w11 w12) F1 F3 r R1 r2 R2) := HT11.out.chg hC12 HN11.out.size
      have HD12 : Hid (PDisk (Gr Fl w11 w12) w12 d S12 ∧ Sees S12 V ∧ S12.free) := ⟨J.jp_disk hJ12, J.jp_sees hJ12, hf12⟩
      clear hJ12 hf12 hC12 hw12 HT11 HN11 HOr Hw11 HI
      generalize Gr Fl w11 w12 = Fm at *
      have HE : Hid (E = 0 ∨ E = 8) := HV.out.2.2.imp (fun h => h.1) (fun h => h.1)
      obtain ⟨gs, hgs⟩ : ∃ gs : List Gp, gs = [⟨a1, n1, c1, l1⟩, ⟨a2, n2, c2, l2⟩] := ⟨_, rfl⟩
      have HGs : Hid (Gps (w12.alloc (.cells #[.slice a1 n1 c1, .slice a2 n2 c2] 33)) (some ⟨w12.heap.size, 0, none⟩) gs ∧ gs.length = 2) := by
        rw [hgs]
        exact ⟨two_gps w12 a1 a2 n1 c1 n2 c2 l1 l2 H1.out.1 H2.out.1 H1.out.2.1 H2.out.2.1 (H1.out.2.2.on HN12.out) (H2.out.2.2.on HN12.out), rfl⟩
      have hb13 : Below w12.heap.size w12 (w12.alloc (.cells #[.slice a1 n1 c1, .slice a2 n2 c2] 33)) := (Below.refl _ _).alloc (Nat.le_refl _) _
      have HN13 : Hid (Below W.heap.size W (w12.alloc (.cells #[.slice a1 n1 c1, .slice a2 n2 c2] 33))) := HN12.out.trans (hb13.mono HN12.out.size)
      have HT13 : Hid (Refs W.heap.size (w12.alloc (.cells #[.slice a1 n1 c1, .slice a2 n2 c2] 33)) Fm F1 F3 r R1 r2 R2) := HT12.out.inside hb13
      have HD13 : Hid (PDisk Fm (w12.alloc (.cells #[.slice a1 n1 c1, .slice a2 n2 c2] 33)) d S12 ∧ Sees S12 V ∧ S12.free) := ⟨HD12.out.1.keep (fun k hk => hb13.block k (HT12.out.j k hk).2), HD12.out.2⟩
      have Hfl : Hid ((filesOf (at_ S12.l)).length ≤ 1000000) := by
        show (filesOf (at_ S12.l)).length ≤ 1000000
        rcases HV.out.2.1 with e | e
        · have := sees_len HD12.out.2.1 (by rw [e]; exact HV1.out.2.2.1)
          rw [e] at this
          have := HV1.out.2.2.2
          omega
        · have := sees_len HD12.out.2.1 (by rw [e]; exact HV2.out.2.2.1)
          rw [e] at this
          have := HV2.out.2.2.2
          omega
      have Ho : S12.out = false := HD12.out.2.2.1
      have Hdone : Hid (V = R2.l → wholeB S12 R2 gs = true) := fun e => whole_true (by rw [← e]; exact HD12.out.2.1) HV2.out.2.2.1 Ho HV2.out.2.1.1 gs
      have Hkept : Hid (V = R1.l → wholeB S12 R1 gs = true) := fun e => whole_true (by rw [← e]; exact HD12.out.2.1) HV1.out.2.2.1 Ho HV1.out.2.1.1 gs
      have Hor : Hid ((E = 0 ∧ wholeB S12 R2 gs = true) ∨ (E = 8 ∧ (wholeB S12 R1 gs = true ∨ (wholeB S12 R2 gs = true ∧ S11.writes ≠ S8.writes)))) := by
        rcases HV.out.2.2 with ⟨e, h⟩ | ⟨e, h⟩
        · exact Or.inl ⟨e, Hdone.out h⟩
        · refine Or.inr ⟨e, ?_⟩
          rcases HV.out.2.1 with h1 | h1
          · exact Or.inl (Hkept.out h1)
          · rcases h with h | h
            · exact Or.inl (Hkept.out h)
            · exact Or.inr ⟨Hdone.out h1, h⟩
      clear HN12 HT12 HD12 hb13 hgs HV1 HV2 HV Hdone Hkept Ho
      have key : ∀ (Q : Prop), (E = 0 → Q) → (E = 8 → Q) → Q := fun Q h1 h2 => HE.out.elim h1 h2
      refine key _ (fun hE => ?_) (fun hE => ?_)
      · subst hE
        go_upto_region 23 with fail
        generalize w12.heap.size = X at *
        generalize w12.alloc (.cells #[.slice a1 n1 c1, .slice a2 n2 c2] 33) = w13 at *
        go_wp2_with fail
        refine (whole_c Fm F1 d r S12 R1 (some ⟨X, 0, none⟩) 2 2 gs w13 w13 HGs.out.2 (by decide) HGs.out.1 (Below.refl _ _) HD13.out.1 (fun k hk => (HT13.out.j k hk).2) HT13.out.a (fun k hk => (HT13.out.fa k hk).2.1) Hfl.out).mono ?_
        rintro e w14 ⟨rfl, hb14⟩
        have HN14 : Hid (Below W.heap.size W w14) := HN13.out.trans (hb14.mono HN13.out.size)
        have HT14 : Hid (Refs W.heap.size w14 Fm F1 F3 r R1 r2 R2) := HT13.out.inside hb14
        have HD14 : Hid (PDisk Fm w14 d S12) := HD13.out.1.keep (fun k hk => hb14.block k (HT13.out.j k hk).2)
        have HB14 : Hid (Below w13.heap.size w13 w14) := hb14
        clear hb14
        go_wp2_with fail
        refine (whole_c Fm F3 d r2 S12 R2 (some ⟨X, 0, none⟩) 2 2 gs w13 w14 HGs.out.2 (by decide) HGs.out.1 HB14.out HD14.out (fun k hk => (HT14.out.j k hk).2) HT14.out.b (fun k hk => (HT14.out.fb k hk).2.1) Hfl.out).mono ?_
        rintro e w15 ⟨rfl, hb15⟩
        have hd : wholeB S12 R2 gs = true := by
          rcases Hor.out with ⟨_, h⟩ | ⟨h, _⟩
          · exact h
          · omega
        rw [hd]
        have R := HP.out w15 (HN14.out.trans (hb15.mono HN14.out.size))
        clear HP hb15 HN14 HT14 HD14 HB14 HN13 HT13 HD13 HGs Hor Hfl key
        go_wp2
        exact R
      · subst hE
        go_upto_region 23 with fail
        generalize w12.heap.size = X at *
        generalize w12.alloc (.cells #[.slice a1 n1 c1, .slice a2 n2 c2] 33) = w13 at *
        go_wp2_with fail
        refine (whole_c Fm F1 d r S12 R1 (some ⟨X, 0, none⟩) 2 2 gs w13 w13 HGs.out.2 (by decide) HGs.out.1 (Below.refl _ _) HD13.out.1 (fun k hk => (HT13.out.j k hk).2) HT13.out.a (fun k hk => (HT13.out.fa k hk).2.1) Hfl.out).mono ?_
        rintro e w14 ⟨rfl, hb14⟩
        have HN14 : Hid (Below W.heap.size W w14) := HN13.out.trans (hb14.mono HN13.out.size)
        have HT14 : Hid (Refs W.heap.size w14 Fm F1 F3 r R1 r2 R2) := HT13.out.inside hb14
        have HD14 : Hid (PDisk Fm w14 d S12) := HD13.out.1.keep (fun k hk => hb14.block k (HT13.out.j k hk).2)
        have HB14 : Hid (Below w13.heap.size w13 w14) := hb14
        clear hb14
        go_wp2_with fail
        refine (whole_c Fm F3 d r2 S12 R2 (some ⟨X, 0, none⟩) 2 2 gs w13 w14 HGs.out.2 (by decide) HGs.out.1 HB14.out HD14.out (fun k hk => (HT14.out.j k hk).2) HT14.out.b (fun k hk => (HT14.out.fb k hk).2.1) Hfl.out).mono ?_
        rintro e w15 ⟨rfl, hb15⟩
        have R := HP.out w15 (HN14.out.trans (hb15.mono HN14.out.size))
        have hd : wholeB S12 R1 gs = true ∨ (wholeB S12 R2 gs = true ∧ S11.writes ≠ S8.writes) := by
          rcases Hor.out with ⟨h, _⟩ | ⟨_, h⟩
          · omega
          · exact h
        clear HP hb15 HN14 HT14 HD14 HB14 HN13 HT13 HD13 HGs Hor Hfl key
        generalize wholeB S12 R1 gs = v1 at *
        generalize wholeB S12 R2 gs = v2 at *
        cases v1 with
        | true =>
          clear hd
          go_wp2
          exact R
        | false =>
          obtain ⟨rfl, hne⟩ : v2 = true ∧ S11.writes ≠ S8.writes := by
            rcases hd with h | h
            · cases h
            · exact h
          have eb : (S11.writes == S8.writes) = false := beq_eq_false_iff_ne.2 hne
          clear hd
          go_wp2
          exact R
    · have t2 : (m2 != 0) = true := bne_iff_ne.2 z2
      subst z1
      clear HP HD1 HN1 HM1 HM2 H1 H2 HI
      go_wp2
      exact R1
  · have t1 : (m1 != 0) = true := bne_iff_ne.2 z1
    clear HP HD1 HN1 HM1 HM2 H1 H2 HI
    go_wp2
    exact R1
end Go.Proofs.Ytjkeejbfipmidaa
