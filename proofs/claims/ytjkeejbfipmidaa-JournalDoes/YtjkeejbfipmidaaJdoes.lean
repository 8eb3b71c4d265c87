/-
  JournalDoes: the walk, over what is asked of a journal.
-/
import Derived.Test.YtjkeejbfipmidaaJonly
import Derived.HandedShaped
set_option maxRecDepth 20000
namespace Go.Proofs.Ytjkeejbfipmidaa
open Go.RowKit

/-- Just blocks from lo to hi are others. -/
structure Mid (lo hi : Nat) (w w' : World) : Prop where
  os : w'.os = w.os
  tape : w'.tape = w.tape
  output : w'.output = w.output
  size : w'.heap.size = w.heap.size
  block : ∀ k, ¬ (lo ≤ k ∧ k < hi) → w'.heap[k]? = w.heap[k]?
theorem Mid.refl (lo hi : Nat) (w : World) : Mid lo hi w w := ⟨rfl, rfl, rfl, rfl, fun _ _ => rfl⟩
theorem Mid.set {lo hi : Nat} {w w' : World} (h : Mid lo hi w w') {g : Nat} (hg : lo ≤ g ∧ g < hi) (k : Nat) (v : Value) : Mid lo hi w (w'.setCell ⟨g, k, none⟩ v) :=
  ⟨h.os, h.tape, h.output, by rw [World.size_setCell]; exact h.size, fun j hj => (Below.heap_setCell w' ⟨g, k, none⟩ v j (fun e => hj (e ▸ hg))).trans (h.block j hj)⟩
theorem Mid.drew {lo hi : Nat} {w w' : World} (h : Mid lo hi w w') : Mid lo hi w w'.drew := ⟨h.os, h.tape, h.output, h.size, h.block⟩
theorem Mid.below {lo hi B : Nat} {w w' : World} (h : Mid lo hi w w') (hB : B ≤ lo) : Below B w w' := ⟨h.os, h.tape, h.output, Nat.le_of_eq h.size.symm, fun k hk => h.block k (by omega)⟩
theorem Refs.mid {B lo hi : Nat} {w w' : World} {Fj F1 : Nat → Prop} {r : Nat} {R : St} (h : Refs B w Fj F1 F1 r R r R) (hM : Mid lo hi w w') (ha : ∀ k, F1 k → ¬ (lo ≤ k ∧ k < hi)) : Refs B w' Fj F1 F1 r R r R := by
  have hs := hM.size
  have hk := h.a.keep (fun k hk => hM.block k (ha k hk))
  exact ⟨fun k hk => by have := h.j k hk; omega, hk, hk, fun k hk => ⟨(h.fa k hk).1, by rw [hs]; exact (h.fa k hk).2.1, (h.fa k hk).2.2⟩, fun k hk => ⟨(h.fa k hk).1, by rw [hs]; exact (h.fa k hk).2.1, (h.fa k hk).2.2⟩⟩
/-- A group of the law's own whose bytes may be any. -/
def Soft (lo hi : Nat) (a : Option Addr) (l : List Pt) (w : World) : Prop :=
  ∀ k (h : k < l.length), ∃ b, a = some ⟨b, 0, none⟩ ∧ lo ≤ b ∧ b < hi ∧ w.cell? ⟨b, k * 5 + 4, none⟩ = some (.slice l[k].a l[k].n l[k].c) ∧
    ∀ m, m < l[k].n → ∃ g, l[k].a = some ⟨g, 0, none⟩ ∧ lo ≤ g ∧ g < hi ∧ g ≠ b ∧ (∃ z, w.cell? ⟨g, m, none⟩ = some (.int .u8 z)) ∧ w.frozen? ⟨g, m, none⟩ = false
theorem Soft.keep {lo hi : Nat} {a : Option Addr} {l : List Pt} {w w' : World} (h : Soft lo hi a l w) (he : ∀ k, lo ≤ k → k < hi → w'.heap[k]? = w.heap[k]?) : Soft lo hi a l w' := fun k hk => by
  obtain ⟨b, e, h1, h2, hc, hm⟩ := h k hk
  refine ⟨b, e, h1, h2, by rw [← hc]; exact World.cell?_of_block (a := ⟨b, k * 5 + 4, none⟩) (he b h1 h2), fun m hmn => ?_⟩
  obtain ⟨g, e2, g1, g2, g3, ⟨z, hz⟩, hf⟩ := hm m hmn
  exact ⟨g, e2, g1, g2, g3, ⟨z, by rw [← hz]; exact World.cell?_of_block (a := ⟨g, m, none⟩) (he g g1 g2)⟩, by rw [← hf]; exact World.frozen?_of_block (a := ⟨g, m, none⟩) (he g g1 g2)⟩
theorem Soft.set {lo hi : Nat} {b : Nat} {l : List Pt} {w : World} (h : Soft lo hi (some ⟨b, 0, none⟩) l w) {g : Nat} (hg : g ≠ b) (m : Nat) (z : Int) : Soft lo hi (some ⟨b, 0, none⟩) l (w.setCell ⟨g, m, none⟩ (.int .u8 z)) := fun k hk => by
  obtain ⟨b', e, h1, h2, hc, hm⟩ := h k hk
  have eb : b = b' := by simpa using e
  subst eb
  refine ⟨b, rfl, h1, h2, by rw [← hc]; exact World.cell?_setCell_far w ⟨g, m, none⟩ ⟨b, k * 5 + 4, none⟩ _ hg, fun x hx => ?_⟩
  obtain ⟨g', e2, g1, g2, g3, hz, hf⟩ := hm x hx
  exact ⟨g', e2, g1, g2, g3, someInt_setCell hz _ _, by rw [World.frozen?_setCell]; exact hf⟩
theorem Cp.soft {w : World} {lo : Nat} {a : Option Addr} {c : Nat} {l : List Pt} (h : Cp w lo a c l) : Soft lo w.heap.size a l w := fun k hk => by
  have hp := h.puts k hk
  rcases h.rowb with ⟨_, e⟩ | ⟨b, rfl, h1, h2⟩
  · omega
  obtain ⟨b', off, e, hP⟩ := hp
  have e' : b = b' ∧ off = 0 := by simp only [Option.some.injEq, Addr.mk.injEq] at e; exact ⟨e.1, e.2.1.symm⟩
  obtain ⟨rfl, rfl⟩ := e'
  obtain ⟨hO, hK⟩ := h.own k hk
  refine ⟨b, rfl, h1, h2, by have := hP.c4; rwa [Nat.zero_add] at this, fun m hm => ?_⟩
  rcases hO.parts with ⟨_, _, e0⟩ | ⟨g, e0, g1, g2, hc, hf, _⟩
  · have := hK.n
    rw [e0] at this
    simp at this
    omega
  · exact ⟨g, e0, g1, g2, fun e2 => h.apart k hk g e0 (by rw [e2]), ⟨_, hc m (by rw [hK.n]; exact hm)⟩, hf m⟩

set_option maxHeartbeats 8000000 in
theorem journalDoes_walk (J : JSpec) (hAw : AwakeSays) (a : Option Addr) (len cap : Nat) (anew : Bool) (ls : List Gp) (W : World) (hl : ls.length = len) (hle : len ≤ maxLen) (hG : Gps W a ls) :
    Calls Try.prog 3 #[.slice a len cap, .bool anew] W fun e W' => e = .returned (.bool true) ∧ Below W.heap.size W W' := by
  obtain ⟨Post, hPost⟩ : ∃ Post : Ending → World → Prop, Post = fun e w' => e = .returned (.bool true) ∧ Below W.heap.size W w' := ⟨_, rfl⟩
  rw [← hPost]
  have HP : Hid (∀ w', Below W.heap.size W w' → Post (.returned (.bool true)) w') := fun w' h => by rw [hPost]; exact ⟨rfl, h⟩
  clear hPost
  have HG : Hid (ls.length = len ∧ len ≤ maxLen ∧ Gps W a ls) := ⟨hl, hle, hG⟩
  clear hl hle hG
  go_enter Try.func3, Try.ntmps3
  go_wp2_with fail
  refine (hAw W).mono ?_
  rintro e w0 ⟨rfl, hb0⟩
  have HN0 : Hid (Below W.heap.size W w0) := hb0
  clear hb0
  go_wp2_with fail
  refine (small_c a len cap ls w0 HG.out.1 (HG.out.2.2.on HN0.out)).mono ?_
  rintro e w0' ⟨ok, rfl, hok, hw⟩
  replace hw := hw.symm
  subst hw
  go_wp2_with fail
  refine (new_c w0).mono ?_
  rintro e w1 ⟨⟨d, F, rfl, hD1, hF1, hF2⟩, hb1⟩
  have HN1 : Hid (Below W.heap.size W w1) := HN0.out.trans (hb1.mono HN0.out.size)
  have HD1 : Hid (PDisk F w1 d St.new ∧ (∀ k, F k → W.heap.size ≤ k) ∧ ∀ k, F k → k < w1.heap.size) := ⟨hD1, fun k hk => Nat.le_trans HN0.out.size (hF1 k hk), hF2⟩
  clear hD1 hF1 hF2 hb1 HN0
  cases ok with
  | false =>
    have R := HP.out w1 HN1.out
    clear HP HD1 HN1 HG
    go_wp2
    exact R
  | true =>
  obtain ⟨hlen, htot⟩ := hok rfl
  clear hok
  go_wp2_with fail
  refine (rnew_c w1).mono ?_
  rintro e w2 ⟨⟨r, F1, rfl, hR1, hR2, hR3⟩, hb2⟩
  have HN2 : Hid (Below W.heap.size W w2) := HN1.out.trans (hb2.mono HN1.out.size)
  have HD2 : Hid (PDisk F w2 d St.new ∧ Refs W.heap.size w2 F F1 F1 r St.new r St.new) := by
    have hfa : ∀ k, F1 k → W.heap.size ≤ k ∧ k < w2.heap.size ∧ ¬ F k := fun k hk => by
      have := hR2 k hk
      have := HN1.out.size
      exact ⟨by omega, hR3 k hk, fun hf => by have := HD1.out.2.2 k hf; omega⟩
    exact ⟨HD1.out.1.keep (fun k hk => hb2.block k (HD1.out.2.2 k hk)), ⟨fun k hk => ⟨HD1.out.2.1 k hk, by have := HD1.out.2.2 k hk; have := hb2.size; omega⟩, hR1, hR1, hfa, hfa⟩⟩
  clear hR1 hR2 hR3 hb2 HD1 HN1
  go_wp2_with fail
  refine (J.open_ F d St.new [] w2 HD2.out.1 (fun k hk => (HD2.out.2.j k hk).2) J.new (by decide)).mono ?_
  rintro _ w3 ⟨S3, jv, E, rfl, hC3, hw3, hst3, hor⟩
  rcases hor with ⟨rfl, j0, rfl, hJ3⟩ | ⟨_, h, _⟩
  rotate_left
  · exact absurd new_free h
  have HN3 : Hid (Below W.heap.size W w3) := HN2.out.trans (hC3.below (fun k hk => (HD2.out.2.j k hk).1) HN2.out.size)
  have HA3 : Hid (∃ Fk F1 S R, J.JP Fk w3 j0 d S R.l ∧ S.free ∧ Refs W.heap.size w3 Fk F1 F1 r R r R ∧ Ran R (total (ls.take 0)) ∧ S.writes ≤ 2000 + (0 : Nat) * 4000) := ⟨_, F1, S3, St.new, hJ3, hst3.free new_free, HD2.out.2.chg hC3 HN2.out.size, Ran.new, by have : St.new.writes = 0 := rfl; omega⟩
  clear hJ3 hC3 hw3 hst3 HD2 HN2
  go_wp2
  go_loopw [9, 10, 11] (fun v9 v10 v11 wr => ∃ (i j : Nat), i ≤ len ∧ v11 = .int .i64 (i : Int) ∧ v10 = .int .i64 0 ∧ v9 = .pointer (some ⟨j, 0, none⟩) ∧ Hid (∃ Fk F1 S R, J.JP Fk wr j d S R.l ∧ S.free ∧ Refs W.heap.size wr Fk F1 F1 r R r R ∧ Ran R (total (ls.take i)) ∧ S.writes ≤ 2000 + (i : Int) * 4000) ∧ Hid (Below W.heap.size W wr)) (fun _ _ v11 _ => len - (intOf v11).toNat)
  case atStart => exact ⟨0, j0, Nat.zero_le _, rfl, rfl, rfl, HA3.out, HN3.out⟩
  case round =>
    clear HA3 HN3
    obtain ⟨i, j, hi, rfl, rfl, rfl, HA, HN⟩ := hrel
    obtain ⟨wo, hwo⟩ : ∃ wo, wo = wr := ⟨_, rfl⟩
    subst hwo
    obtain ⟨Fk, F2, S, R, hJ0, hf0, hT0, hR0, hw0⟩ := HA.out
    have HJ : Hid (J.JP Fk wo j d S R.l ∧ S.free) := ⟨hJ0, hf0⟩
    have HT : Hid (Refs W.heap.size wo Fk F2 F2 r R r R) := hT0
    have HR : Hid (Ran R (total (ls.take i))) := hR0
    clear hJ0 hf0 hT0 hR0 HA
    by_cases htl : i < len
    · have htl' : (i : Int) < len := by omega
      have htk : i < ls.length := by rw [HG.out.1]; exact htl
      obtain ⟨b, off, rfl, hOW⟩ := HG.out.2.2 i htk
      have Htt : Hid (total (ls.take (i + 1)) = total (ls.take i) + ls[i].n ∧ total (ls.take (i + 1)) ≤ 1000) := ⟨total_take ls i htk, Nat.le_trans (total_mono ls (i + 1)) htot⟩
      generalize ls[i] = g at hOW Htt
      obtain ⟨ga, gn, gc, gl⟩ := g
      simp only at Htt
      have HO : Hid (GpAt W b off i ⟨ga, gn, gc, gl⟩) := hOW
      have c0 : wo.cell? ⟨b, off + i, none⟩ = some (.slice ga gn gc) := (hOW.on HN.out).c0
      have hgn : gn ≤ 1000 := by have := Htt.out; omega
      clear hOW htk HP
      go_wp2_with fail
      refine (copied_c ga gn gc gl W wo HO.out.len HO.out.puts HN.out (by omega)).mono ?_
      rintro e w5 ⟨b1, d1, k1, rfl, hk1, hcp1, hmap1, hb5⟩
      have HN5 : Hid (Below W.heap.size W w5) := HN.out.trans (hb5.mono HN.out.size)
      have HT5 : Hid (Refs W.heap.size w5 Fk F2 F2 r R r R) := HT.out.inside hb5
      have HJ5 : Hid (J.JP Fk w5 j d S R.l ∧ S.free) := ⟨J.jp_keep HJ.out.1 (fun k hk => hb5.block k (HT.out.j k hk).2), HJ.out.2⟩
      have Hk1 : Hid (k1.length = gn ∧ Puts w5 b1 k1 ∧ k1.map Pt.bk = gl.map Pt.bk) := ⟨hk1, hcp1.puts, hmap1⟩
      have HK1 : Hid (k1.length = gn) := hk1
      have hZ : ∀ x (h : x < k1.length), k1[x].n ≤ reachBytes := fun x h => (hcp1.own x h).2.sz
      obtain ⟨lo, hlo⟩ : ∃ lo, lo = wo.heap.size := ⟨_, rfl⟩
      obtain ⟨hi', hhi⟩ : ∃ hi', hi' = w5.heap.size := ⟨_, rfl⟩
      have Hlo : Hid (lo = wo.heap.size ∧ hi' = w5.heap.size ∧ lo ≤ hi' ∧ W.heap.size ≤ lo) := ⟨hlo, hhi, by rw [hlo, hhi]; exact hb5.size, by rw [hlo]; exact HN.out.size⟩
      have HS5 : Hid (Soft lo hi' b1 k1 w5) := by rw [hlo, hhi]; exact hcp1.soft
      have Hlow : Hid ((∀ k, Fk k → k < lo) ∧ ∀ k, F2 k → k < lo) := ⟨fun k hk => by rw [hlo]; exact (HT.out.j k hk).2, fun k hk => by rw [hlo]; exact (HT.out.fa k hk).2.1⟩
      clear hk1 hcp1 hmap1 hb5 HT HJ HN c0 hlo hhi
      go_wp2_with fail
      refine (J.group_ Fk j d S R.l b1 gn d1 k1 w5 HJ5.out.1 (fun k hk => (HT5.out.j k hk).2) Hk1.out.1 (by omega) Hk1.out.2.1 (by omega)).mono ?_
      rintro _ w6 ⟨S6, E, rfl, hC6, hw6, hst6, hor⟩
      rw [Hk1.out.2.2] at hor
      have HN6 : Hid (Below W.heap.size W w6) := HN5.out.trans (hC6.below (fun k hk => (HT5.out.j k hk).1) HN5.out.size)
      have HT6 : Hid (Refs W.heap.size w6 (Gr Fk w5 w6) F2 F2 r R r R) := HT5.out.chg hC6 HN5.out.size
      have HS6 : Hid (Soft lo hi' b1 k1 w6) := HS5.out.keep (fun k h1 h2 => hC6.block k (by rw [← Hlo.out.2.1]; exact h2) (fun hf => by have := Hlow.out.1 k hf; omega))
      have Hap : Hid ((∀ k, Gr Fk w5 w6 k → ¬ (lo ≤ k ∧ k < hi')) ∧ hi' ≤ w6.heap.size) := ⟨fun k hk => by
        rcases hk with h | h
        · have := Hlow.out.1 k h; omega
        · have := Hlo.out.2.1; omega, by rw [Hlo.out.2.1]; exact hC6.size⟩
      obtain ⟨m, hm⟩ : ∃ m, m = may (gl.map Pt.bk) := ⟨_, rfl⟩
      have HM : Hid (m = may (gl.map Pt.bk)) := hm
      have hEm : E = m ∧ S6.free ∧ ((m ≠ 0 ∧ J.JP (Gr Fk w5 w6) w6 j d S6 R.l) ∨ (m = 0 ∧ J.JP (Gr Fk w5 w6) w6 j d S6 (doAll R.l (gl.map Pt.bk)))) := by
        rw [← hm] at hor
        rcases hor with ⟨h1, h2, h3⟩ | ⟨h1, h2, _, h3⟩ | ⟨_, _, h, _⟩
        · exact ⟨h2, hst6.free HJ5.out.2, Or.inl ⟨h1, h3⟩⟩
        · exact ⟨by rw [h2, h1], hst6.free HJ5.out.2, Or.inr ⟨h1, h3⟩⟩
        · exact absurd HJ5.out.2 h
      obtain ⟨rfl, hf6, hJ6⟩ := hEm
      have HJ6 : Hid (S6.free ∧ ((E ≠ 0 ∧ J.JP (Gr Fk w5 w6) w6 j d S6 R.l) ∨ (E = 0 ∧ J.JP (Gr Fk w5 w6) w6 j d S6 (doAll R.l (gl.map Pt.bk))))) := ⟨hf6, hJ6⟩
      have hw6' : S6.writes ≤ 2000 + (i : Int) * 4000 + 2000 := by omega
      clear hf6 hJ6 hm hor hC6 hw6 hst6 HT5 HJ5 HN5 Hk1 HS5
      generalize Gr Fk w5 w6 = Fl at *
      have c6 : w6.cell? ⟨b, off + i, none⟩ = some (.slice ga gn gc) := (HO.out.on HN6.out).c0
      go_wp2_with fail
      refine (may_c ga gn gc gl w6 HO.out.len HO.out.le (HO.out.on HN6.out).puts).mono ?_
      rintro e w6' ⟨rfl, hw⟩
      replace hw := hw.symm
      subst hw
      rw [← HM.out]
      have key : ∀ (Q : Prop), (E = 0 → Q) → (E ≠ 0 → Q) → Q := fun Q h1 h2 => by
        by_cases h : E = 0
        · exact h1 h
        · exact h2 h
      refine key _ (fun hE => ?_) (fun hE => ?_)
      · subst hE
        clear key
        go_wp2_with fail
        refine (do_c F2 r R ga gn gc gl W w6 HO.out.len HO.out.puts HN6.out HT6.out.a (fun k hk => (HT6.out.fa k hk).1) (by
          have h1 := HR.out.len
          have h2 := HR.out.wr
          have h3 := Htt.out
          exact ⟨by omega, by omega⟩)).mono ?_
        rintro e w8 ⟨rfl, F3, hR7, hF7, hC7⟩
        have HN8 : Hid (Below W.heap.size W w8) := HN6.out.trans (hC7.below (fun k hk => (HT6.out.fa k hk).1) HN6.out.size)
        have HQ8 : Hid (∃ F3 R', J.JP Fl w8 j d S6 R'.l ∧ S6.free ∧ Refs W.heap.size w8 Fl F3 F3 r R' r R' ∧ Ran R' (total (ls.take (i + 1))) ∧ (∀ k, Fl k → ¬ (lo ≤ k ∧ k < hi')) ∧ ∀ k, F3 k → ¬ (lo ≤ k ∧ k < hi')) := by
          have hs := hC7.size
          have hs0 := HN6.out.size
          have hgb : ∀ b ∈ gl.map Pt.bk, badB b = false := (may_ok.1 HM.out.symm).1
          have hmore := HR.out.more hgb
          rw [List.length_map, HO.out.len, ← Htt.out.1] at hmore
          have hfa : ∀ k, F3 k → W.heap.size ≤ k ∧ k < w8.heap.size ∧ ¬ Fl k := fun k hk => by
            rcases hF7 k hk with h | h
            · have := HT6.out.fa k h
              exact ⟨this.1, by omega, this.2.2⟩
            · exact ⟨by omega, h.2, fun hf => by have := (HT6.out.j k hf).2; omega⟩
          refine ⟨F3, _, ?_, HJ6.out.1, ⟨fun k hk => by have := HT6.out.j k hk; omega, hR7, hR7, hfa, hfa⟩, hmore.1, Hap.out.1, fun k hk => ?_⟩
          · rw [hmore.2]
            rcases HJ6.out.2 with ⟨h, _⟩ | ⟨_, h⟩
            · exact absurd rfl h
            · exact J.jp_keep h (fun k hk => hC7.block k (HT6.out.j k hk).2 (fun hf => (HT6.out.fa k hf).2.2 hk))
          · rcases hF7 k hk with h | h
            · have := Hlow.out.2 k h; omega
            · have := Hap.out.2; omega
        have HS8 : Hid (Soft lo hi' b1 k1 w8) := HS6.out.keep (fun k h1 h2 => hC7.block k (by have := Hap.out.2; omega) (fun hf => by have := Hlow.out.2 k hf; omega))
        have HLO : Hid (W.heap.size ≤ lo) := Hlo.out.2.2.2
        have Hkn : Hid (k1.length = gn) := HK1.out
        have t0 : ((0 : Int) != 0) = false := rfl
        clear hR7 hF7 hC7 HT6 HJ6 HN6 HS6 Hap Hlow HO HM Htt HR Hlo c6
        go_wp2
        go_loopw [15] (fun v15 wr => ∃ (kk : Nat), kk ≤ gn ∧ v15 = .int .i64 (kk : Int) ∧ Hid (Soft lo hi' b1 k1 wr) ∧ Hid (Mid lo hi' w8 wr)) (fun v15 _ => gn - (intOf v15).toNat)
        case atStart => exact ⟨0, Nat.zero_le _, rfl, HS8.out, Mid.refl _ _ _⟩
        case round =>
          clear HS8
          obtain ⟨kk, hkk, rfl, HS, HMd⟩ := hrel
          obtain ⟨wk, hwk⟩ : ∃ wk, wk = wr := ⟨_, rfl⟩
          subst hwk
          by_cases hkt : kk < gn
          · have hkt' : (kk : Int) < gn := by omega
            have hkl : kk < k1.length := by rw [Hkn.out]; exact hkt
            obtain ⟨rb, rfl, hr1, hr2, hu1, hu2⟩ := HS.out kk hkl
            have HSk : Hid (∀ w', Soft lo hi' (some ⟨rb, 0, none⟩) k1 w' → w'.cell? ⟨rb, kk * 5 + 4, none⟩ = some (.slice k1[kk].a k1[kk].n k1[kk].c) ∧ ∀ m, m < k1[kk].n → ∃ g, k1[kk].a = some ⟨g, 0, none⟩ ∧ lo ≤ g ∧ g < hi' ∧ g ≠ rb ∧ (∃ z, w'.cell? ⟨g, m, none⟩ = some (.int .u8 z)) ∧ w'.frozen? ⟨g, m, none⟩ = false) := fun w' h => by
              obtain ⟨rb', e, _, _, h3, h4⟩ := h kk hkl
              cases e
              exact ⟨h3, h4⟩
            have hpn' : (k1[kk].n : Int) ≤ 9223372036854775807 := by have := hZ kk hkl; unfold reachBytes at this; omega
            generalize k1[kk] = pp at HSk hpn'
            obtain ⟨pf, pi, pa, pn, pc, pb⟩ := pp
            simp only at HSk hpn'
            clear hu1 hu2 hkl
            go_wp2
            go_loopw [16] (fun v16 wr => ∃ (nn : Nat), nn ≤ pn ∧ v16 = .int .i64 (nn : Int) ∧ Hid (Soft lo hi' (some ⟨rb, 0, none⟩) k1 wr) ∧ Hid (Mid lo hi' w8 wr)) (fun v16 _ => pn - (intOf v16).toNat)
            case atStart => exact ⟨0, Nat.zero_le _, rfl, HS.out, HMd.out⟩
            case round =>
              clear HS HMd
              obtain ⟨nn, hnn, rfl, HS, HMd⟩ := hrel
              obtain ⟨wn, hwn⟩ : ∃ wn, wn = wr := ⟨_, rfl⟩
              subst hwn
              obtain ⟨hc4, hby⟩ := HSk.out wn HS.out
              by_cases hnt : nn < pn
              · have hnt' : (nn : Int) < pn := by omega
                obtain ⟨g0, rfl, hg1, hg2, hg3, ⟨z0, hz0⟩, hfz⟩ := hby nn hnt
                clear hby HSk HQ8 HG HN8
                go_upto_region 24 with fail
                refine region_L (fun w' => Below wn.heap.size wn w') 16 (by kernel_rfl) ?_
                have x0 : wn.drew.cell? ⟨rb, kk * 5 + 4, none⟩ = some (.slice (some ⟨g0, 0, none⟩) pn pc) := hc4
                have c0 : wn.drew.cell? ⟨g0, nn, none⟩ = some (.int .u8 z0) := hz0
                have f0 : wn.drew.frozen? ⟨g0, nn, none⟩ = false := hfz
                have HNa : Hid (Below wn.heap.size wn wn.drew) := (Below.refl _ _).drew
                have HSa : Hid (Soft lo hi' (some ⟨rb, 0, none⟩) k1 wn.drew) := HS.out.keep (fun _ _ _ => rfl)
                have HMa : Hid (Mid lo hi' w8 wn.drew) := HMd.out.drew
                clear HS HMd
                generalize wn.drew = va at *
                have hHeld : (fun w' => Below wn.heap.size wn w') _ := HNa.out
                have hne : Nonempty (Sub (fun w' => Below wn.heap.size wn w')) := ⟨⟨_, hHeld⟩⟩
                have k0 : ∀ s : Sub (fun w' => Below wn.heap.size wn w'), s.w.cell? ⟨rb, kk * 5 + 4, none⟩ = some (.slice (some ⟨g0, 0, none⟩) pn pc) := fun s => cell_on s.ok hc4
                have k1' : ∀ s : Sub (fun w' => Below wn.heap.size wn w'), s.w.cell? ⟨g0, nn, none⟩ = some (.int .u8 z0) := fun s => cell_on s.ok hz0
                refine take_L (i := 0) rfl (by kernel_rfl) (by kernel_rfl) (by kernel_rfl) (by kernel_rfl) (fun _ _ _ _ h => h) (by exact hHeld) (fun K hK => ?_)
                go_simp
                refine hK _ ?_
                clear hK K
                refine take_L (i := 1) rfl (by kernel_rfl) (by kernel_rfl) (by kernel_rfl) (by kernel_rfl) (fun _ _ _ _ h => h) (by exact hHeld) (fun K hK => ?_)
                go_simp
                refine hK _ ?_
                clear hK K
                refine take_L (i := 2) rfl (by kernel_rfl) (by kernel_rfl) (by kernel_rfl) (by kernel_rfl) (fun _ _ _ _ h => h) (by exact hHeld) (fun K hK => ?_)
                go_simp
                refine hK _ ?_
                clear hK K
                refine take_L (i := 3) rfl (by kernel_rfl) (by kernel_rfl) (by kernel_rfl) (by kernel_rfl) (fun _ _ _ _ h => h) (by exact hHeld) (fun K hK => ?_)
                go_simp
                refine hK _ ?_
                clear hK K
                refine take_L (i := 4) rfl (by kernel_rfl) (by kernel_rfl) (by kernel_rfl) (by kernel_rfl) (fun _ _ _ _ h => h) (by exact hHeld) (fun K hK => ?_)
                go_simp
                refine hK _ ?_
                clear hK K
                refine take_L (i := 5) rfl (by kernel_rfl) (by kernel_rfl) (by kernel_rfl) (by kernel_rfl) (fun _ _ _ _ h => h) (by exact hHeld) (fun K hK => ?_)
                go_simp
                refine hK _ ?_
                clear hK K
                refine take_L (i := 6) rfl (by kernel_rfl) (by kernel_rfl) (by kernel_rfl) (by kernel_rfl) (fun _ _ _ _ h => h) (by exact hHeld) (fun K hK => ?_)
                go_simp
                refine hK _ ?_
                clear hK K
                refine take_L (i := 7) rfl (by kernel_rfl) (by kernel_rfl) (by kernel_rfl) (by kernel_rfl) (fun _ _ _ _ h => h) (by exact hHeld) (fun K hK => ?_)
                go_simp
                refine hK _ ?_
                clear hK K
                refine take_L (i := 8) rfl (by kernel_rfl) (by kernel_rfl) (by kernel_rfl) (by kernel_rfl) (fun _ _ _ _ h => h) (by exact hHeld) (fun K hK => ?_)
                go_simp
                refine hK _ ?_
                clear hK K
                refine take_L (i := 9) rfl (by kernel_rfl) (by kernel_rfl) (by kernel_rfl) (by kernel_rfl) (fun _ _ _ _ h => h) (by exact hHeld) (fun K hK => ?_)
                go_simp
                refine hK _ ?_
                clear hK K
                refine take_L (i := 10) rfl (by kernel_rfl) (by kernel_rfl) (by kernel_rfl) (by kernel_rfl) (fun _ _ _ _ h => h) (by exact hHeld) (fun K hK => ?_)
                go_simp
                refine hK _ ?_
                clear hK K
                refine take_L (i := 11) rfl (by kernel_rfl) (by kernel_rfl) (by kernel_rfl) (by kernel_rfl) (fun _ _ _ _ h => h) (by exact hHeld) (fun K hK => ?_)
                go_simp
                refine hK _ ?_
                clear hK K
                refine take_L (i := 12) rfl (by kernel_rfl) (by kernel_rfl) (by kernel_rfl) (by kernel_rfl) (fun _ _ _ _ h => h) (by exact hHeld) (fun K hK => ?_)
                go_simp
                refine hK _ ?_
                clear hK K
                refine take_L (i := 13) rfl (by kernel_rfl) (by kernel_rfl) (by kernel_rfl) (by kernel_rfl) (fun _ _ _ _ h => h) (by exact hHeld) (fun K hK => ?_)
                go_simp
                refine hK _ ?_
                clear hK K
                refine take_L (i := 14) rfl (by kernel_rfl) (by kernel_rfl) (by kernel_rfl) (by kernel_rfl) (fun _ _ _ _ h => h) (by exact hHeld) (fun K hK => ?_)
                go_simp
                refine hK _ ?_
                clear hK K
                refine take_L (i := 15) rfl (by kernel_rfl) (by kernel_rfl) (by kernel_rfl) (by kernel_rfl) (fun _ _ _ _ h => h) (by exact hHeld) (fun K hK => ?_)
                go_simp
                refine hK _ ?_
                clear hK K
                refine one_L (i := 16) (by kernel_rfl) rfl (fun K hK => ?_)
                go_simp
                refine hK.out _ _ (fun h => absurd rfl h) ?_
                clear hK K
                refine done_L (by kernel_rfl) ?_ _
                have HSn : Hid (∀ z, Soft lo hi' (some ⟨rb, 0, none⟩) k1 (va.setCell ⟨g0, nn, none⟩ (.int .u8 z))) := fun z => HSa.out.set hg3 nn z
                have HMn : Hid (∀ z, Mid lo hi' w8 (va.setCell ⟨g0, nn, none⟩ (.int .u8 z))) := fun z => HMa.out.set ⟨hg1, hg2⟩ nn _
                clear hHeld hne k0 k1' HSa HMa x0 c0 f0 HNa hc4 hz0 hfz
                go_wp2
                go_roundw
                case rel => exact ⟨nn + 1, by omega, by go_num, HSn.out _, HMn.out _⟩
                case measure => simp [intOf]; omega
              · have hnn' : nn = pn := by omega
                subst hnn'
                clear hby HSk HQ8 HG HN8
                go_wp2
                go_roundw
                case rel => exact ⟨kk + 1, by omega, by go_num, HS.out, HMd.out⟩
                case measure => simp [intOf]; omega
          · have hkk' : kk = gn := by omega
            subst hkk'
            obtain ⟨F3, R3, hJ8, hf8, hT8, hR8, ha1, ha2⟩ := HQ8.out
            have HNk : Hid (Below W.heap.size W wk) := HN8.out.trans (HMd.out.below HLO.out)
            have HTk : Hid (Refs W.heap.size wk Fl F3 F3 r R3 r R3) := hT8.mid HMd.out ha2
            have HJk : Hid (J.JP Fl wk j d S6 R3.l ∧ S6.free) := ⟨J.jp_keep hJ8 (fun k hk => HMd.out.block k (ha1 k hk)), hf8⟩
            have HRk : Hid (Ran R3 (total (ls.take (i + 1)))) := hR8
            clear hJ8 hf8 hT8 hR8 ha1 ha2 HQ8 HS HMd HN8
            cases anew with
            | false =>
              have HAk : Hid (∃ Fk F1 S R, J.JP Fk wk j d S R.l ∧ S.free ∧ Refs W.heap.size wk Fk F1 F1 r R r R ∧ Ran R (total (ls.take (i + 1))) ∧ S.writes ≤ 2000 + ((i + 1 : Nat) : Int) * 4000) := ⟨Fl, F3, S6, R3, HJk.out.1, HJk.out.2, HTk.out, HRk.out, by omega⟩
              clear HJk HTk HRk HG
              go_wp2
              go_roundw
              case rel => exact ⟨i + 1, j, by omega, by go_num, rfl, rfl, HAk.out, HNk.out⟩
              case measure => simp [intOf]; omega
            | true =>
              go_wp2_with fail
              refine (J.open_ Fl d S6 R3.l wk (J.jp_disk HJk.out.1) (fun k hk => (HTk.out.j k hk).2) (J.jp_rec HJk.out.1) (by omega)).mono ?_
              rintro _ wz ⟨Sz, jv, Ez, rfl, hCz, hwz, hstz, hor⟩
              rcases hor with ⟨rfl, jz, rfl, hJz⟩ | ⟨_, h, _⟩
              rotate_left
              · exact absurd HJk.out.2 h
              have HNz : Hid (Below W.heap.size W wz) := HNk.out.trans (hCz.below (fun k hk => (HTk.out.j k hk).1) HNk.out.size)
              have HAz : Hid (∃ Fk F1 S R, J.JP Fk wz jz d S R.l ∧ S.free ∧ Refs W.heap.size wz Fk F1 F1 r R r R ∧ Ran R (total (ls.take (i + 1))) ∧ S.writes ≤ 2000 + ((i + 1 : Nat) : Int) * 4000) := ⟨_, F3, Sz, R3, hJz, hstz.free HJk.out.2, HTk.out.chg hCz HNk.out.size, HRk.out, by omega⟩
              clear HJk HTk HRk HG hJz hCz hwz hstz HNk
              go_wp2
              go_roundw
              case rel => exact ⟨i + 1, jz, by omega, by go_num, rfl, rfl, HAz.out, HNz.out⟩
              case measure => simp [intOf]; omega
      · have te : (E == 0) = false := beq_eq_false_iff_ne.2 hE
        have HN8 : Hid (Below W.heap.size W w6) := HN6.out
        have HQ8 : Hid (∃ F3 R', J.JP Fl w6 j d S6 R'.l ∧ S6.free ∧ Refs W.heap.size w6 Fl F3 F3 r R' r R' ∧ Ran R' (total (ls.take (i + 1))) ∧ (∀ k, Fl k → ¬ (lo ≤ k ∧ k < hi')) ∧ ∀ k, F3 k → ¬ (lo ≤ k ∧ k < hi')) := by
          refine ⟨F2, R, ?_, HJ6.out.1, HT6.out, ⟨HR.out.free, HR.out.noj, by have := HR.out.len; have := Htt.out.1; omega, by have := HR.out.wr; have := Htt.out.1; omega⟩, Hap.out.1, fun k hk => by have := Hlow.out.2 k hk; omega⟩
          rcases HJ6.out.2 with ⟨_, h⟩ | ⟨h, _⟩
          · exact h
          · exact absurd h hE
        have HS8 : Hid (Soft lo hi' b1 k1 w6) := HS6.out
        have HLO : Hid (W.heap.size ≤ lo) := Hlo.out.2.2.2
        have Hkn : Hid (k1.length = gn) := HK1.out
        have t0 : (E != E) = false := by simp
        clear HT6 HJ6 HN6 HS6 Hap Hlow HO HM Htt HR Hlo c6 key
        go_wp2
        go_loopw [15] (fun v15 wr => ∃ (kk : Nat), kk ≤ gn ∧ v15 = .int .i64 (kk : Int) ∧ Hid (Soft lo hi' b1 k1 wr) ∧ Hid (Mid lo hi' w6 wr)) (fun v15 _ => gn - (intOf v15).toNat)
        case atStart => exact ⟨0, Nat.zero_le _, rfl, HS8.out, Mid.refl _ _ _⟩
        case round =>
          clear HS8
          obtain ⟨kk, hkk, rfl, HS, HMd⟩ := hrel
          obtain ⟨wk, hwk⟩ : ∃ wk, wk = wr := ⟨_, rfl⟩
          subst hwk
          by_cases hkt : kk < gn
          · have hkt' : (kk : Int) < gn := by omega
            have hkl : kk < k1.length := by rw [Hkn.out]; exact hkt
            obtain ⟨rb, rfl, hr1, hr2, hu1, hu2⟩ := HS.out kk hkl
            have HSk : Hid (∀ w', Soft lo hi' (some ⟨rb, 0, none⟩) k1 w' → w'.cell? ⟨rb, kk * 5 + 4, none⟩ = some (.slice k1[kk].a k1[kk].n k1[kk].c) ∧ ∀ m, m < k1[kk].n → ∃ g, k1[kk].a = some ⟨g, 0, none⟩ ∧ lo ≤ g ∧ g < hi' ∧ g ≠ rb ∧ (∃ z, w'.cell? ⟨g, m, none⟩ = some (.int .u8 z)) ∧ w'.frozen? ⟨g, m, none⟩ = false) := fun w' h => by
              obtain ⟨rb', e, _, _, h3, h4⟩ := h kk hkl
              cases e
              exact ⟨h3, h4⟩
            have hpn' : (k1[kk].n : Int) ≤ 9223372036854775807 := by have := hZ kk hkl; unfold reachBytes at this; omega
            generalize k1[kk] = pp at HSk hpn'
            obtain ⟨pf, pi, pa, pn, pc, pb⟩ := pp
            simp only at HSk hpn'
            clear hu1 hu2 hkl
            go_wp2
            go_loopw [16] (fun v16 wr => ∃ (nn : Nat), nn ≤ pn ∧ v16 = .int .i64 (nn : Int) ∧ Hid (Soft lo hi' (some ⟨rb, 0, none⟩) k1 wr) ∧ Hid (Mid lo hi' w6 wr)) (fun v16 _ => pn - (intOf v16).toNat)
            case atStart => exact ⟨0, Nat.zero_le _, rfl, HS.out, HMd.out⟩
            case round =>
              clear HS HMd
              obtain ⟨nn, hnn, rfl, HS, HMd⟩ := hrel
              obtain ⟨wn, hwn⟩ : ∃ wn, wn = wr := ⟨_, rfl⟩
              subst hwn
              obtain ⟨hc4, hby⟩ := HSk.out wn HS.out
              by_cases hnt : nn < pn
              · have hnt' : (nn : Int) < pn := by omega
                obtain ⟨g0, rfl, hg1, hg2, hg3, ⟨z0, hz0⟩, hfz⟩ := hby nn hnt
                clear hby HSk HQ8 HG HN8
                go_upto_region 24 with fail
                refine region_L (fun w' => Below wn.heap.size wn w') 16 (by kernel_rfl) ?_
                have x0 : wn.drew.cell? ⟨rb, kk * 5 + 4, none⟩ = some (.slice (some ⟨g0, 0, none⟩) pn pc) := hc4
                have c0 : wn.drew.cell? ⟨g0, nn, none⟩ = some (.int .u8 z0) := hz0
                have f0 : wn.drew.frozen? ⟨g0, nn, none⟩ = false := hfz
                have HNa : Hid (Below wn.heap.size wn wn.drew) := (Below.refl _ _).drew
                have HSa : Hid (Soft lo hi' (some ⟨rb, 0, none⟩) k1 wn.drew) := HS.out.keep (fun _ _ _ => rfl)
                have HMa : Hid (Mid lo hi' w6 wn.drew) := HMd.out.drew
                clear HS HMd
                generalize wn.drew = va at *
                have hHeld : (fun w' => Below wn.heap.size wn w') _ := HNa.out
                have hne : Nonempty (Sub (fun w' => Below wn.heap.size wn w')) := ⟨⟨_, hHeld⟩⟩
                have k0 : ∀ s : Sub (fun w' => Below wn.heap.size wn w'), s.w.cell? ⟨rb, kk * 5 + 4, none⟩ = some (.slice (some ⟨g0, 0, none⟩) pn pc) := fun s => cell_on s.ok hc4
                have k1' : ∀ s : Sub (fun w' => Below wn.heap.size wn w'), s.w.cell? ⟨g0, nn, none⟩ = some (.int .u8 z0) := fun s => cell_on s.ok hz0
                refine take_L (i := 0) rfl (by kernel_rfl) (by kernel_rfl) (by kernel_rfl) (by kernel_rfl) (fun _ _ _ _ h => h) (by exact hHeld) (fun K hK => ?_)
                go_simp
                refine hK _ ?_
                clear hK K
                refine take_L (i := 1) rfl (by kernel_rfl) (by kernel_rfl) (by kernel_rfl) (by kernel_rfl) (fun _ _ _ _ h => h) (by exact hHeld) (fun K hK => ?_)
                go_simp
                refine hK _ ?_
                clear hK K
                refine take_L (i := 2) rfl (by kernel_rfl) (by kernel_rfl) (by kernel_rfl) (by kernel_rfl) (fun _ _ _ _ h => h) (by exact hHeld) (fun K hK => ?_)
                go_simp
                refine hK _ ?_
                clear hK K
                refine take_L (i := 3) rfl (by kernel_rfl) (by kernel_rfl) (by kernel_rfl) (by kernel_rfl) (fun _ _ _ _ h => h) (by exact hHeld) (fun K hK => ?_)
                go_simp
                refine hK _ ?_
                clear hK K
                refine take_L (i := 4) rfl (by kernel_rfl) (by kernel_rfl) (by kernel_rfl) (by kernel_rfl) (fun _ _ _ _ h => h) (by exact hHeld) (fun K hK => ?_)
                go_simp
                refine hK _ ?_
                clear hK K
                refine take_L (i := 5) rfl (by kernel_rfl) (by kernel_rfl) (by kernel_rfl) (by kernel_rfl) (fun _ _ _ _ h => h) (by exact hHeld) (fun K hK => ?_)
                go_simp
                refine hK _ ?_
                clear hK K
                refine take_L (i := 6) rfl (by kernel_rfl) (by kernel_rfl) (by kernel_rfl) (by kernel_rfl) (fun _ _ _ _ h => h) (by exact hHeld) (fun K hK => ?_)
                go_simp
                refine hK _ ?_
                clear hK K
                refine take_L (i := 7) rfl (by kernel_rfl) (by kernel_rfl) (by kernel_rfl) (by kernel_rfl) (fun _ _ _ _ h => h) (by exact hHeld) (fun K hK => ?_)
                go_simp
                refine hK _ ?_
                clear hK K
                refine take_L (i := 8) rfl (by kernel_rfl) (by kernel_rfl) (by kernel_rfl) (by kernel_rfl) (fun _ _ _ _ h => h) (by exact hHeld) (fun K hK => ?_)
                go_simp
                refine hK _ ?_
                clear hK K
                refine take_L (i := 9) rfl (by kernel_rfl) (by kernel_rfl) (by kernel_rfl) (by kernel_rfl) (fun _ _ _ _ h => h) (by exact hHeld) (fun K hK => ?_)
                go_simp
                refine hK _ ?_
                clear hK K
                refine take_L (i := 10) rfl (by kernel_rfl) (by kernel_rfl) (by kernel_rfl) (by kernel_rfl) (fun _ _ _ _ h => h) (by exact hHeld) (fun K hK => ?_)
                go_simp
                refine hK _ ?_
                clear hK K
                refine take_L (i := 11) rfl (by kernel_rfl) (by kernel_rfl) (by kernel_rfl) (by kernel_rfl) (fun _ _ _ _ h => h) (by exact hHeld) (fun K hK => ?_)
                go_simp
                refine hK _ ?_
                clear hK K
                refine take_L (i := 12) rfl (by kernel_rfl) (by kernel_rfl) (by kernel_rfl) (by kernel_rfl) (fun _ _ _ _ h => h) (by exact hHeld) (fun K hK => ?_)
                go_simp
                refine hK _ ?_
                clear hK K
                refine take_L (i := 13) rfl (by kernel_rfl) (by kernel_rfl) (by kernel_rfl) (by kernel_rfl) (fun _ _ _ _ h => h) (by exact hHeld) (fun K hK => ?_)
                go_simp
                refine hK _ ?_
                clear hK K
                refine take_L (i := 14) rfl (by kernel_rfl) (by kernel_rfl) (by kernel_rfl) (by kernel_rfl) (fun _ _ _ _ h => h) (by exact hHeld) (fun K hK => ?_)
                go_simp
                refine hK _ ?_
                clear hK K
                refine take_L (i := 15) rfl (by kernel_rfl) (by kernel_rfl) (by kernel_rfl) (by kernel_rfl) (fun _ _ _ _ h => h) (by exact hHeld) (fun K hK => ?_)
                go_simp
                refine hK _ ?_
                clear hK K
                refine one_L (i := 16) (by kernel_rfl) rfl (fun K hK => ?_)
                go_simp
                refine hK.out _ _ (fun h => absurd rfl h) ?_
                clear hK K
                refine done_L (by kernel_rfl) ?_ _
                have HSn : Hid (∀ z, Soft lo hi' (some ⟨rb, 0, none⟩) k1 (va.setCell ⟨g0, nn, none⟩ (.int .u8 z))) := fun z => HSa.out.set hg3 nn z
                have HMn : Hid (∀ z, Mid lo hi' w6 (va.setCell ⟨g0, nn, none⟩ (.int .u8 z))) := fun z => HMa.out.set ⟨hg1, hg2⟩ nn _
                clear hHeld hne k0 k1' HSa HMa x0 c0 f0 HNa hc4 hz0 hfz
                go_wp2
                go_roundw
                case rel => exact ⟨nn + 1, by omega, by go_num, HSn.out _, HMn.out _⟩
                case measure => simp [intOf]; omega
              · have hnn' : nn = pn := by omega
                subst hnn'
                clear hby HSk HQ8 HG HN8
                go_wp2
                go_roundw
                case rel => exact ⟨kk + 1, by omega, by go_num, HS.out, HMd.out⟩
                case measure => simp [intOf]; omega
          · have hkk' : kk = gn := by omega
            subst hkk'
            obtain ⟨F3, R3, hJ8, hf8, hT8, hR8, ha1, ha2⟩ := HQ8.out
            have HNk : Hid (Below W.heap.size W wk) := HN8.out.trans (HMd.out.below HLO.out)
            have HTk : Hid (Refs W.heap.size wk Fl F3 F3 r R3 r R3) := hT8.mid HMd.out ha2
            have HJk : Hid (J.JP Fl wk j d S6 R3.l ∧ S6.free) := ⟨J.jp_keep hJ8 (fun k hk => HMd.out.block k (ha1 k hk)), hf8⟩
            have HRk : Hid (Ran R3 (total (ls.take (i + 1)))) := hR8
            clear hJ8 hf8 hT8 hR8 ha1 ha2 HQ8 HS HMd HN8
            cases anew with
            | false =>
              have HAk : Hid (∃ Fk F1 S R, J.JP Fk wk j d S R.l ∧ S.free ∧ Refs W.heap.size wk Fk F1 F1 r R r R ∧ Ran R (total (ls.take (i + 1))) ∧ S.writes ≤ 2000 + ((i + 1 : Nat) : Int) * 4000) := ⟨Fl, F3, S6, R3, HJk.out.1, HJk.out.2, HTk.out, HRk.out, by omega⟩
              clear HJk HTk HRk HG
              go_wp2
              go_roundw
              case rel => exact ⟨i + 1, j, by omega, by go_num, rfl, rfl, HAk.out, HNk.out⟩
              case measure => simp [intOf]; omega
            | true =>
              go_wp2_with fail
              refine (J.open_ Fl d S6 R3.l wk (J.jp_disk HJk.out.1) (fun k hk => (HTk.out.j k hk).2) (J.jp_rec HJk.out.1) (by omega)).mono ?_
              rintro _ wz ⟨Sz, jv, Ez, rfl, hCz, hwz, hstz, hor⟩
              rcases hor with ⟨rfl, jz, rfl, hJz⟩ | ⟨_, h, _⟩
              rotate_left
              · exact absurd HJk.out.2 h
              have HNz : Hid (Below W.heap.size W wz) := HNk.out.trans (hCz.below (fun k hk => (HTk.out.j k hk).1) HNk.out.size)
              have HAz : Hid (∃ Fk F1 S R, J.JP Fk wz jz d S R.l ∧ S.free ∧ Refs W.heap.size wz Fk F1 F1 r R r R ∧ Ran R (total (ls.take (i + 1))) ∧ S.writes ≤ 2000 + ((i + 1 : Nat) : Int) * 4000) := ⟨_, F3, Sz, R3, hJz, hstz.free HJk.out.2, HTk.out.chg hCz HNk.out.size, HRk.out, by omega⟩
              clear HJk HTk HRk HG hJz hCz hwz hstz HNk
              go_wp2
              go_roundw
              case rel => exact ⟨i + 1, jz, by omega, by go_num, rfl, rfl, HAz.out, HNz.out⟩
              case measure => simp [intOf]; omega
    · obtain rfl : i = len := by omega
      have Hfl : Hid ((filesOf (at_ S.l)).length ≤ 1000000) := by
        have := sees_len (J.jp_sees HJ.out.1) HR.out.noj
        have := HR.out.len
        have := total_mono ls i
        show (filesOf (at_ S.l)).length ≤ 1000000
        omega
      go_wp2_with fail
      refine (whole_c Fk F2 d r S R _ i cap ls W wo HG.out.1 HG.out.2.1 HG.out.2.2 HN.out (J.jp_disk HJ.out.1) (fun k hk => (HT.out.j k hk).2) HT.out.a (fun k hk => (HT.out.fa k hk).2.1) Hfl.out).mono ?_
      rintro e w9 ⟨rfl, hb9⟩
      have hv : wholeB S R ls = true := whole_true (J.jp_sees HJ.out.1) HR.out.noj HJ.out.2.1 HR.out.free.1 ls
      rw [hv]
      have Rr := HP.out w9 (HN.out.trans (hb9.mono HN.out.size))
      clear HP hb9 HJ HT HR HN HG Hfl
      go_wp2
      exact Rr
end Go.Proofs.Ytjkeejbfipmidaa
