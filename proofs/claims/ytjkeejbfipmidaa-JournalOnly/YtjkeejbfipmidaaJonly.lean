/-
  JournalOnly: the walk, over what is asked of a journal.
-/
import Derived.Test.YtjkeejbfipmidaaJprefix
import Derived.BigQuiet
import Derived.Deep.DeepCutAuto
set_option maxRecDepth 20000
namespace Go.Proofs.Ytjkeejbfipmidaa
open Go.RowKit

/-- Files that groups name, none the journal's. -/
def Named (ls : List Gp) (V : List Bk) : Prop := ∀ b ∈ V, b.f.1 ≠ 1 ∧ ∃ k, ∃ h : k < ls.length, ∃ m, ∃ h2 : m < ls[k].l.length, ls[k].l[m].f = b.f
theorem Named.noj {ls : List Gp} {V : List Bk} (h : Named ls V) : NoJ V := fun b hb => (h b hb).1
theorem mem_doAll {V l : List Bk} {b : Bk} (h : b ∈ doAll V l) : b ∈ V ∨ ∃ c ∈ l, c.f = b.f := by
  induction l generalizing V with
  | nil => exact Or.inl h
  | cons c r ih =>
    rcases ih h with h1 | ⟨c', h1, h2⟩
    · rcases mem_put h1 with h3 | rfl
      · exact Or.inl h3
      · exact Or.inr ⟨c, List.mem_cons_self .., rfl⟩
    · exact Or.inr ⟨c', List.mem_cons_of_mem _ h1, h2⟩
theorem Named.more {ls : List Gp} {V : List Bk} (h : Named ls V) {k : Nat} (hk : k < ls.length) (hb : ∀ b ∈ ls[k].l.map Pt.bk, badB b = false) : Named ls (doAll V (ls[k].l.map Pt.bk)) := fun b hx => by
  rcases mem_doAll hx with h1 | ⟨c, hc, e⟩
  · exact h b h1
  · obtain ⟨p, hp, rfl⟩ := List.mem_map.1 hc
    obtain ⟨m, hm, rfl⟩ := List.mem_iff_getElem.1 hp
    exact ⟨by rw [← e]; exact (badB_false.1 (hb _ hc)).1, k, hk, m, hm, e⟩
/-- Every file of a disk is the journal's, or is named. -/
theorem sees_named {S : St} {V : List Bk} {ls : List Gp} (h : Sees S V) (hV : Named ls V) {f : Fl} (hf : f ∈ filesOf (at_ S.l)) : f = (1, 0, 0) ∨ ∃ k, ∃ h : k < ls.length, ∃ m, ∃ h2 : m < ls[k].l.length, ls[k].l[m].f = f := by
  obtain ⟨i, hi⟩ := (mem_files _ _).1 hf
  by_cases h1 : f.1 = 1
  · obtain ⟨b, hb, e⟩ := List.mem_map.1 hi
    cases e
    exact Or.inl (h.2 b hb h1)
  · have hh : has V f i ≠ none := by rw [← h.1 f i h1]; exact has_at.1 hi
    obtain ⟨b, hb, e⟩ := List.mem_map.1 (has_at.2 hh)
    cases e
    exact Or.inr (hV b hb).2
theorem eql38 (f g : Fl) (w : World) : (binOp .eql 38 (.agg #[.int .i64 f.1, .int .i64 f.2.1, .int .i64 f.2.2]) (.agg #[.int .i64 g.1, .int .i64 g.2.1, .int .i64 g.2.2])).run Try.prog w = .ok (.bool (decide (f = g))) w := by
  obtain ⟨a, b, c⟩ := f
  obtain ⟨x, y, z⟩ := g
  by_cases h1 : a = x
  · by_cases h2 : b = y
    · by_cases h3 : c = z
      · subst h1 h2 h3
        go_simp
      · subst h1 h2
        go_simp
    · subst h1
      go_simp
  · go_simp
/-- A journal, live or behind ErrDown, and what it has. -/
def Lives (J : JSpec) (Fk : Nat → Prop) (w : World) (j d : Nat) (S : St) (V : List Bk) : Prop := J.JP Fk w j d S V ∨ (J.JX Fk w j d S ∧ S.out = true ∧ J.Rec S V)
theorem Lives.disk {J : JSpec} {Fk : Nat → Prop} {w : World} {j d : Nat} {S : St} {V : List Bk} (h : Lives J Fk w j d S V) : PDisk Fk w d S ∧ J.Rec S V := by
  rcases h with h | ⟨h, _, h2⟩
  · exact ⟨J.jp_disk h, J.jp_rec h⟩
  · exact ⟨J.jx_disk h, h2⟩
theorem Lives.keep {J : JSpec} {Fk : Nat → Prop} {w w' : World} {j d : Nat} {S : St} {V : List Bk} (h : Lives J Fk w j d S V) (he : ∀ k, Fk k → w'.heap[k]? = w.heap[k]?) : Lives J Fk w' j d S V := by
  rcases h with h | ⟨h, h1, h2⟩
  · exact Or.inl (J.jp_keep h he)
  · exact Or.inr ⟨J.jx_keep h he, h1, h2⟩
/-- Group, whatever it answers. -/
theorem group_any (J : JSpec) (F : Nat → Prop) (j d : Nat) (S : St) (V : List Bk) (a : Option Addr) (n c : Nat) (l : List Pt) (w : World) (hL : Lives J F w j d S V) (hF : ∀ k, F k → k < w.heap.size) (hl : l.length = n) (hn : n ≤ 1000000) (hP : Puts w a l) (hw : S.writes ≤ 900000) (hm : may (l.map Pt.bk) = 0) :
    Calls Try.prog 14 #[.pointer (some ⟨j, 0, none⟩), .slice a n c] w fun e w' => ∃ E S' V', e = .returned (.int .i64 E) ∧ Chg F w w' ∧ S'.writes ≤ S.writes + 2000 ∧ Lives J (Gr F w w') w' j d S' V' ∧ (V' = V ∨ V' = doAll V (l.map Pt.bk)) := by
  rcases hL with hL | ⟨hL, ho, hR⟩
  · refine (J.group_ F j d S V a n c l w hL hF hl hn hP hw).mono ?_
    rintro _ w' ⟨S', E, rfl, hC, hw', _, hor⟩
    rcases hor with ⟨h, _⟩ | ⟨_, _, _, hJ⟩ | ⟨_, _, _, ho', hX, hr⟩
    · exact absurd hm h
    · exact ⟨E, S', _, rfl, hC, hw', Or.inl hJ, Or.inr rfl⟩
    · rcases hr with hr | ⟨_, hr⟩
      · exact ⟨E, S', _, rfl, hC, hw', Or.inr ⟨hX, ho', hr⟩, Or.inl rfl⟩
      · exact ⟨E, S', _, rfl, hC, hw', Or.inr ⟨hX, ho', hr⟩, Or.inr rfl⟩
  · refine (J.groupx_ F j d S a n c l w hL hF ho hl hn hP).mono ?_
    rintro _ w' ⟨E, rfl, _, hC, hX⟩
    exact ⟨E, S, V, rfl, hC, by omega, Or.inr ⟨hX, ho, hR⟩, Or.inl rfl⟩

set_option maxHeartbeats 8000000 in
theorem journalOnly_walk (J : JSpec) (hAw : AwakeSays) (a ca : Option Addr) (len cap cn cc : Nat) (n : Int) (ls : List Gp) (W : World) (hl : ls.length = len) (hle : len ≤ maxLen) (hG : Gps W a ls) (hn : I64 n) (hI : Ints (fun _ => False) W ca cn) (hcn : cn ≤ maxLen) :
    Calls Try.prog 6 #[.slice a len cap, .int .i64 n, .slice ca cn cc] W fun e W' => e = .returned (.bool true) ∧ Below W.heap.size W W' := by
  obtain ⟨Post, hPost⟩ : ∃ Post : Ending → World → Prop, Post = fun e w' => e = .returned (.bool true) ∧ Below W.heap.size W w' := ⟨_, rfl⟩
  rw [← hPost]
  have HP : Hid (∀ w', Below W.heap.size W w' → Post (.returned (.bool true)) w') := fun w' h => by rw [hPost]; exact ⟨rfl, h⟩
  clear hPost
  have HG : Hid (ls.length = len ∧ len ≤ maxLen ∧ Gps W a ls) := ⟨hl, hle, hG⟩
  have HI : Hid (Ints (fun _ => False) W ca cn ∧ cn ≤ maxLen) := ⟨hI, hcn⟩
  have hn1 := hn.1
  have hn2 := hn.2
  clear hl hle hG hI hcn hn
  go_enter Try.func6, Try.ntmps6
  go_wp2_with fail
  refine (hAw W).mono ?_
  rintro e w0 ⟨rfl, hb0⟩
  have HN0 : Hid (Below W.heap.size W w0) := hb0
  clear hb0
  go_wp2_with fail
  refine (small_c a len cap ls w0 HG.out.1 (HG.out.2.2.on HN0.out)).mono ?_
  rintro e w0' ⟨ok, rfl, hok, hw⟩
  replace hw := hw.symm
  subst hw
  go_wp2_with fail
  refine (new_c w0).mono ?_
  rintro e w1 ⟨⟨d, F, rfl, hD1, hF1, hF2⟩, hb1⟩
  have HN1 : Hid (Below W.heap.size W w1) := HN0.out.trans (hb1.mono HN0.out.size)
  have HD1 : Hid (PDisk F w1 d St.new ∧ (∀ k, F k → W.heap.size ≤ k) ∧ ∀ k, F k → k < w1.heap.size) := ⟨hD1, fun k hk => Nat.le_trans HN0.out.size (hF1 k hk), hF2⟩
  clear hD1 hF1 hF2 hb1 HN0
  cases ok with
  | false =>
    have R := HP.out w1 HN1.out
    clear HP HD1 HN1 HG HI
    go_wp2
    exact R
  | true =>
  obtain ⟨hlen, htot⟩ := hok rfl
  clear hok
  go_wp2
  go_loopw [10, 11] (fun v10 v11 wr => ∃ (i : Nat), i ≤ len ∧ v10 = .int .i64 (i : Int) ∧ wr = w1 ∧ Hid (∀ k (h : k < ls.length), k < i → may (ls[k].l.map Pt.bk) = 0)) (fun v10 _ _ => len - (intOf v10).toNat)
  case atStart => exact ⟨0, Nat.zero_le _, rfl, rfl, fun k h hk => absurd hk (Nat.not_lt_zero _)⟩
  case round =>
    obtain ⟨i, hi, rfl, rfl, HM⟩ := hrel
    by_cases hlt : i < len
    · have hlt' : (i : Int) < len := by omega
      have hil : i < ls.length := by rw [HG.out.1]; exact hlt
      obtain ⟨b, off, rfl, hO⟩ := (HG.out.2.2.on HN1.out) i hil
      have HMn : Hid (may (ls[i].l.map Pt.bk) = 0 → ∀ k (h : k < ls.length), k < i + 1 → may (ls[k].l.map Pt.bk) = 0) := fun h k hk hki => by
        by_cases e : k < i
        · exact HM.out k hk e
        · obtain rfl : k = i := by omega
          exact h
      generalize ls[i] = g at hO HMn
      obtain ⟨ga, gn, gc, gl⟩ := g
      have c0 : wr.cell? ⟨b, off + i, none⟩ = some (.slice ga gn gc) := hO.c0
      have HO : Hid (GpAt wr b off i ⟨ga, gn, gc, gl⟩) := hO
      have R := HP.out wr HN1.out
      clear hO hil HM HD1 HP HI
      go_wp2_with fail
      refine (may_c ga gn gc gl wr HO.out.len HO.out.le HO.out.puts).mono ?_
      rintro e w1' ⟨rfl, hw⟩
      replace hw := hw.symm
      subst hw
      try simp only at HMn
      generalize may (gl.map Pt.bk) = m at *
      by_cases z : m = 0
      · subst z
        have HM2 : Hid _ := HMn.out rfl
        clear HMn HO R HG
        go_wp2
        go_roundw
        case rel => exact ⟨i + 1, by omega, by go_num, trivial, HM2.out⟩
        case measure => simp [intOf]; omega
      · have t1 : (m != 0) = true := bne_iff_ne.2 z
        clear HMn HO HG
        go_wp2
        exact R
    · obtain rfl : i = len := by omega
      have HMs : Hid (∀ k (h : k < ls.length), may (ls[k].l.map Pt.bk) = 0) := fun k h => HM.out k h (by rw [← HG.out.1]; exact h)
      clear HM
      go_wp2_with fail
      refine (J.open_ F d St.new [] wr HD1.out.1 HD1.out.2.2 J.new (by decide)).mono ?_
      rintro _ w2 ⟨S2, jv, E, rfl, hC2, hw2, hst2, hor⟩
      rcases hor with ⟨rfl, j, rfl, hJ2⟩ | ⟨_, h, _⟩
      rotate_left
      · exact absurd new_free h
      have HN2 : Hid (Below W.heap.size W w2) := HN1.out.trans (hC2.below HD1.out.2.1 HN1.out.size)
      have HJ2 : Hid (J.JP (Gr F wr w2) w2 j d S2 [] ∧ (∀ k, Gr F wr w2 k → W.heap.size ≤ k ∧ k < w2.heap.size)) := ⟨hJ2, fun k hk => ⟨by rcases hk with h | h; exact HD1.out.2.1 k h; have := HN1.out.size; omega, Gr.lt HD1.out.2.2 hC2.size k hk⟩⟩
      have Hf2 : Hid (S2.writes ≤ 2000) := by have : St.new.writes = 0 := rfl; show S2.writes ≤ 2000; omega
      clear hJ2 hC2 hw2 hst2 HD1 HN1
      generalize Gr F wr w2 = Fj at *
      go_wp2_with fail
      refine (cut_c Fj d S2 n ⟨hn1, hn2⟩ w2 (J.jp_disk HJ2.out.1)).mono ?_
      rintro e w3 ⟨rfl, hD3, hO3⟩
      have hdF : Fj d := (J.jp_disk HJ2.out.1).inF
      have HN3 : Hid (Below W.heap.size W w3) := HN2.out.trans (hO3.below (HJ2.out.2 d hdF).1)
      have HJ3 : Hid (J.JP Fj w3 j d (S2.cut n) [] ∧ (∀ k, Fj k → W.heap.size ≤ k ∧ k < w3.heap.size)) := ⟨J.jp_cut HJ2.out.1 hO3 hD3, fun k hk => by have := HJ2.out.2 k hk; have := hO3.size; omega⟩
      have hw3 : (S2.cut n).writes ≤ 2000 := Hf2.out
      generalize S2.cut n = S3 at *
      clear hD3 hO3 hdF HJ2 HN2 Hf2
      have HA3 : Hid (∃ Fk S V, Lives J Fk w3 j d S V ∧ (∀ k, Fk k → W.heap.size ≤ k ∧ k < w3.heap.size) ∧ Named ls V ∧ V.length ≤ total (ls.take 0) ∧ S.writes ≤ 2000 + (0 : Nat) * 2000) := ⟨Fj, S3, [], Or.inl HJ3.out.1, HJ3.out.2, fun b hb => absurd hb (by simp), Nat.zero_le _, by omega⟩
      clear HJ3 hw3
      go_wp2
      go_loopw [14] (fun v14 wr => ∃ (t : Nat), t ≤ i ∧ v14 = .int .i64 (t : Int) ∧ Hid (∃ Fk S V, Lives J Fk wr j d S V ∧ (∀ k, Fk k → W.heap.size ≤ k ∧ k < wr.heap.size) ∧ Named ls V ∧ V.length ≤ total (ls.take t) ∧ S.writes ≤ 2000 + (t : Int) * 2000) ∧ Hid (Below W.heap.size W wr)) (fun v14 _ => i - (intOf v14).toNat)
      case atStart => exact ⟨0, Nat.zero_le _, rfl, HA3.out, HN3.out⟩
      case round =>
        clear HA3 HN3
        obtain ⟨t, ht, rfl, HA, HN⟩ := hrel
        obtain ⟨Fk, S, V, hJ0, hF0, hV0, hL0, hw0⟩ := HA.out
        have HJ : Hid (Lives J Fk wr j d S V ∧ ∀ k, Fk k → W.heap.size ≤ k ∧ k < wr.heap.size) := ⟨hJ0, hF0⟩
        have HV : Hid (Named ls V ∧ V.length ≤ total (ls.take t)) := ⟨hV0, hL0⟩
        clear hJ0 hF0 hV0 hL0 HA
        by_cases htl : t < i
        · have htl' : (t : Int) < i := by omega
          have htk : t < ls.length := by rw [HG.out.1]; exact htl
          obtain ⟨b, off, rfl, hOW⟩ := HG.out.2.2 t htk
          have HMt : Hid (may (ls[t].l.map Pt.bk) = 0) := HMs.out t htk
          have Htt : Hid (total (ls.take (t + 1)) = total (ls.take t) + ls[t].n ∧ total (ls.take (t + 1)) ≤ 1000) := ⟨total_take ls t htk, Nat.le_trans (total_mono ls (t + 1)) htot⟩
          have Hnm : Hid (Named ls (doAll V (ls[t].l.map Pt.bk)) ∧ (doAll V (ls[t].l.map Pt.bk)).length ≤ total (ls.take (t + 1))) := by
            refine ⟨HV.out.1.more htk (may_ok.1 HMt.out).1, ?_⟩
            have := doAll_len V (ls[t].l.map Pt.bk)
            rw [List.length_map, hOW.len] at this
            have := HV.out.2
            have := Htt.out.1
            omega
          generalize ls[t] = g at hOW HMt Htt Hnm
          obtain ⟨ga, gn, gc, gl⟩ := g
          simp only at HMt Htt Hnm
          have HO : Hid (GpAt W b off t ⟨ga, gn, gc, gl⟩) := hOW
          have c0 : wr.cell? ⟨b, off + t, none⟩ = some (.slice ga gn gc) := (hOW.on HN.out).c0
          have hgn : gn ≤ 1000 := by have := Htt.out; omega
          clear hOW htk HP
          go_wp2_with fail
          refine (copied_c ga gn gc gl W wr HO.out.len HO.out.puts HN.out (by omega)).mono ?_
          rintro e w5 ⟨b1, d1, k1, rfl, hk1, hcp1, hmap1, hb5⟩
          have HN5 : Hid (Below W.heap.size W w5) := HN.out.trans (hb5.mono HN.out.size)
          have HJ5 : Hid (Lives J Fk w5 j d S V ∧ ∀ k, Fk k → W.heap.size ≤ k ∧ k < w5.heap.size) := ⟨HJ.out.1.keep (fun k hk => hb5.block k (HJ.out.2 k hk).2), fun k hk => by have := HJ.out.2 k hk; have := hb5.size; omega⟩
          have Hk1 : Hid (k1.length = gn ∧ Puts w5 b1 k1 ∧ k1.map Pt.bk = gl.map Pt.bk) := ⟨hk1, hcp1.puts, hmap1⟩
          clear hk1 hcp1 hmap1 hb5 HJ HN c0
          go_wp2_with fail
          refine (group_any J Fk j d S V b1 gn d1 k1 w5 HJ5.out.1 (fun k hk => (HJ5.out.2 k hk).2) Hk1.out.1 (by omega) Hk1.out.2.1 (by omega) (by rw [Hk1.out.2.2]; exact HMt.out)).mono ?_
          rintro _ w6 ⟨E, S6, V6, rfl, hC6, hw6, hL6, hV6⟩
          rw [Hk1.out.2.2] at hV6
          have HN6 : Hid (Below W.heap.size W w6) := HN5.out.trans (hC6.below (fun k hk => (HJ5.out.2 k hk).1) HN5.out.size)
          have HA6 : Hid (∃ Fk S V, Lives J Fk w6 j d S V ∧ (∀ k, Fk k → W.heap.size ≤ k ∧ k < w6.heap.size) ∧ Named ls V ∧ V.length ≤ total (ls.take (t + 1)) ∧ S.writes ≤ 2000 + ((t + 1 : Nat) : Int) * 2000) := by
            refine ⟨Gr Fk w5 w6, S6, V6, hL6, fun k hk => ⟨?_, Gr.lt (fun k hk => (HJ5.out.2 k hk).2) hC6.size k hk⟩, ?_, ?_, by omega⟩
            · rcases hk with h | h
              · exact (HJ5.out.2 k h).1
              · have := HN5.out.size; omega
            · rcases hV6 with h | h
              · rw [h]; exact HV.out.1
              · rw [h]; exact Hnm.out.1
            · rcases hV6 with h | h
              · rw [h]; have := HV.out.2; have := Htt.out.1; omega
              · rw [h]; exact Hnm.out.2
          clear hC6 hw6 hL6 hV6 HJ5 HN5 Hk1 HV Hnm HMt Htt HO
          go_wp2
          go_roundw
          case rel => exact ⟨t + 1, by omega, by go_num, HA6.out, HN6.out⟩
          case measure => simp [intOf]; omega
        · obtain rfl : t = i := by omega
          clear HMs
          go_wp2_with fail
          refine (opened_c J Fk d S V ca cn cc wr HJ.out.1.disk.1 (fun k hk => (HJ.out.2 k hk).2) HJ.out.1.disk.2 (by omega) (fun k hk => ?_) HI.out.2).mono ?_
          · obtain ⟨b, off, x, e, hx, _, hc⟩ := HI.out.1 k hk
            have hlt := World.block_lt_of_cell? W _ hc
            exact ⟨b, off, x, e, hx, fun hf => by have := (HJ.out.2 b hf).1; simp only at hlt; omega, cell_on HN.out hc⟩
          rintro _ w8 ⟨j2, S8, rfl, hJ8, hf8, hC8, hw8⟩
          have HN8 : Hid (Below W.heap.size W w8) := HN.out.trans (hC8.below (fun k hk => (HJ.out.2 k hk).1) HN.out.size)
          have HD8 : Hid (PDisk (Gr Fk wr w8) w8 d S8) := J.jp_disk hJ8
          have HS8 : Hid (∀ f ∈ filesOf (at_ S8.l), f = (1, 0, 0) ∨ ∃ k, ∃ h : k < ls.length, ∃ m, ∃ h2 : m < ls[k].l.length, ls[k].l[m].f = f) := fun f hf => sees_named (J.jp_sees hJ8) HV.out.1 hf
          have Hfl : Hid ((filesOf (at_ S8.l)).length ≤ 1000000) := by
            have := sees_len (J.jp_sees hJ8) HV.out.1.noj
            have := HV.out.2
            have := total_mono ls t
            show (filesOf (at_ S8.l)).length ≤ 1000000
            omega
          clear hJ8 hf8 hC8 hw8 HJ HV HI HN
          go_wp2_with fail
          refine (pfiles_c _ d S8 w8 HD8.out).mono ?_
          rintro _ w9 ⟨fa, fn, fc, rfl, hF9, hb9⟩
          have HN9 : Hid (Below W.heap.size W w9) := HN8.out.trans (hb9.mono HN8.out.size)
          have HF9 : Hid (Fls w9 fa fn (filesOf (at_ S8.l))) := hF9
          have hfn : fn ≤ 1000000 := by rw [← hF9.n]; exact Hfl.out
          generalize filesOf (at_ S8.l) = fs at *
          have HG9 : Hid (Gps w9 a ls) := HG.out.2.2.on HN9.out
          have HP9 : Hid (∀ w', Below w9.heap.size w9 w' → Post (.returned (.bool true)) w') := fun w' h => HP.out w' (HN9.out.trans (h.mono HN9.out.size))
          clear hF9 hb9 HD8 HN8 Hfl HN9 HP
          go_wp2
          go_loopw [17] (fun v wr => ∃ (q : Nat), q ≤ fn ∧ v = .int .i64 (q : Int) ∧ Hid (Below w9.heap.size w9 wr)) (fun v _ => fn - (intOf v).toNat)
          case atStart => exact ⟨0, Nat.zero_le _, rfl, Below.refl _ _⟩
          case round =>
            obtain ⟨q, hq, rfl, Hb⟩ := hrel
            obtain ⟨wq, hwq⟩ : ∃ wq, wq = wr := ⟨_, rfl⟩
            subst hwq
            by_cases hqt : q < fn
            · have hqt' : (q : Int) < fn := by omega
              have hql : q < fs.length := by rw [HF9.out.n]; exact hqt
              obtain ⟨fb, fo, rfl, z0, z1, z2⟩ := (HF9.out.later Hb.out).cells q hql
              have HW : Hid (fs[q] = (1, 0, 0) ∨ ∃ k, ∃ h : k < ls.length, ∃ m, ∃ h2 : m < ls[k].l.length, ls[k].l[m].f = fs[q]) := HS8.out _ (List.getElem_mem hql)
              have HFq : Hid (∀ w', Below w9.heap.size w9 w' → w'.cell? ⟨fb, fo + q * 3, none⟩ = some (.int .i64 fs[q].1) ∧ w'.cell? ⟨fb, fo + q * 3 + 1, none⟩ = some (.int .i64 fs[q].2.1) ∧ w'.cell? ⟨fb, fo + q * 3 + 2, none⟩ = some (.int .i64 fs[q].2.2)) := fun w' h => by
                obtain ⟨fb', fo', e, y0, y1, y2⟩ := (HF9.out.later h).cells q hql
                cases e
                exact ⟨y0, y1, y2⟩
              generalize fs[q] = ff at *
              obtain ⟨g1, g2, g3⟩ := ff
              simp only at z0 z1 z2
              clear hql
              have HFr : Hid (∀ w', Below wq.heap.size wq w' → w'.cell? ⟨fb, fo + q * 3, none⟩ = some (.int .i64 g1) ∧ w'.cell? ⟨fb, fo + q * 3 + 1, none⟩ = some (.int .i64 g2) ∧ w'.cell? ⟨fb, fo + q * 3 + 2, none⟩ = some (.int .i64 g3)) := fun w' h => HFq.out w' (Hb.out.trans (h.mono Hb.out.size))
              clear HFq HF9
              go_upto_region 25 with fail
              go_cut [18] (fun v wc => ∃ nb : Bool, v = .bool nb ∧ wc = wq ∧ Hid ((g1, g2, g3) = ((1, 0, 0) : Fl) → nb = true))
              case first =>
                clear HW HFr HG9 HP9 Hb
                by_cases q1 : g1 = 1
                · by_cases q2 : g2 = 0
                  · by_cases q3 : g3 = 0
                    · subst q1 q2 q3
                      go_wp2
                      go_meet
                      case rel => exact ⟨true, rfl, rfl, fun _ => rfl⟩
                    · subst q1 q2
                      have eb : (g3 == 0) = false := beq_eq_false_iff_ne.2 q3
                      go_wp2
                      go_meet
                      case rel => exact ⟨false, rfl, rfl, fun h => absurd (by simpa using h) q3⟩
                  · subst q1
                    have eb : (g2 == 0) = false := beq_eq_false_iff_ne.2 q2
                    go_wp2
                    go_meet
                    case rel => exact ⟨false, rfl, rfl, fun h => absurd (by simp only [Prod.mk.injEq] at h; exact h.2.1) q2⟩
                · have eb : (g1 == 1) = false := beq_eq_false_iff_ne.2 q1
                  go_wp2
                  go_meet
                  case rel => exact ⟨false, rfl, rfl, fun h => absurd (by simp only [Prod.mk.injEq] at h; exact h.1) q1⟩
              case rest =>
              obtain ⟨nb, rfl, hwc, Hnb⟩ := hcut
              replace hwc := hwc.symm
              subst hwc
              clear z0 z1 z2
              obtain ⟨ka, ma, hkm⟩ : ∃ ka ma, nb = true ∨ (∃ h : ka < ls.length, ∃ h2 : ma < ls[ka].l.length, ls[ka].l[ma].f = (g1, g2, g3)) := by
                rcases HW.out with h | ⟨k, h, m, h2, e⟩
                · exact ⟨0, 0, Or.inl (Hnb.out h)⟩
                · exact ⟨k, m, Or.inr ⟨h, h2, e⟩⟩
              have Hkm : Hid (nb = true ∨ (∃ h : ka < ls.length, ∃ h2 : ma < ls[ka].l.length, ls[ka].l[ma].f = (g1, g2, g3))) := hkm
              have HGr : Hid (∀ w', Below wq.heap.size wq w' → Gps w' a ls) := fun w' h => HG9.out.on (Hb.out.trans (h.mono Hb.out.size))
              clear hkm HW Hnb
              go_wp2
              go_loopw [18, 19] (fun v18 v19 wa => ∃ (x : Nat) (nx : Bool), x ≤ t ∧ v19 = .int .i64 (x : Int) ∧ v18 = .bool nx ∧ Hid (nx = true ∨ (nb = false ∧ x ≤ ka)) ∧ Hid (Below wq.heap.size wq wa)) (fun _ v19 _ => t - (intOf v19).toNat)
              case atStart => exact ⟨0, nb, Nat.zero_le _, rfl, rfl, by cases nb; exact Or.inr ⟨rfl, Nat.zero_le _⟩; exact Or.inl rfl, Below.refl _ _⟩
              case round =>
                obtain ⟨x, nx, hx, rfl, rfl, Hnx, Hba⟩ := hrel
                obtain ⟨wa, hwa⟩ : ∃ wa, wa = wr := ⟨_, rfl⟩
                subst hwa
                by_cases hxt : x < t
                · have hxt' : (x : Int) < t := by omega
                  have hxl : x < ls.length := by rw [HG.out.1]; exact hxt
                  obtain ⟨b, off, rfl, hg0⟩ := HGr.out wa Hba.out x hxl
                  have Hgp : Hid (∀ w', Below wq.heap.size wq w' → GpAt w' b off x ls[x]) := fun w' h => by
                    obtain ⟨b', off', e, hh⟩ := HGr.out w' h x hxl
                    cases e
                    exact hh
                  have Hka : Hid (nb = false → x = ka → ∃ h2 : ma < ls[x].l.length, ls[x].l[ma].f = (g1, g2, g3)) := fun h0 e => by
                    subst e
                    rcases Hkm.out with h | ⟨h, h2, e⟩
                    · rw [h0] at h; cases h
                    · exact ⟨h2, e⟩
                  generalize ls[x] = gp at Hgp Hka
                  obtain ⟨ga, gn, gc, gl⟩ := gp
                  have Hgl : Hid (gl.length = gn) := (Hgp.out wa Hba.out).len
                  have hgn : (gn : Int) ≤ 9223372036854775807 := by have := (Hgp.out wa Hba.out).le; unfold maxLen at this; simp only at this; omega
                  clear hg0 hxl
                  go_wp2
                  go_loopw [18, 20] (fun v18 v20 wb => ∃ (y : Nat) (ny : Bool), y ≤ gn ∧ v20 = .int .i64 (y : Int) ∧ v18 = .bool ny ∧ Hid (ny = true ∨ (nb = false ∧ x ≤ ka ∧ (x = ka → y ≤ ma))) ∧ Hid (Below wq.heap.size wq wb)) (fun _ v20 _ => gn - (intOf v20).toNat)
                  case atStart => exact ⟨0, nx, Nat.zero_le _, rfl, rfl, Hnx.out.imp id (fun h => ⟨h.1, h.2, fun _ => Nat.zero_le _⟩), Hba.out⟩
                  case round =>
                    obtain ⟨y, ny, hy, rfl, rfl, Hny, Hbb⟩ := hrel
                    obtain ⟨wb, hwb⟩ : ∃ wb, wb = wr := ⟨_, rfl⟩
                    subst hwb
                    have x0 : wb.cell? ⟨b, off + x, none⟩ = some (.slice ga gn gc) := (Hgp.out wb Hbb.out).c0
                    by_cases hyt : y < gn
                    · have hyt' : (y : Int) < gn := by omega
                      have hyl : y < gl.length := by rw [Hgl.out]; exact hyt
                      obtain ⟨b2, off2, hga, hO⟩ := (Hgp.out wb Hbb.out).puts y hyl
                      simp only at hga
                      subst hga
                      have Hhit : Hid (nb = false → x = ka → y = ma → gl[y].f = (g1, g2, g3)) := fun h0 e1 e2 => by
                        obtain ⟨_, e⟩ := Hka.out h0 e1
                        subst e2
                        exact e
                      simp only at hO
                      generalize gl[y] = o at hO Hhit
                      obtain ⟨⟨f1, f2, f3⟩, oi, oa, on, oc, ob⟩ := o
                      have y0 : wb.cell? ⟨b2, off2 + y * 5, none⟩ = some (.int .i64 f1) := hO.c0
                      have y1 : wb.cell? ⟨b2, off2 + y * 5 + 1, none⟩ = some (.int .i64 f2) := hO.c1
                      have y2 : wb.cell? ⟨b2, off2 + y * 5 + 2, none⟩ = some (.int .i64 f3) := hO.c2
                      obtain ⟨u0, u1, u2⟩ := HFr.out wb Hbb.out
                      have Hbs : Hid (∀ s : Since wb, Below wq.heap.size wq s.w) := fun s => Hbb.out.trans (s.bel.mono Hbb.out.size)
                      have e0 : ∀ s : Since wb, s.w.cell? ⟨b2, off2 + y * 5, none⟩ = some (.int .i64 f1) := fun s => s.cell y0
                      have e1 : ∀ s : Since wb, s.w.cell? ⟨b2, off2 + y * 5 + 1, none⟩ = some (.int .i64 f2) := fun s => s.cell y1
                      have e2 : ∀ s : Since wb, s.w.cell? ⟨b2, off2 + y * 5 + 2, none⟩ = some (.int .i64 f3) := fun s => s.cell y2
                      have e3 : ∀ s : Since wb, s.w.cell? ⟨fb, fo + q * 3, none⟩ = some (.int .i64 g1) := fun s => s.cell u0
                      have e4 : ∀ s : Since wb, s.w.cell? ⟨fb, fo + q * 3 + 1, none⟩ = some (.int .i64 g2) := fun s => s.cell u1
                      have e5 : ∀ s : Since wb, s.w.cell? ⟨fb, fo + q * 3 + 2, none⟩ = some (.int .i64 g3) := fun s => s.cell u2
                      have e6 : ∀ s : Since wb, s.w.cell? ⟨b, off + x, none⟩ = some (.slice (some ⟨b2, off2, none⟩) gn gc) := fun s => s.cell x0
                      clear hO hyl HFr HGr Hgp Hka HP9 HG9 HG Hkm Hbb Hba Hb y0 y1 y2 u0 u1 u2
                      have hne : Nonempty (Since wb) := since_ne wb
                      cases ny with
                      | true =>
                        go_upto_region 32 with fail
                        clear x0
                        refine wp_region_since (by kernel_rfl) (by kernel_rfl) ?_
                        repeat (go_big_quiet_step (fail))
                        refine wpQuiet_nil ?_
                        rintro _ ⟨s, rfl⟩
                        have HB := Hbs.out s
                        clear e0 e1 e2 e3 e4 e5 e6
                        go_wp2
                        go_roundw
                        case rel => exact ⟨y + 1, true, by omega, by go_num, rfl, Or.inl rfl, HB⟩
                        case measure => simp [intOf]; omega
                      | false =>
                        by_cases q1 : f1 = g1
                        · by_cases q2 : f2 = g2
                          · by_cases q3 : f3 = g3
                            · subst q1 q2 q3
                              clear Hhit Hny
                              go_upto_region 32 with fail
                              clear x0
                              refine wp_region_since (by kernel_rfl) (by kernel_rfl) ?_
                              repeat (go_big_quiet_step (fail))
                              refine wpQuiet_nil ?_
                              rintro _ ⟨s, rfl⟩
                              have HB := Hbs.out s
                              clear e0 e1 e2 e3 e4 e5 e6
                              go_wp2
                              go_roundw
                              case rel => exact ⟨y + 1, true, by omega, by go_num, rfl, Or.inl rfl, HB⟩
                              case measure => simp [intOf]; omega
                            · have HN' : Hid ((false : Bool) = true ∨ (nb = false ∧ x ≤ ka ∧ (x = ka → y + 1 ≤ ma))) := Hny.out.imp id (fun h => ⟨h.1, h.2.1, fun e => by
                                rcases Nat.lt_or_ge y ma with h1 | h1
                                · exact h1
                                · exact absurd (by have := Hhit.out h.1 e (Nat.le_antisymm (h.2.2 e) h1); simp only [Prod.mk.injEq] at this; exact this.2.2) q3⟩)
                              subst q1 q2
                              have eb : (f3 == g3) = false := beq_eq_false_iff_ne.2 q3
                              clear Hhit Hny
                              go_upto_region 32 with fail
                              clear x0
                              refine wp_region_since (by kernel_rfl) (by kernel_rfl) ?_
                              repeat (go_big_quiet_step (fail))
                              refine wpQuiet_nil ?_
                              rintro _ ⟨s, rfl⟩
                              have HB := Hbs.out s
                              clear e0 e1 e2 e3 e4 e5 e6
                              go_wp2
                              go_roundw
                              case rel => exact ⟨y + 1, false, by omega, by go_num, rfl, HN'.out, HB⟩
                              case measure => simp [intOf]; omega
                          · have HN' : Hid ((false : Bool) = true ∨ (nb = false ∧ x ≤ ka ∧ (x = ka → y + 1 ≤ ma))) := Hny.out.imp id (fun h => ⟨h.1, h.2.1, fun e => by
                              rcases Nat.lt_or_ge y ma with h1 | h1
                              · exact h1
                              · exact absurd (by have := Hhit.out h.1 e (Nat.le_antisymm (h.2.2 e) h1); simp only [Prod.mk.injEq] at this; exact this.2.1) q2⟩)
                            subst q1
                            have eb : (f2 == g2) = false := beq_eq_false_iff_ne.2 q2
                            clear Hhit Hny
                            go_upto_region 32 with fail
                            clear x0
                            refine wp_region_since (by kernel_rfl) (by kernel_rfl) ?_
                            repeat (go_big_quiet_step (fail))
                            refine wpQuiet_nil ?_
                            rintro _ ⟨s, rfl⟩
                            have HB := Hbs.out s
                            clear e0 e1 e2 e3 e4 e5 e6
                            go_wp2
                            go_roundw
                            case rel => exact ⟨y + 1, false, by omega, by go_num, rfl, HN'.out, HB⟩
                            case measure => simp [intOf]; omega
                        · have HN' : Hid ((false : Bool) = true ∨ (nb = false ∧ x ≤ ka ∧ (x = ka → y + 1 ≤ ma))) := Hny.out.imp id (fun h => ⟨h.1, h.2.1, fun e => by
                            rcases Nat.lt_or_ge y ma with h1 | h1
                            · exact h1
                            · exact absurd (by have := Hhit.out h.1 e (Nat.le_antisymm (h.2.2 e) h1); simp only [Prod.mk.injEq] at this; exact this.1) q1⟩)
                          have eb : (f1 == g1) = false := beq_eq_false_iff_ne.2 q1
                          clear Hhit Hny
                          go_upto_region 32 with fail
                          clear x0
                          refine wp_region_since (by kernel_rfl) (by kernel_rfl) ?_
                          repeat (go_big_quiet_step (fail))
                          refine wpQuiet_nil ?_
                          rintro _ ⟨s, rfl⟩
                          have HB := Hbs.out s
                          clear e0 e1 e2 e3 e4 e5 e6
                          go_wp2
                          go_roundw
                          case rel => exact ⟨y + 1, false, by omega, by go_num, rfl, HN'.out, HB⟩
                          case measure => simp [intOf]; omega
                    · obtain rfl : y = gn := by omega
                      have HN' : Hid (ny = true ∨ (nb = false ∧ x + 1 ≤ ka)) := Hny.out.imp id (fun h => ⟨h.1, by
                        rcases Nat.lt_or_ge x ka with h1 | h1
                        · exact h1
                        · have e := Nat.le_antisymm h.2.1 h1
                          obtain ⟨h2, _⟩ := Hka.out h.1 e
                          have h3 := h.2.2 e
                          have := Hgl.out
                          omega⟩)
                      clear HFr HGr Hgp Hka HP9 HG9 HG Hkm Hny
                      go_wp2
                      go_roundw
                      case rel => exact ⟨x + 1, ny, by omega, by go_num, rfl, HN'.out, Hbb.out⟩
                      case measure => simp [intOf]; omega
                · have hx' : x = t := by omega
                  have hnx : nx = true := by
                    rcases Hnx.out with h | ⟨h, h2⟩
                    · exact h
                    · rcases Hkm.out with h3 | ⟨h3, _⟩
                      · rw [h] at h3; cases h3
                      · have := HG.out.1; omega
                  subst hnx
                  have HB : Hid (Below w9.heap.size w9 wa) := Hb.out.trans (Hba.out.mono Hb.out.size)
                  clear HFr HGr HP9 HG9 HG Hkm Hnx Hb Hba
                  go_wp2
                  go_roundw
                  case rel => exact ⟨q + 1, by omega, by go_num, HB.out⟩
                  case measure => simp [intOf]; omega
            · have R := HP9.out wq Hb.out
              clear HP9 HG9 HG HF9 Hb HS8
              go_wp2
              exact R
end Go.Proofs.Ytjkeejbfipmidaa
