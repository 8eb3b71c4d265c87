/-
  whole: are the blocks of a disk, but the journal's, those of another one?
-/
import Derived.Test.YtjkeejbfipmidaaCopied
import Derived.Test.YtjkeejbfipmidaaPfiles
import Derived.Test.YtjkeejbfipmidaaSrcs
import Derived.MapKept
import Derived.Laws.StructEq
import Derived.Test.YtjkeejbfipmidaaRfiles
set_option maxRecDepth 20000
namespace Go.Proofs.Ytjkeejbfipmidaa
open Go.RowKit

/-- Do two disks answer alike at a block that is not the journal's? -/
def sameAt (S R : St) (p : Pt) : Bool := decide (p.f.1 = 1) || (decide ((S.read p.f p.i).1 = (R.read p.f p.i).1) && decide (strOfNums (S.read p.f p.i).2 = strOfNums (R.read p.f p.i).2))
def cntJ (l : List Fl) : Nat := (l.filter fun f => decide (f.1 ≠ 1)).length
def wholeB (S R : St) (ls : List Gp) : Bool := (ls.all fun g => g.l.all (sameAt S R)) && decide (cntJ (filesOf (at_ S.l)) = (filesOf (at_ R.l)).length)
theorem all_take_succ {α : Type} (p : α → Bool) (l : List α) (j : Nat) (h : j < l.length) : (l.take (j + 1)).all p = ((l.take j).all p && p l[j]) := by
  rw [List.take_succ_eq_append_getElem h, List.all_append]
  simp
theorem cntJ_take (l : List Fl) (j : Nat) (h : j < l.length) : cntJ (l.take (j + 1)) = cntJ (l.take j) + if l[j].1 ≠ 1 then 1 else 0 := by
  unfold cntJ
  rw [List.take_succ_eq_append_getElem h, List.filter_append, List.length_append]
  congr 1
  by_cases hh : l[j].1 = 1 <;> simp [hh]
theorem cntJ_le (l : List Fl) : cntJ l ≤ l.length := List.length_filter_le _ _
/-- The block in its box. -/
def BoxP (X : Nat) (f1 f2 f3 oi : Int) (v : Value) (w : World) : Prop := w.heap[X]? = some (.cells #[.int .i64 f1, .int .i64 f2, .int .i64 f3, .int .i64 oi, v] 41 (0, 0))
theorem BoxP.cells {X : Nat} {f1 f2 f3 oi : Int} {v : Value} {w : World} (h : BoxP X f1 f2 f3 oi v w) : w.cell? ⟨X, 0, none⟩ = some (.int .i64 f1) ∧ w.cell? ⟨X, 1, none⟩ = some (.int .i64 f2) ∧ w.cell? ⟨X, 2, none⟩ = some (.int .i64 f3) ∧ w.cell? ⟨X, 3, none⟩ = some (.int .i64 oi) := by
  refine ⟨?_, ?_, ?_, ?_⟩
  · rw [cell_of_row w X 0 _ 41 (0, 0) h]; rfl
  · rw [cell_of_row w X 1 _ 41 (0, 0) h]; rfl
  · rw [cell_of_row w X 2 _ 41 (0, 0) h]; rfl
  · rw [cell_of_row w X 3 _ 41 (0, 0) h]; rfl
theorem BoxP.inside {X : Nat} {f1 f2 f3 oi : Int} {v : Value} {w w' : World} (h : BoxP X f1 f2 f3 oi v w) (hb : Below w.heap.size w w') : BoxP X f1 f2 f3 oi v w' := (hb.block X (Array.getElem?_eq_some_iff.1 h).1).trans h

set_option maxHeartbeats 4000000 in
theorem whole_c (Fd Fr : Nat → Prop) (d r : Nat) (S R : St) (a : Option Addr) (len cap : Nat) (ls : List Gp) (W w : World) (hl : ls.length = len) (hle : len ≤ maxLen) (hG : Gps W a ls) (hN : Below W.heap.size W w) (hD : PDisk Fd w d S) (hFd : ∀ k, Fd k → k < w.heap.size) (hR : RDisk Fr w r R) (hFr : ∀ k, Fr k → k < w.heap.size) (hfl : (filesOf (at_ S.l)).length ≤ 1000000) :
    Calls Try.prog 17 #[.pointer (some ⟨d, 0, none⟩), .pointer (some ⟨r, 0, none⟩), .slice a len cap] w fun e w' => e = .returned (.bool (wholeB S R ls)) ∧ Below w.heap.size w w' := by
  obtain ⟨Post, hPost⟩ : ∃ Post : Ending → World → Prop, Post = fun e w' => e = .returned (.bool (wholeB S R ls)) ∧ Below w.heap.size w w' := ⟨_, rfl⟩
  rw [← hPost]
  have HP : Hid (∀ b w', wholeB S R ls = b → Below w.heap.size w w' → Post (.returned (.bool b)) w') := fun b w' h1 h2 => by rw [hPost, h1]; exact ⟨rfl, h2⟩
  clear hPost
  have Hl : Hid (ls.length = len) := hl
  have HGs : Hid (∀ w', Below w.heap.size w w' → Gps w' a ls) := fun w' h => hG.on (hN.trans (h.mono hN.size))
  have HD : Hid (∀ w', Below w.heap.size w w' → PDisk Fd w' d S) := fun w' h => hD.keep (fun k hk => h.block k (hFd k hk))
  have HR : Hid (∀ w', Below w.heap.size w w' → RDisk Fr w' r R) := fun w' h => hR.keep (fun k hk => h.block k (hFr k hk))
  have hle' : (len : Int) ≤ 9223372036854775807 := by unfold maxLen at hle; omega
  clear hl hle hG hN hD hFd hR hFr
  go_enter Try.func17, Try.ntmps17
  go_wp2
  go_loopw [7] (fun v wr => ∃ (j : Nat), j ≤ len ∧ v = .int .i64 (j : Int) ∧ Hid ((ls.take j).all (fun g => g.l.all (sameAt S R)) = true) ∧ Hid (Below w.heap.size w wr)) (fun v _ => len - (intOf v).toNat)
  case atStart => exact ⟨0, Nat.zero_le _, rfl, rfl, Below.refl _ _⟩
  case round =>
    obtain ⟨j, hj, rfl, HA, Hb⟩ := hrel
    by_cases hlt : j < len
    · have hlt' : (j : Int) < len := by omega
      have hjl : j < ls.length := by rw [Hl.out]; exact hlt
      obtain ⟨b, off, rfl, hg0⟩ := HGs.out w (Below.refl _ _) j hjl
      have Hgp : Hid (∀ w', Below w.heap.size w w' → GpAt w' b off j ls[j]) := fun w' h => by
        obtain ⟨b', off', e, hh⟩ := HGs.out w' h j hjl
        cases e
        exact hh
      have Hbad : Hid (ls[j].l.all (sameAt S R) = false → wholeB S R ls = false) := fun h => by
        unfold wholeB
        rw [show (ls.all fun g => g.l.all (sameAt S R)) = false from List.all_eq_false.2 ⟨ls[j], List.getElem_mem hjl, by rw [h]; simp⟩]
        rfl
      have Hnext : Hid (ls[j].l.all (sameAt S R) = true → (ls.take (j + 1)).all (fun g => g.l.all (sameAt S R)) = true) := fun h => by
        rw [all_take_succ _ _ j hjl, HA.out, h]; rfl
      generalize ls[j] = gp at Hgp Hbad Hnext
      obtain ⟨ga, gn, gc, gl⟩ := gp
      have Hgl : Hid (gl.length = gn) := (Hgp.out w (Below.refl _ _)).len
      have hgn : (gn : Int) ≤ 9223372036854775807 := by have := (Hgp.out w (Below.refl _ _)).le; unfold maxLen at this; simp only at this; omega
      clear hg0 hjl HA
      go_wp2
      go_loopw [8] (fun v wr => ∃ (k : Nat), k ≤ gn ∧ v = .int .i64 (k : Int) ∧ Hid ((gl.take k).all (sameAt S R) = true) ∧ Hid (Below w.heap.size w wr)) (fun v _ => gn - (intOf v).toNat)
      case atStart => exact ⟨0, Nat.zero_le _, rfl, rfl, Hb.out⟩
      case round =>
        clear Hb
        obtain ⟨k, hk, rfl, HA, Hb⟩ := hrel
        have x0 : wr.cell? ⟨b, off + j, none⟩ = some (.slice ga gn gc) := (Hgp.out wr Hb.out).c0
        by_cases hkt : k < gn
        · have hkt' : (k : Int) < gn := by omega
          have hkl : k < gl.length := by rw [Hgl.out]; exact hkt
          obtain ⟨b2, off2, hga, hO⟩ := (Hgp.out wr Hb.out).puts k hkl
          simp only at hga
          subst hga
          have Hbad2 : Hid (sameAt S R gl[k] = false → wholeB S R ls = false) := fun h => Hbad.out (List.all_eq_false.2 ⟨gl[k], List.getElem_mem hkl, by rw [h]; simp⟩)
          have Hnext2 : Hid (sameAt S R gl[k] = true → (gl.take (k + 1)).all (sameAt S R) = true) := fun h => by
            rw [all_take_succ _ _ k hkl, HA.out, h]; rfl
          simp only at hO
          generalize gl[k] = o at hO Hbad2 Hnext2
          obtain ⟨⟨f1, f2, f3⟩, oi, oa, on, oc, ob⟩ := o
          have y0 : wr.cell? ⟨b2, off2 + k * 5, none⟩ = some (.int .i64 f1) := hO.c0
          have y1 : wr.cell? ⟨b2, off2 + k * 5 + 1, none⟩ = some (.int .i64 f2) := hO.c1
          have y2 : wr.cell? ⟨b2, off2 + k * 5 + 2, none⟩ = some (.int .i64 f3) := hO.c2
          have y3 : wr.cell? ⟨b2, off2 + k * 5 + 3, none⟩ = some (.int .i64 oi) := hO.c3
          have y4 : wr.cell? ⟨b2, off2 + k * 5 + 4, none⟩ = some (.slice oa on oc) := hO.c4
          have Hf : Hid (I64F (f1, f2, f3)) := ⟨hO.bd.2.1, hO.bd.2.2.1, hO.bd.2.2.2⟩
          have Hi : Hid (I64 oi) := hO.bd.1
          clear hO hkl HA
          go_upto_region 8 with fail
          have hbx : Below wr.heap.size wr (wr.alloc (.cells #[.int .i64 f1, .int .i64 f2, .int .i64 f3, .int .i64 oi, .slice oa on oc] 41)) := (Below.refl _ _).alloc (Nat.le_refl _) _
          have hbo : BoxP wr.heap.size f1 f2 f3 oi (.slice oa on oc) (wr.alloc (.cells #[.int .i64 f1, .int .i64 f2, .int .i64 f3, .int .i64 oi, .slice oa on oc] 41)) := heap_alloc_new wr _
          have Hb0 : Hid (Below w.heap.size w (wr.alloc (.cells #[.int .i64 f1, .int .i64 f2, .int .i64 f3, .int .i64 oi, .slice oa on oc] 41))) := Hb.out.trans (hbx.mono Hb.out.size)
          have HB0 : Hid (BoxP wr.heap.size f1 f2 f3 oi (.slice oa on oc) (wr.alloc (.cells #[.int .i64 f1, .int .i64 f2, .int .i64 f3, .int .i64 oi, .slice oa on oc] 41))) := hbo
          obtain ⟨x1, x2, x3, x4⟩ := hbo.cells
          clear hbx hbo y0 y1 y2 y3 y4 Hb x0
          generalize wr.heap.size = X at *
          generalize wr.alloc (.cells #[.int .i64 f1, .int .i64 f2, .int .i64 f3, .int .i64 oi, .slice oa on oc] 41) = w0 at *
          by_cases h1 : f1 = 1
          · have HN := Hnext2.out (by unfold sameAt; simp [h1])
            have HN2 : Hid _ := HN
            clear HN Hnext2 Hbad2 HP HGs HD HR Hgp HB0 Hbad Hnext x2 x3 x4
            go_wp2
            go_roundw
            case rel => exact ⟨k + 1, by omega, by go_num, HN2.out, Hb0.out⟩
            case measure => simp [intOf]; omega
          · go_wp2_with fail
            refine (read_c Fd d S f1 f2 f3 oi Hf.out Hi.out w0 (HD.out w0 Hb0.out)).mono ?_
            rintro _ w1 hr
            obtain ⟨a1, c1, rfl, hs1, hb1⟩ := read_src hr
            have Hb1 : Hid (Below w.heap.size w w1) := Hb0.out.trans (hb1.mono Hb0.out.size)
            have HB1 : Hid (BoxP X f1 f2 f3 oi (.slice oa on oc) w1) := HB0.out.inside hb1
            have HS1 : Hid (Src w1 a1 (S.read (f1, f2, f3) oi).2.length (S.read (f1, f2, f3) oi).2) := hs1
            clear x1 x2 x3 x4 hs1 hb1 hr Hb0 HB0
            obtain ⟨x1, x2, x3, x4⟩ := HB1.out.cells
            go_wp2_with fail
            refine (rread_c Fr r R f1 f2 f3 oi w1 (HR.out w1 Hb1.out)).mono ?_
            rintro _ w2 hr
            obtain ⟨a2, c2, rfl, hs2, hb2⟩ := rread_src hr
            have Hb2 : Hid (Below w.heap.size w w2) := Hb1.out.trans (hb2.mono Hb1.out.size)
            have hc1 := conv_c (cap := c1) (HS1.out.later hb2)
            have hc2 := conv_c (cap := c2) hs2
            have Hsm : Hid (sameAt S R ⟨(f1, f2, f3), oi, oa, on, oc, ob⟩ = (decide ((S.read (f1, f2, f3) oi).1 = (R.read (f1, f2, f3) oi).1) && decide (strOfNums (S.read (f1, f2, f3) oi).2 = strOfNums (R.read (f1, f2, f3) oi).2))) := by
              show _ = _
              unfold sameAt
              simp only [decide_eq_false h1, Bool.false_or]
            clear x1 x2 x3 x4 hs2 hb2 hr Hb1 HB1 HS1 HD HR
            generalize (S.read (f1, f2, f3) oi).2.length = n1 at *
            generalize (R.read (f1, f2, f3) oi).2.length = n2 at *
            generalize (S.read (f1, f2, f3) oi).1 = e1 at *
            generalize (R.read (f1, f2, f3) oi).1 = e2 at *
            generalize strOfNums (S.read (f1, f2, f3) oi).2 = s1 at *
            generalize strOfNums (R.read (f1, f2, f3) oi).2 = s2 at *
            by_cases he : e1 = e2
            · by_cases hs : s1 = s2
              · have HN := Hnext2.out (by rw [Hsm.out]; simp [he, hs])
                have HN2 : Hid _ := HN
                clear HN Hnext2 Hbad2 HP HGs Hgp Hbad Hnext Hsm
                go_wp2
                go_roundw
                case rel => exact ⟨k + 1, by omega, by go_num, HN2.out, Hb2.out⟩
                case measure => simp [intOf]; omega
              · have Rr := HP.out false w2 (Hbad2.out (by rw [Hsm.out]; simp [hs])) Hb2.out
                have eb : (s1 == s2) = false := Bool.eq_false_iff.2 (fun h => hs ((Go.MapKept.bytes_beq s1 s2).1 h))
                have et : (s1.toList == s2.toList) = false := by rw [← beq_toListBytes]; exact eb
                clear Hnext2 Hbad2 HP HGs Hgp Hbad Hnext Hsm
                go_wp2
                exact Rr
            · have Rr := HP.out false w2 (Hbad2.out (by rw [Hsm.out]; simp [he])) Hb2.out
              have es : (e1 != e2) = true := bne_iff_ne.2 he
              clear Hnext2 Hbad2 HP HGs Hgp Hbad Hnext Hsm
              go_wp2
              exact Rr
        · obtain rfl : k = gn := by omega
          have HN := Hnext.out (by have := HA.out; rwa [List.take_of_length_le (by rw [Hgl.out]; exact Nat.le_refl _)] at this)
          have HN2 : Hid _ := HN
          clear HN HP HGs HD HR Hgp Hbad Hnext HA
          go_wp2
          go_roundw
          case rel => exact ⟨j + 1, by omega, by go_num, HN2.out, Hb.out⟩
          case measure => simp [intOf]; omega
    · obtain rfl : j = len := by omega
      have Hall : Hid (wholeB S R ls = decide (cntJ (filesOf (at_ S.l)) = (filesOf (at_ R.l)).length)) := by
        have := HA.out
        rw [List.take_of_length_le (by rw [Hl.out]; exact Nat.le_refl _)] at this
        show _ = _
        unfold wholeB
        rw [this]
        rfl
      clear HA HGs
      go_wp2_with fail
      refine (pfiles_c Fd d S wr (HD.out wr Hb.out)).mono ?_
      rintro _ w1 ⟨fa, fn, fc, rfl, hF, hb1⟩
      have Hb1 : Hid (Below w.heap.size w w1) := Hb.out.trans (hb1.mono Hb.out.size)
      have HF : Hid (Fls w1 fa fn (filesOf (at_ S.l))) := hF
      clear hF hb1 Hb HD
      generalize filesOf (at_ S.l) = fs at *
      have Hfn : Hid (fs.length = fn) := HF.out.n
      have hfn : fn ≤ 1000000 := by rw [← Hfn.out]; exact hfl
      clear hfl
      have HFa : Hid (∀ w', Below w1.heap.size w1 w' → Fls w' fa fn fs) := fun w' h => HF.out.later h
      clear HF
      go_wp2
      go_loopw [15, 16] (fun v15 v16 wr => ∃ (k m : Nat), k ≤ fn ∧ m ≤ k ∧ v16 = .int .i64 (k : Int) ∧ v15 = .int .i64 (m : Int) ∧ wr = w1 ∧ Hid (cntJ (fs.take k) = m)) (fun _ v16 _ => fn - (intOf v16).toNat)
      case atStart => exact ⟨0, 0, Nat.zero_le _, Nat.le_refl _, rfl, rfl, rfl, rfl⟩
      case round =>
        obtain ⟨k, m, hk, hm, rfl, rfl, rfl, HC⟩ := hrel
        by_cases hkt : k < fn
        · have hkt' : (k : Int) < fn := by omega
          have hkl : k < fs.length := by rw [Hfn.out]; exact hkt
          obtain ⟨b, off, rfl, z0, _, _⟩ := (HFa.out _ (Below.refl _ _)).cells k hkl
          have Hc := cntJ_take fs k hkl
          rw [HC.out] at Hc
          have HCn : Hid (cntJ (fs.take (k + 1)) = m + if fs[k].1 ≠ 1 then 1 else 0) := Hc
          clear Hc
          generalize fs[k] = ff at *
          obtain ⟨g1, g2, g3⟩ := ff
          simp only at z0
          by_cases hg : g1 = 1
          · have HC2 : Hid (cntJ (fs.take (k + 1)) = m) := by have := HCn.out; simp [hg] at this; exact this
            have eg : (g1 != 1) = false := by simp [hg]
            clear HCn HC HP HFa
            go_wp2
            go_roundw
            case rel => exact ⟨k + 1, m, by omega, by omega, by go_num, rfl, trivial, HC2.out⟩
            case measure => simp [intOf]; omega
          · have HC2 : Hid (cntJ (fs.take (k + 1)) = m + 1) := by have := HCn.out; simp [hg] at this; exact this
            have eg : (g1 != 1) = true := bne_iff_ne.2 hg
            clear HCn HC HP HFa
            go_wp2
            go_roundw
            case rel => exact ⟨k + 1, m + 1, by omega, by omega, by go_num, by go_num, trivial, HC2.out⟩
            case measure => simp [intOf]; omega
        · obtain rfl : k = fn := by omega
          have hm : cntJ fs = m := by have := HC.out; rwa [List.take_of_length_le (by rw [Hfn.out]; exact Nat.le_refl _)] at this
          go_wp2_with fail
          refine (rfiles_c Fr r R _ (HR.out _ Hb1.out)).mono ?_
          rintro _ w2 ⟨ra, rn, rc, rfl, hF2, hb2⟩
          have hrn := hF2.n
          have Rr := HP.out (decide (m = rn)) w2 (by rw [Hall.out, hm, hrn]) (Hb1.out.trans (hb2.mono Hb1.out.size))
          clear HP Hall HR HFa hF2 hb2 HC hm
          by_cases hmr : m = rn
          · subst hmr
            simp only [decide_true] at Rr
            go_wp2
            exact Rr
          · have hmr' : ¬ ((m : Int) = (rn : Int)) := by omega
            have eb : ((m : Int) == (rn : Int)) = false := beq_eq_false_iff_ne.2 hmr'
            simp only [decide_eq_false hmr] at Rr
            go_wp2
            exact Rr
end Go.Proofs.Ytjkeejbfipmidaa
