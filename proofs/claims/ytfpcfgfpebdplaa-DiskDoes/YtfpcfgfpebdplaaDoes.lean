/-
  A call of both disks: the answers are the same.
-/
import Derived.Test.YtfpcfgfpebdplaaMix
import Derived.LoopN
namespace Go.Proofs.Ytfpcfgfpebdplaa
open Go.RowKit Go.Maps

/-- What does answers. -/
def DoesSay (B d r k : Nat) (w : World) (e : Ending) (w' : World) : Prop := e = .returned (.bool true) ∧ Below B w w' ∧ ∃ S, Mix B w' d S r S ∧ Few S (k + 1)
/-- The call in its box. -/
def BoxO (X : Nat) (ok f1 f2 f3 oi : Int) (v : Value) (w : World) : Prop := w.heap[X]? = some (.cells #[.int .i64 ok, .int .i64 f1, .int .i64 f2, .int .i64 f3, .int .i64 oi, v] 33 (0, 0))
theorem BoxO.cells {X : Nat} {ok f1 f2 f3 oi : Int} {v : Value} {w : World} (h : BoxO X ok f1 f2 f3 oi v w) : w.cell? ⟨X, 0, none⟩ = some (.int .i64 ok) ∧ w.cell? ⟨X, 1, none⟩ = some (.int .i64 f1) ∧ w.cell? ⟨X, 2, none⟩ = some (.int .i64 f2) ∧ w.cell? ⟨X, 3, none⟩ = some (.int .i64 f3) ∧ w.cell? ⟨X, 4, none⟩ = some (.int .i64 oi) ∧ w.cell? ⟨X, 5, none⟩ = some v := by
  refine ⟨?_, ?_, ?_, ?_, ?_, ?_⟩
  · rw [cell_of_row w X 0 _ 33 (0, 0) h]; rfl
  · rw [cell_of_row w X 1 _ 33 (0, 0) h]; rfl
  · rw [cell_of_row w X 2 _ 33 (0, 0) h]; rfl
  · rw [cell_of_row w X 3 _ 33 (0, 0) h]; rfl
  · rw [cell_of_row w X 4 _ 33 (0, 0) h]; rfl
  · rw [cell_of_row w X 5 _ 33 (0, 0) h]; rfl
theorem BoxO.lt {X : Nat} {ok f1 f2 f3 oi : Int} {v : Value} {w : World} (h : BoxO X ok f1 f2 f3 oi v w) : X < w.heap.size := (Array.getElem?_eq_some_iff.1 h).1
theorem BoxO.inside {X : Nat} {ok f1 f2 f3 oi : Int} {v : Value} {w w' : World} (h : BoxO X ok f1 f2 f3 oi v w) (hb : Below w.heap.size w w') : BoxO X ok f1 f2 f3 oi v w' := (hb.block X h.lt).trans h

/-- Just blocks from lo to hi are others. -/
structure Mid (lo hi : Nat) (w w' : World) : Prop where
  os : w'.os = w.os
  tape : w'.tape = w.tape
  output : w'.output = w.output
  size : w'.heap.size = w.heap.size
  block : ∀ k, ¬ (lo ≤ k ∧ k < hi) → w'.heap[k]? = w.heap[k]?
theorem Mid.refl (lo hi : Nat) (w : World) : Mid lo hi w w := ⟨rfl, rfl, rfl, rfl, fun _ _ => rfl⟩
theorem Mid.set {lo hi : Nat} {w w' : World} (h : Mid lo hi w w') {g : Nat} (hg : lo ≤ g ∧ g < hi) (k : Nat) (v : Value) : Mid lo hi w (w'.setCell ⟨g, k, none⟩ v) :=
  ⟨h.os, h.tape, h.output, by rw [World.size_setCell]; exact h.size, fun j hj => (Below.heap_setCell w' ⟨g, k, none⟩ v j (fun e => hj (e ▸ hg))).trans (h.block j hj)⟩
theorem Mid.below {lo hi B : Nat} {w w' : World} (h : Mid lo hi w w') (hB : B ≤ lo) : Below B w w' := ⟨h.os, h.tape, h.output, Nat.le_of_eq h.size.symm, fun k hk => h.block k (by omega)⟩

set_option maxRecDepth 1000000 in
set_option maxHeartbeats 4000000 in
/-- Write. -/
theorem does_write (B d r k : Nat) (S : St) (f1 f2 f3 oi : Int) (oa : Option Addr) (on oc : Nat) (ob : List Int) (hf : I64F (f1, f2, f3)) (w : World) (hM : Mix B w d S r S) (hB : B ≤ w.heap.size) (hF : Few S k) (hk : k < 1000)
    (hX : ∀ w', Below B w w' → Bytes w' oa on ob) (hnil : oa = none → oc = 0) (hn : on < 140737488355328) :
    Calls Try.prog 10 #[.pointer (some ⟨d, 0, none⟩), .pointer (some ⟨r, 0, none⟩), .agg #[.int .i64 0, .int .i64 f1, .int .i64 f2, .int .i64 f3, .int .i64 oi, .slice oa on oc]] w (DoesSay B d r k w) := by
  obtain ⟨Post, hPost⟩ : ∃ Post, Post = DoesSay B d r k w := ⟨_, rfl⟩
  rw [← hPost]
  have HP : Hid (Post = DoesSay B d r k w) := hPost
  clear hPost
  have hbx : Below w.heap.size w (w.alloc (.cells #[.int .i64 0, .int .i64 f1, .int .i64 f2, .int .i64 f3, .int .i64 oi, .slice oa on oc] 33)) := (Below.refl _ _).alloc (Nat.le_refl _) _
  have hbo : BoxO w.heap.size 0 f1 f2 f3 oi (.slice oa on oc) (w.alloc (.cells #[.int .i64 0, .int .i64 f1, .int .i64 f2, .int .i64 f3, .int .i64 oi, .slice oa on oc] 33)) := heap_alloc_new w _
  have hs0 : (w.alloc (.cells #[.int .i64 0, .int .i64 f1, .int .i64 f2, .int .i64 f3, .int .i64 oi, .slice oa on oc] 33)).heap.size = w.heap.size + 1 := World.size_alloc ..
  have Hbx : Hid (Below w.heap.size w (w.alloc (.cells #[.int .i64 0, .int .i64 f1, .int .i64 f2, .int .i64 f3, .int .i64 oi, .slice oa on oc] 33))) := hbx
  have HB0 : Hid (BoxO w.heap.size 0 f1 f2 f3 oi (.slice oa on oc) (w.alloc (.cells #[.int .i64 0, .int .i64 f1, .int .i64 f2, .int .i64 f3, .int .i64 oi, .slice oa on oc] 33))) := hbo
  have HM : Hid (Mix B w d S r S) := hM
  have HF : Hid (Few S k) := hF
  have HX : Hid (∀ w', Below B w w' → Bytes w' oa on ob) := hX
  have HB : Hid (B ≤ w.heap.size) := hB
  have Hf : Hid (I64F (f1, f2, f3)) := hf
  obtain ⟨x0, x1, x2, x3, x4, x5⟩ := hbo.cells
  clear hbx hbo hM hF hX hB hf
  go_enter Try.func10, Try.ntmps10
  go_upto_region 1 with fail
  generalize w.alloc (.cells #[.int .i64 0, .int .i64 f1, .int .i64 f2, .int .i64 f3, .int .i64 oi, .slice oa on oc] 33) = w0 at *
  have HN0 : Hid (Below B w w0) := Hbx.out.mono HB.out
  obtain ⟨lo, hlo⟩ : ∃ lo, lo = w0.heap.size := ⟨_, rfl⟩
  have Hlo : Hid (lo = w0.heap.size) := hlo
  have hlo1 : lo = w.heap.size + 1 := by omega
  have Hlo1 : Hid (lo = w.heap.size + 1) := hlo1
  clear hlo hs0 hlo1
  go_wp2_with (first | (at_builtin; refine wpList_append_bytes rfl (.const (.slice none 0 0)) (.tmp 21) rfl lo none 0 0 [] rfl rfl (Own.nil _ _) oa on oc ob rfl (HX.out w0 HN0.out) hnil (by omega) w0 (Below.refl _ _) (Nat.le_of_eq Hlo.out) ?_; intro a2 c2 w1 HO1 hb1 hs1; have HB1 : Hid (BoxO w.heap.size 0 f1 f2 f3 oi (.slice oa on oc) w1) := (hb1.block _ (by have := Hlo1.out; omega)).trans HB0.out; obtain ⟨_, y1, y2, y3, y4, y5⟩ := HB1.out.cells) | fail)
  have Hb1 : Hid (Below w.heap.size w w1) := Hbx.out.trans (hb1.mono (by have := Hlo1.out; omega))
  have HN1 : Hid (Below B w w1) := Hb1.out.mono HB.out
  have HOb : Hid (Own w1 lo a2 c2 ob) := by show Own w1 lo a2 c2 ob; have := HO1.out; simpa using this
  have Hbn : Hid (ob.length = on) := (HX.out w0 HN0.out).n
  have Hfit : Hid (∀ z ∈ ob, 0 ≤ z ∧ z ≤ 255) := (HX.out w0 HN0.out).fit
  refine (mwrite_d B d r S S lo f1 f2 f3 oi a2 on c2 ob Hf.out w w1 HM.out Hb1.out (by have := Hlo1.out; omega) (Nat.le_trans HB.out Hb1.out.size) (HOb.out.bytes Hfit.out on Hbn.out) (by have := HF.out.2.2; omega)).mono ?_
  rintro e w2 ⟨rfl, hb2, hkeep, hmix⟩
  have Hmix : Hid (∀ w'', w''.heap.size = w2.heap.size → (∀ k, ¬ (lo ≤ k ∧ k < w1.heap.size) → w''.heap[k]? = w2.heap[k]?) → Mix B w'' d (S.write (f1, f2, f3) oi ob).2 r S) := hmix
  have HN2 : Hid (Below B w w2) := HN1.out.trans hb2
  have HB2 : Hid (BoxO w.heap.size 0 f1 f2 f3 oi (.slice oa on oc) w2) := (hkeep _ (Nat.le_refl _) HB1.out.lt).trans HB1.out
  have Hat : Hid (∀ g0, a2 = some ⟨g0, 0, none⟩ → lo ≤ g0 ∧ g0 < w1.heap.size) := fun g0 e => by
    rcases HOb.out.parts with ⟨h, _⟩ | ⟨g, h, h1, h2, _⟩
    · rw [e] at h; cases h
    · rw [e] at h; cases h; exact ⟨h1, h2⟩
  have HO2 : Hid (Own w2 lo a2 c2 ob) := by
    refine ⟨HOb.out.1, ?_⟩
    rcases HOb.out.2 with h2 | ⟨g, cap, cur, hv, hg, hh, r⟩
    · exact .inl h2
    · exact .inr ⟨g, cap, cur, hv, hg, (hkeep g (by have := Hlo1.out; omega) (Array.getElem?_eq_some_iff.1 hh).1).trans hh, r⟩
  obtain ⟨hi, hhi⟩ : ∃ hi, hi = w1.heap.size := ⟨_, rfl⟩
  rw [← hhi] at Hmix Hat
  obtain ⟨E, S', hES⟩ : ∃ E S', S.write (f1, f2, f3) oi ob = (E, S') := ⟨_, _, rfl⟩
  have HES : Hid (S.write (f1, f2, f3) oi ob = (E, S')) := hES
  have HF' : Hid (Few S' (k + 1)) := by have := HF.out.write (f1, f2, f3) oi ob; rw [hES] at this; exact this
  rw [hES] at Hmix ⊢
  simp only at Hmix ⊢
  clear hhi hES hb2 hkeep hmix hb1 hs1 HO1 HOb y1 y2 y3 y4 y5 x0 x1 x2 x3 x4 x5 HB1 Hb1 HN1 HN0 HB0 Hbx HM
  go_wp2
  go_loopw [9] (fun v9 wr => ∃ (j : Nat) (ys : List Int), j ≤ on ∧ v9 = .int .i64 (j : Int) ∧ Hid (ys.length = on ∧ Own wr lo a2 c2 ys) ∧ Hid (Mid lo hi w2 wr)) (fun v9 _ => on - (intOf v9).toNat)
  case atStart => exact ⟨0, ob, Nat.zero_le _, rfl, ⟨Hbn.out, HO2.out⟩, Mid.refl _ _ _⟩
  case round =>
    obtain ⟨j, ys, hj, rfl, HO, HD⟩ := hrel
    by_cases hlt : j < on
    · have hlt' : (j : Int) < on := by omega
      have hjy : j < ys.length := by rw [HO.out.1]; exact hlt
      obtain ⟨g0, rfl, hg0, hcell, hfr⟩ := HO.out.2.some (by omega)
      have c0 := hcell j hjy
      have f0 := hfr j
      have hgg := Hat.out g0 rfl
      have HO3 : Hid (∀ z, Own (wr.setCell ⟨g0, j, none⟩ (.int .u8 z)) lo (some ⟨g0, 0, none⟩) c2 (ys.set j z)) := fun z => HO.out.2.set j z
      have HD3 : Hid (∀ z, Mid lo hi w2 (wr.setCell ⟨g0, j, none⟩ (.int .u8 z))) := fun z => HD.out.set hgg j _
      generalize ys[j] = z0 at c0
      clear hcell hfr hjy
      go_wp2
      go_roundw
      case rel => exact ⟨j + 1, _, by omega, by simp, ⟨by rw [List.length_set]; exact HO.out.1, HO3.out _⟩, HD3.out _⟩
      case measure => simp [intOf]; omega
    · have HBr : Hid (BoxO w.heap.size 0 f1 f2 f3 oi (.slice oa on oc) wr) := (HD.out.block _ (by have := Hlo1.out; omega)).trans HB2.out
      have HNr : Hid (Below B w wr) := HN2.out.trans (HD.out.below (by have := Hlo1.out; have := HB.out; omega))
      have HMr : Hid (Mix B wr d S' r S) := Hmix.out wr HD.out.size HD.out.block
      obtain ⟨_, y1, y2, y3, y4, y5⟩ := HBr.out.cells
      go_wp2_with fail
      refine (mwrite_r B d r S' S f1 f2 f3 oi oa on oc ob wr HMr.out (Nat.le_trans HB.out HNr.out.size) (HX.out wr HNr.out) (by have := HF.out.1; have := HF.out.2.2; omega) hn).mono ?_
      rintro e w3 ⟨rfl, hM3, hb3⟩
      rw [HES.out] at hM3 ⊢
      simp only at hM3 ⊢
      have R : Post (.returned (.bool true)) w3 := by rw [HP.out]; exact ⟨rfl, HNr.out.trans hb3, S', hM3, HF'.out⟩
      clear HP
      go_wp2
      exact R

set_option maxRecDepth 100000 in
set_option maxHeartbeats 2000000 in
/-- Cut, Up, and what is none of the four. -/
theorem does_power (B d r k : Nat) (S : St) (ok f1 f2 f3 oi : Int) (oa : Option Addr) (on oc : Nat) (hi : I64 oi) (w : World) (hM : Mix B w d S r S) (hB : B ≤ w.heap.size) (hF : Few S k) (h0 : ok ≠ 0) (h1 : ok ≠ 1) :
    Calls Try.prog 10 #[.pointer (some ⟨d, 0, none⟩), .pointer (some ⟨r, 0, none⟩), .agg #[.int .i64 ok, .int .i64 f1, .int .i64 f2, .int .i64 f3, .int .i64 oi, .slice oa on oc]] w (DoesSay B d r k w) := by
  obtain ⟨Post, hPost⟩ : ∃ Post, Post = DoesSay B d r k w := ⟨_, rfl⟩
  rw [← hPost]
  have HP : Hid (Post = DoesSay B d r k w) := hPost
  clear hPost
  have hbx : Below w.heap.size w (w.alloc (.cells #[.int .i64 ok, .int .i64 f1, .int .i64 f2, .int .i64 f3, .int .i64 oi, .slice oa on oc] 33)) := (Below.refl _ _).alloc (Nat.le_refl _) _
  have hbo : BoxO w.heap.size ok f1 f2 f3 oi (.slice oa on oc) (w.alloc (.cells #[.int .i64 ok, .int .i64 f1, .int .i64 f2, .int .i64 f3, .int .i64 oi, .slice oa on oc] 33)) := heap_alloc_new w _
  have HM0 : Hid (Mix B (w.alloc (.cells #[.int .i64 ok, .int .i64 f1, .int .i64 f2, .int .i64 f3, .int .i64 oi, .slice oa on oc] 33)) d S r S) := hM.inside hbx
  have HN0 : Hid (Below B w (w.alloc (.cells #[.int .i64 ok, .int .i64 f1, .int .i64 f2, .int .i64 f3, .int .i64 oi, .slice oa on oc] 33))) := hbx.mono hB
  have HB0 : Hid (BoxO w.heap.size ok f1 f2 f3 oi (.slice oa on oc) (w.alloc (.cells #[.int .i64 ok, .int .i64 f1, .int .i64 f2, .int .i64 f3, .int .i64 oi, .slice oa on oc] 33))) := hbo
  have HF : Hid (Few S (k + 1)) := hF.more (by omega)
  have hs0 : B ≤ (w.alloc (.cells #[.int .i64 ok, .int .i64 f1, .int .i64 f2, .int .i64 f3, .int .i64 oi, .slice oa on oc] 33)).heap.size := Nat.le_trans hB hbx.size
  obtain ⟨x0, _, _, _, x4, _⟩ := hbo.cells
  have HX : Hid (B ≤ w.heap.size) := hB
  have hdl : d ≠ w.heap.size := Nat.ne_of_lt hM.dlt.1
  clear hbx hbo hM hF hB
  go_enter Try.func10, Try.ntmps10
  go_upto_region 1 with fail
  generalize w.alloc (.cells #[.int .i64 ok, .int .i64 f1, .int .i64 f2, .int .i64 f3, .int .i64 oi, .slice oa on oc] 33) = w0 at *
  by_cases h2 : ok = 2
  · subst h2
    go_wp2_with fail
    refine (mcut_d B d r S S oi hi w0 HM0.out).mono ?_
    rintro e w1 ⟨rfl, hM1, hb1, hO1⟩
    have x4' : w1.cell? ⟨w.heap.size, 4, none⟩ = some (.int .i64 oi) := by
      rw [← x4]
      exact World.cell?_of_block (a := ⟨w.heap.size, 4, none⟩) (hO1.block _ (fun e => hdl e.symm))
    have HM1 : Hid (Mix B w1 d (S.cut oi) r S) := hM1
    have HN1 : Hid (Below B w w1) := HN0.out.trans hb1
    clear hM1 hb1 hO1
    go_wp2_with fail
    refine (mcut_r B d r (S.cut oi) S oi hi w1 HM1.out (Nat.le_trans HX.out HN1.out.size)).mono ?_
    rintro e w2 ⟨rfl, hM2, hb2⟩
    have R : Post (.returned (.bool true)) w2 := by rw [HP.out]; exact ⟨rfl, HN1.out.trans hb2, S.cut oi, hM2, HF.out.cut oi⟩
    clear HP
    go_wp2
    exact R
  · by_cases h3 : ok = 3
    · subst h3
      go_wp2_with fail
      refine (mup_d B d r S S w0 HM0.out).mono ?_
      rintro e w1 ⟨rfl, hM1, hb1, _⟩
      have HM1 : Hid (Mix B w1 d S.up r S) := hM1
      have HN1 : Hid (Below B w w1) := HN0.out.trans hb1
      clear hM1 hb1
      go_wp2_with fail
      refine (mup_r B d r S.up S w1 HM1.out (Nat.le_trans HX.out HN1.out.size)).mono ?_
      rintro e w2 ⟨rfl, hM2, hb2⟩
      have R : Post (.returned (.bool true)) w2 := by rw [HP.out]; exact ⟨rfl, HN1.out.trans hb2, S.up, hM2, HF.out.up⟩
      clear HP
      go_wp2
      exact R
    · have R : Post (.returned (.bool true)) w0 := by rw [HP.out]; exact ⟨rfl, HN0.out, S, HM0.out, HF.out⟩
      clear HP
      go_wp2
      exact R
theorem Bytes.src {w : World} {a : Option Addr} {n : Nat} {xs : List Int} (h : Bytes w a n xs) : Src w a n xs :=
  ⟨h.n, fun k hk => by
    obtain ⟨b, off, z, e, hc, _, _, hl, hz⟩ := h.get k hk
    refine ⟨b, off, e, World.block_lt_of_cell? w _ hc, ?_⟩
    rw [hc, hz, List.getD_eq_getElem?_getD, List.getElem?_eq_getElem hl]
    rfl, fun k => by
    rw [List.getD_eq_getElem?_getD]
    cases e : xs[k]? with
    | none => exact ⟨by decide, by decide⟩
    | some z => exact h.fit z (List.mem_of_getElem? e)⟩

set_option maxRecDepth 1000000 in
set_option maxHeartbeats 4000000 in
/-- Read. -/
theorem does_read (B d r k : Nat) (S : St) (f1 f2 f3 oi : Int) (oa : Option Addr) (on oc : Nat) (hf : I64F (f1, f2, f3)) (hi : I64 oi) (w : World) (hM : Mix B w d S r S) (hB : B ≤ w.heap.size) (hF : Few S k) :
    Calls Try.prog 10 #[.pointer (some ⟨d, 0, none⟩), .pointer (some ⟨r, 0, none⟩), .agg #[.int .i64 1, .int .i64 f1, .int .i64 f2, .int .i64 f3, .int .i64 oi, .slice oa on oc]] w (DoesSay B d r k w) := by
  obtain ⟨Post, hPost⟩ : ∃ Post, Post = DoesSay B d r k w := ⟨_, rfl⟩
  rw [← hPost]
  have HP : Hid (Post = DoesSay B d r k w) := hPost
  clear hPost
  have hbx : Below w.heap.size w (w.alloc (.cells #[.int .i64 1, .int .i64 f1, .int .i64 f2, .int .i64 f3, .int .i64 oi, .slice oa on oc] 33)) := (Below.refl _ _).alloc (Nat.le_refl _) _
  have hbo : BoxO w.heap.size 1 f1 f2 f3 oi (.slice oa on oc) (w.alloc (.cells #[.int .i64 1, .int .i64 f1, .int .i64 f2, .int .i64 f3, .int .i64 oi, .slice oa on oc] 33)) := heap_alloc_new w _
  have HB0 : Hid (BoxO w.heap.size 1 f1 f2 f3 oi (.slice oa on oc) (w.alloc (.cells #[.int .i64 1, .int .i64 f1, .int .i64 f2, .int .i64 f3, .int .i64 oi, .slice oa on oc] 33))) := hbo
  have HM0 : Hid (Mix B (w.alloc (.cells #[.int .i64 1, .int .i64 f1, .int .i64 f2, .int .i64 f3, .int .i64 oi, .slice oa on oc] 33)) d S r S) := hM.inside hbx
  have HN0 : Hid (Below B w (w.alloc (.cells #[.int .i64 1, .int .i64 f1, .int .i64 f2, .int .i64 f3, .int .i64 oi, .slice oa on oc] 33))) := hbx.mono hB
  have HF : Hid (Few S (k + 1)) := hF.more (by omega)
  have HB : Hid (B ≤ w.heap.size) := hB
  have Hf : Hid (I64F (f1, f2, f3)) := hf
  have Hi : Hid (I64 oi) := hi
  obtain ⟨x0, x1, x2, x3, x4, _⟩ := hbo.cells
  clear hbx hbo hM hF hB hf hi
  go_enter Try.func10, Try.ntmps10
  go_upto_region 1 with fail
  generalize w.alloc (.cells #[.int .i64 1, .int .i64 f1, .int .i64 f2, .int .i64 f3, .int .i64 oi, .slice oa on oc] 33) = w0 at *
  have HR : Hid (∀ w', w0.heap.size ≤ w'.heap.size → (w'.os = w0.os ∧ w'.tape = w0.tape ∧ w'.output = w0.output) → (∀ k, k < w0.heap.size → w'.heap[k]? = w0.heap[k]?) → Post (.returned (.bool true)) w') := fun w' hs hw hk => by
    rw [HP.out]
    have hb : Below w0.heap.size w0 w' := ⟨hw.1, hw.2.1, hw.2.2, hs, hk⟩
    exact ⟨rfl, HN0.out.trans (hb.mono (Nat.le_trans HB.out HN0.out.size)), S, HM0.out.inside hb, HF.out⟩
  obtain ⟨E, L, hEL⟩ : ∃ E L, S.read (f1, f2, f3) oi = (E, L) := ⟨_, _, rfl⟩
  have HEL : Hid (S.read (f1, f2, f3) oi = (E, L)) := hEL
  clear hEL HP
  go_wp2_with fail
  refine (mread_d B d r S S f1 f2 f3 oi Hf.out Hi.out w0 HM0.out).mono ?_
  intro e w1 hr1
  rw [HEL.out] at hr1
  obtain ⟨hb1, hr1⟩ := hr1
  simp only at hr1
  have HB1 : Hid (BoxO w.heap.size 1 f1 f2 f3 oi (.slice oa on oc) w1) := HB0.out.inside hb1
  have HM1 : Hid (Mix B w1 d S r S) := HM0.out.inside hb1
  have Hb1 : Hid (Below w0.heap.size w0 w1) := hb1
  obtain ⟨_, y1, y2, y3, y4, _⟩ := HB1.out.cells
  clear hb1 x0 x1 x2 x3 x4 HM0 HN0
  have hbig : ∀ (w2 : World) (a2 : Option Addr) (c2 : Nat), Below w1.heap.size w1 w2 → True := fun _ _ _ _ => trivial
  clear hbig
  rcases hr1 with ⟨hL, rfl⟩ | ⟨p, hp, rfl, hB1, hl1, hf1⟩
  · subst hL
    go_wp2_with fail
    refine (mread_r B d r S S f1 f2 f3 oi w1 HM1.out).mono ?_
    intro e w2 hr2
    rw [HEL.out] at hr2
    obtain ⟨hb2, a2, c2, rfl, hx2⟩ := hr2
    simp only at hx2 ⊢
    have R := HR.out w2 (Nat.le_trans Hb1.out.size hb2.size) ⟨hb2.os.trans Hb1.out.os, hb2.tape.trans Hb1.out.tape, hb2.output.trans Hb1.out.output⟩ (fun k hk => (hb2.block k (Nat.lt_of_lt_of_le hk Hb1.out.size)).trans (Hb1.out.block k hk))
    obtain ⟨st, hst⟩ : ∃ st, st = strOfNums [] := ⟨_, rfl⟩
    have hc1 : ∀ W : World, (convert 31 9 (.slice none 0 0)).run Try.prog W = .ok (.string st) W := fun W => by rw [hst]; exact conv_c (Bytes.src (Bytes.none W))
    have hc2 : (convert 31 9 (.slice a2 0 c2)).run Try.prog w2 = .ok (.string st) w2 := by rw [hst]; exact conv_c hx2.src
    clear hst HR hx2 hb2 y1 y2 y3 y4
    rw [List.length_nil]
    go_wp2
    refine wp_loop_rounds 1 ?_
    rw [rounds_succ]
    go_wp2
    exact R
  · go_wp2_with fail
    refine (mread_r B d r S S f1 f2 f3 oi w1 HM1.out).mono ?_
    intro e w2 hr2
    rw [HEL.out] at hr2
    obtain ⟨hb2, a2, c2, rfl, hx2⟩ := hr2
    simp only at hx2 ⊢
    have HBp : Hid (Blk w2 p 66 L) := blk_below hB1 hb2
    have HRr : Hid (∀ w', Mid p (p + 1) w2 w' → Post (.returned (.bool true)) w') := fun w' h => by
      refine HR.out w' ?_ ⟨h.os.trans (hb2.os.trans Hb1.out.os), h.tape.trans (hb2.tape.trans Hb1.out.tape), h.output.trans (hb2.output.trans Hb1.out.output)⟩ (fun k hk => ?_)
      · rw [h.size]; exact Nat.le_trans Hb1.out.size hb2.size
      · rw [h.block k (by omega), hb2.block k (Nat.lt_of_lt_of_le hk Hb1.out.size)]
        exact Hb1.out.block k hk
    obtain ⟨st, hst⟩ : ∃ st, st = strOfNums L := ⟨_, rfl⟩
    rw [hl1] at hx2 ⊢
    have hc1 : (convert 31 9 (.slice (some ⟨p, 0, none⟩) 32 32)).run Try.prog w2 = .ok (.string st) w2 := by rw [hst]; have := conv_c (cap := 32) (blk_src HBp.out hf1); rw [hl1] at this; exact this
    have hc2 : (convert 31 9 (.slice a2 32 c2)).run Try.prog w2 = .ok (.string st) w2 := by rw [hst]; exact conv_c hx2.src
    have Hl1 : Hid (L.length = 32) := hl1
    clear hst HR hx2 hb2 y1 y2 y3 y4 hB1 hl1 hf1 hp
    go_wp2
    go_loopw [15] (fun v15 wr => ∃ (j : Nat) (ys : List Int), j ≤ 32 ∧ v15 = .int .i64 (j : Int) ∧ Hid (ys.length = 32 ∧ Blk wr p 66 ys) ∧ Hid (Mid p (p + 1) w2 wr)) (fun v15 _ => 32 - (intOf v15).toNat)
    case atStart => exact ⟨0, L, Nat.zero_le _, rfl, ⟨Hl1.out, HBp.out⟩, Mid.refl _ _ _⟩
    case round =>
      obtain ⟨j, ys, hj, rfl, HO, HD⟩ := hrel
      by_cases hlt : j < 32
      · have hlt' : (j : Int) < 32 := by omega
        have c0 := HO.out.2.cell (k := j) (by rw [HO.out.1]; exact hlt)
        have f0 := HO.out.2.free j
        have HO3 : Hid (∀ z, Blk (wr.setCell ⟨p, j, none⟩ (.int .u8 z)) p 66 (ys.set j z)) := fun z => HO.out.2.set j z
        have HD3 : Hid (∀ z, Mid p (p + 1) w2 (wr.setCell ⟨p, j, none⟩ (.int .u8 z))) := fun z => HD.out.set ⟨Nat.le_refl _, Nat.lt_succ_self _⟩ j _
        generalize ys.getD j 0 = z0 at c0
        go_wp2
        go_roundw
        case rel => exact ⟨j + 1, _, by omega, by simp, ⟨by rw [List.length_set]; exact HO.out.1, HO3.out _⟩, HD3.out _⟩
        case measure => simp [intOf]; omega
      · have R := HRr.out wr HD.out
        go_wp2
        exact R
end Go.Proofs.Ytfpcfgfpebdplaa
