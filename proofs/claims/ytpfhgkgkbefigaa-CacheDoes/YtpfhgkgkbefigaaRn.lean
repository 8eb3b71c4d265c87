/-
  The document's cache: Pin, Drop.
-/
import Derived.Test.YtpfhgkgkbefigaaRp
set_option maxRecDepth 20000
namespace Go.Proofs.Ytpfhgkgkbefigaa
open Go.RowKit Go.Maps

theorem set_idx {l : List E} {x z : Int} (ha : Apart l) {k : Nat} (h : l.findIdx? (atE x z) = some k) {b : Bool} : ∃ hk : k < l.length, setE l x z b = l.set k { l[k] with p := b } := by
  obtain ⟨hk, h1, _⟩ := List.findIdx?_eq_some_iff_getElem.1 h
  have hxz : l[k].x = x ∧ l[k].z = z := by simpa [atE] using h1
  refine ⟨hk, List.ext_getElem (by simp [setE]) (fun i h2 h3 => ?_)⟩
  have hi : i < l.length := by simpa [setE] using h2
  rw [List.getElem_set]
  simp only [setE, List.getElem_map]
  by_cases e : k = i
  · subst e
    rw [if_pos rfl, if_pos h1]
  · rw [if_neg e]
    have hne : atE x z l[i] = false := by
      have hp := List.pairwise_iff_getElem.1 ha
      refine decide_eq_false (fun hh => ?_)
      rcases Nat.lt_or_gt_of_ne e with hlt | hlt
      · exact hp k i hk hi hlt ⟨hxz.1.trans hh.1.symm, hxz.2.trans hh.2.symm⟩
      · exact hp i k hi hk hlt ⟨hh.1.trans hxz.1.symm, hh.2.trans hxz.2.symm⟩
    rw [hne]
    rfl
theorem ecells_set : ∀ (l : List E) (k : Nat) (hk : k < l.length) (b : Bool), ecells (l.set k { l[k] with p := b }) = (ecells l).set (k * 4 + 3) (.bool b)
  | _ :: _, 0, _, _ => rfl
  | e :: l, k + 1, hk, b => by
    have hk' : k < l.length := by simpa using hk
    have ih := ecells_set l k hk' b
    show ecell e ++ ecells (l.set k { l[k] with p := b }) = (ecell e ++ ecells l).set ((k + 1) * 4 + 3) (.bool b)
    rw [ih, show (k + 1) * 4 + 3 = (k * 4 + 3) + 1 + 1 + 1 + 1 by omega]
    rfl
theorem Rc.setP {B : Nat} {w : World} {r g : Nat} {m : Int} {l : List E} {cv : Nat} (h : Rc B w r m l (some ⟨g, 0, none⟩) cv) (ha : Apart l) {x z : Int} {k : Nat} (hi : l.findIdx? (atE x z) = some k) (b : Bool) :
    Rc B (w.setCell ⟨g, k * 4 + 3, none⟩ (.bool b)) r m (setE l x z b) (some ⟨g, 0, none⟩) cv ∧ KeepT isD B w (w.setCell ⟨g, k * 4 + 3, none⟩ (.bool b)) := by
  obtain ⟨hk, he⟩ := set_idx ha hi (b := b)
  obtain ⟨cur, hg, hB, hcv, hmx, hcs, htk⟩ := h.row.blk
  have hgr : g ≠ r := fun e => by
    subst e
    rw [h.hd] at hg
    cases hg
  have hlen : (setE l x z b).length = l.length := by simp [setE]
  have hC : Chg (fun k => k = g) w (w.setCell ⟨g, k * 4 + 3, none⟩ (.bool b)) := Chg.set (F := fun k => k = g) (Chg.refl _ _) (.inl rfl) _ _
  refine ⟨⟨?_, ⟨by rw [ecells_len], .inr ⟨g, cv, _, by rw [hlen], hB, heap_setCell_same w g (k * 4 + 3) cur 43 _ hg, by rw [hlen]; exact hcv, hmx, by simp [hcs], ?_⟩⟩, h.lo, by rw [hlen]; exact h.sz⟩, h.keepC hC (fun k' hk' => .inr (by rw [hk']))⟩
  · rw [hlen]
    exact (hC.block r h.lt (fun e => hgr e.symm)).trans h.hd
  · rw [hlen, Array.toList_setIfInBounds, List.take_set, htk, he, ecells_set]
theorem rpin_c {B : Nat} {w : World} {r : Nat} {m : Int} {l : List E} {av : Option Addr} {cv : Nat} (h : Rc B w r m l av cv) (ha : Apart l) (x z : Int) (b : Bool) :
    Calls Try.prog 14 #[.pointer (some ⟨r, 0, none⟩), valA x z, .bool b] w fun e w' => e = .returned (.bool (okE l x z b)) ∧ (∃ a' c', Rc B w' r m (pinE l x z b) a' c') ∧ KeepT isD B w w' := by
  obtain ⟨Post, hPost⟩ : ∃ Post : Ending → World → Prop, Post = fun e w' => e = .returned (.bool (okE l x z b)) ∧ (∃ a' c', Rc B w' r m (pinE l x z b) a' c') ∧ KeepT isD B w w' := ⟨_, rfl⟩
  rw [← hPost]
  have HP : Hid (∀ w' a' c' t, okE l x z b = t → Rc B w' r m (if t then setE l x z b else l) a' c' → KeepT isD B w w' → Post (.returned (.bool t)) w') := fun w' a' c' t e1 h1 h3 => by
    rw [hPost]
    unfold pinE
    rw [e1]
    exact ⟨rfl, ⟨a', c', h1⟩, h3⟩
  clear hPost
  obtain ⟨hb1, d0, d1⟩ := box_new w x z
  go_enter Try.func14, Try.ntmps14
  go_upto_region 1 with fail
  generalize w.alloc (.cells #[.int .i64 x, .int .i64 z] 31) = w1 at *
  have R1 := h.on hb1
  have hp := rplace_c R1 x z
  have HK : Hid (∀ w2, Below w1.heap.size w1 w2 → Rc B w2 r m l av cv ∧ KeepT isD B w w2) := fun w2 hb2 => ⟨R1.on hb2, (KeepT.of_below hb1).trans (KeepT.of_below hb2)⟩
  have hsz := h.sz
  clear R1 hb1
  cases hfi : l.findIdx? (atE x z) with
  | none =>
    obtain ⟨hrm, hfn⟩ := rem_idx_none hfi
    have hpl : placeE l x z = -1 := by unfold placeE; rw [hfi]
    rw [hpl] at hp
    have hok : okE l x z b = false := by unfold okE; rw [hfn]
    have HR : Hid (∀ w2, Below w1.heap.size w1 w2 → Post (.returned (.bool false)) w2) := fun w2 hb2 => HP.out w2 av cv false hok (HK.out w2 hb2).1 (HK.out w2 hb2).2
    clear h hpl hrm hfn hfi HP HK hok
    go_wp2_with (go_at_call 28; refine hp.mono ?_; clear hp; rintro _ w2 ⟨rfl, hb2⟩; have R := HR.out w2 hb2; clear HR)
    exact R
  | some k =>
    obtain ⟨hk, hrm, hfn, ekx, ekz⟩ := rem_idx ha hfi
    have hpl : placeE l x z = (k : Int) := by unfold placeE; rw [hfi]
    rw [hpl] at hp
    have hkl : (k : Int) < (l.length : Int) := by omega
    rcases h.row.form with ⟨_, he, _⟩ | ⟨g, rfl⟩
    · rw [he] at hk; simp at hk
    have hcv : l.length ≤ cv ∧ cv ≤ maxLen := by
      obtain ⟨cur, _, _, hcv, hmx, _⟩ := h.row.blk
      exact ⟨hcv, hmx⟩
    obtain ⟨y, hy⟩ : ∃ y, l[k].p = y := ⟨_, rfl⟩
    have hok : okE l x z b = (y != b) := by unfold okE; rw [hfn]; show (l[k].p != b) = _; rw [hy]
    have HC : Hid (∀ w2, Below w1.heap.size w1 w2 → w2.cell? ⟨r, 1, none⟩ = some (.slice (some ⟨g, 0, none⟩) l.length cv) ∧ w2.cell? ⟨g, k * 4 + 3, none⟩ = some (.bool y) ∧ w2.frozen? ⟨g, k * 4 + 3, none⟩ = false) := fun w2 hb2 => by
      have R2 := (HK.out w2 hb2).1
      rw [← hy]
      exact ⟨R2.c1, (R2.row.cell hk).2.2.2, R2.row.free _⟩
    have HR : Hid (∀ w2, Below w1.heap.size w1 w2 → ((y != b) = false → Post (.returned (.bool false)) w2) ∧ ((y != b) = true → Post (.returned (.bool true)) (w2.setCell ⟨g, k * 4 + 3, none⟩ (.bool b)))) := fun w2 hb2 => by
      obtain ⟨R2, K2⟩ := HK.out w2 hb2
      refine ⟨fun e => HP.out w2 _ cv false (hok.trans e) R2 K2, fun e => ?_⟩
      obtain ⟨q1, q2⟩ := R2.setP ha hfi b
      exact HP.out _ _ cv true (hok.trans e) q1 (K2.trans q2)
    clear h hpl hrm hfn hfi HP HK hok hy ekx ekz
    by_cases e : y = b
    · have HR1 : Hid (∀ w2, Below w1.heap.size w1 w2 → Post (.returned (.bool false)) w2) := fun w2 hb2 => (HR.out w2 hb2).1 (by rw [e]; simp)
      subst e
      clear HR
      go_wp2_with (go_at_call 28; refine hp.mono ?_; clear hp; rintro _ w2 ⟨rfl, hb2⟩; have R := HR1.out w2 hb2; obtain ⟨cc1, cc2, cc3⟩ := HC.out w2 hb2; clear HR1 HC)
      exact R
    · have HR1 : Hid (∀ w2, Below w1.heap.size w1 w2 → Post (.returned (.bool true)) (w2.setCell ⟨g, k * 4 + 3, none⟩ (.bool b))) := fun w2 hb2 => (HR.out w2 hb2).2 (by simpa using e)
      have hyb : (y == b) = false := by simpa using e
      clear HR
      go_wp2_with (go_at_call 28; refine hp.mono ?_; clear hp; rintro _ w2 ⟨rfl, hb2⟩; have R := HR1.out w2 hb2; obtain ⟨cc1, cc2, cc3⟩ := HC.out w2 hb2; clear HR1 HC)
      exact R
theorem rdrop_c {B : Nat} {w : World} {r : Nat} {m : Int} {l : List E} {av : Option Addr} {cv : Nat} (h : Rc B w r m l av cv) (ha : Apart l) (x z : Int) :
    Calls Try.prog 17 #[.pointer (some ⟨r, 0, none⟩), valA x z] w fun e w' => e = .returned (.bool (okE l x z true)) ∧ (∃ a' c', Rc B w' r m (dropE l x z) a' c') ∧ KeepT isD B w w' := by
  obtain ⟨Post, hPost⟩ : ∃ Post : Ending → World → Prop, Post = fun e w' => e = .returned (.bool (okE l x z true)) ∧ (∃ a' c', Rc B w' r m (dropE l x z) a' c') ∧ KeepT isD B w w' := ⟨_, rfl⟩
  rw [← hPost]
  have HP : Hid (∀ w' a' c' t, okE l x z true = t → Rc B w' r m (if t then remE l x z else l) a' c' → KeepT isD B w w' → Post (.returned (.bool t)) w') := fun w' a' c' t e1 h1 h3 => by
    rw [hPost]
    unfold dropE
    rw [e1]
    exact ⟨rfl, ⟨a', c', h1⟩, h3⟩
  clear hPost
  obtain ⟨hb1, d0, d1⟩ := box_new w x z
  go_enter Try.func17, Try.ntmps17
  go_upto_region 1 with fail
  generalize w.alloc (.cells #[.int .i64 x, .int .i64 z] 31) = w1 at *
  have R1 := h.on hb1
  have hp := rplace_c R1 x z
  have HK : Hid (∀ w2, Below w1.heap.size w1 w2 → Rc B w2 r m l av cv ∧ KeepT isD B w w2) := fun w2 hb2 => ⟨R1.on hb2, (KeepT.of_below hb1).trans (KeepT.of_below hb2)⟩
  have hsz := h.sz
  clear R1 hb1
  cases hfi : l.findIdx? (atE x z) with
  | none =>
    obtain ⟨hrm, hfn⟩ := rem_idx_none hfi
    have hpl : placeE l x z = -1 := by unfold placeE; rw [hfi]
    rw [hpl] at hp
    have hok : okE l x z true = false := by unfold okE; rw [hfn]
    have HR : Hid (∀ w2, Below w1.heap.size w1 w2 → Post (.returned (.bool false)) w2) := fun w2 hb2 => HP.out w2 av cv false hok (HK.out w2 hb2).1 (HK.out w2 hb2).2
    clear h hpl hrm hfn hfi HP HK hok
    go_wp2_with (go_at_call 28; refine hp.mono ?_; clear hp; rintro _ w2 ⟨rfl, hb2⟩; have R := HR.out w2 hb2; clear HR)
    exact R
  | some k =>
    obtain ⟨hk, hrm, hfn, ekx, ekz⟩ := rem_idx ha hfi
    have hpl : placeE l x z = (k : Int) := by unfold placeE; rw [hfi]
    rw [hpl] at hp
    have hkl : (k : Int) < (l.length : Int) := by omega
    rcases h.row.form with ⟨_, he, _⟩ | ⟨g, rfl⟩
    · rw [he] at hk; simp at hk
    have hcv : l.length ≤ cv ∧ cv ≤ maxLen := by
      obtain ⟨cur, _, _, hcv, hmx, _⟩ := h.row.blk
      exact ⟨hcv, hmx⟩
    obtain ⟨y, hy⟩ : ∃ y, l[k].p = y := ⟨_, rfl⟩
    have hok : okE l x z true = !y := by unfold okE; rw [hfn]; show (l[k].p != true) = _; rw [hy]; cases y <;> rfl
    have HC : Hid (∀ w2, Below w1.heap.size w1 w2 → w2.cell? ⟨r, 1, none⟩ = some (.slice (some ⟨g, 0, none⟩) l.length cv) ∧ w2.cell? ⟨g, k * 4 + 3, none⟩ = some (.bool y)) := fun w2 hb2 => by
      have R2 := (HK.out w2 hb2).1
      rw [← hy]
      exact ⟨R2.c1, (R2.row.cell hk).2.2.2⟩
    have HR : Hid (∀ w2, Below w1.heap.size w1 w2 → (y = true → Post (.returned (.bool false)) w2) ∧ (y = false → Calls Try.prog 29 #[.pointer (some ⟨r, 0, none⟩), .int .i64 (k : Int)] w2 fun e w' => e = .returned (.tuple #[]) ∧ Post (.returned (.bool true)) w')) := fun w2 hb2 => by
      obtain ⟨R2, K2⟩ := HK.out w2 hb2
      refine ⟨fun e => HP.out w2 _ cv false (by rw [hok, e]; rfl) R2 K2, fun e => (rwithout_c R2 hk).mono ?_⟩
      rintro e' w' ⟨rfl, ⟨a', c', q1, _⟩, q3⟩
      refine ⟨rfl, HP.out _ a' c' true (by rw [hok, e]; rfl) (by rw [← hrm] at q1; exact q1) (K2.trans (KeepT.of_chg q3 (fun k' o hk' ho => by
        subst hk'
        rw [R2.hd] at ho
        cases ho
        exact ⟨R2.lo, rfl⟩)))⟩
    clear h hpl hrm hfn hfi HP HK hok hy ekx ekz
    cases y
    · have HR1 : Hid (∀ w2, Below w1.heap.size w1 w2 → Calls Try.prog 29 #[.pointer (some ⟨r, 0, none⟩), .int .i64 (k : Int)] w2 fun e w' => e = .returned (.tuple #[]) ∧ Post (.returned (.bool true)) w') := fun w2 hb2 => (HR.out w2 hb2).2 rfl
      clear HR
      go_wp2_with (first
        | (go_at_call 28; refine hp.mono ?_; clear hp; rintro _ w2 ⟨rfl, hb2⟩; have hw := HR1.out w2 hb2; obtain ⟨cc1, cc2⟩ := HC.out w2 hb2; clear HR1 HC)
        | (go_at_call 29; refine hw.mono ?_; clear hw; rintro _ w4 ⟨rfl, R⟩))
      exact R
    · have HR1 : Hid (∀ w2, Below w1.heap.size w1 w2 → Post (.returned (.bool false)) w2) := fun w2 hb2 => (HR.out w2 hb2).1 rfl
      clear HR
      go_wp2_with (go_at_call 28; refine hp.mono ?_; clear hp; rintro _ w2 ⟨rfl, hb2⟩; have R := HR1.out w2 hb2; obtain ⟨cc1, cc2⟩ := HC.out w2 hb2; clear HR1 HC)
      exact R
end Go.Proofs.Ytpfhgkgkbefigaa
