/-
  The document's cache: Put, Get.
-/
import Derived.Test.YtpfhgkgkbefigaaRp0
set_option maxRecDepth 20000
namespace Go.Proofs.Ytpfhgkgkbefigaa
open Go.RowKit Go.Maps

theorem Apart.rem {l : List E} (h : Apart l) (x z : Int) : Apart (remE l x z) := by
  unfold Apart at *
  exact h.filter _
theorem ent_new (w : World) (e : E) : ∀ j u, (ecells [e])[j]? = some u → (w.alloc (.cells #[.int .i64 e.x, .int .i64 e.z, .int .i64 e.v, .bool e.p] 43)).cell? ((⟨w.heap.size, 0, none⟩ : Addr).add j) = some u := fun j u h => by
  rw [Addr.add_lit, Nat.zero_add, cell_of_row _ _ j _ 43 (0, 0) (heap_alloc_new w _)]
  have e1 : ecells [e] = [.int .i64 e.x, .int .i64 e.z, .int .i64 e.v, .bool e.p] := rfl
  rw [e1] at h
  have h2 := (List.getElem?_eq_some_iff.1 h).1
  match j, h2 with
  | 0, _ => exact h
  | 1, _ => exact h
  | 2, _ => exact h
  | 3, _ => exact h
theorem PushS.alloc {r b : Nat} {e : E} {av : Option Addr} {n cv : Nat} {w : World} (h : PushS r b e av n cv w) (o : Obj) : PushS r b e av n cv (w.alloc o) := ⟨cell_alloc h.c1 o, (heap_alloc_old w o (Array.getElem?_eq_some_iff.1 h.ent).1).trans h.ent⟩
theorem Ent.on {w w' : World} {b : Nat} {e : E} (h : Ent w b e) (hb : Below w.heap.size w w') : Ent w' b e := (hb.block b (Array.getElem?_eq_some_iff.1 h).1).trans h
theorem push_end {B : Nat} {W : World} {r b : Nat} {m : Int} {l1 : List E} {a1 : Option Addr} {c1 : Nat} {e : E} (h : Rc B W r m l1 a1 c1) (hsz : l1.length ≤ 900) (hE : Ent W b e) (hne : a1 ≠ some ⟨b, 0, none⟩) :
    PushS r b e a1 l1.length c1 W.drew ∧ Hid (ERow B (W.drew.alloc (.cells #[.int .i64 e.x, .int .i64 e.z, .int .i64 e.v, .bool e.p] 43)) a1 c1 l1 ∧ B ≤ (W.drew.alloc (.cells #[.int .i64 e.x, .int .i64 e.z, .int .i64 e.v, .bool e.p] 43)).heap.size ∧ ∀ w3 a3 c3, ERow B w3 a3 c3 (l1 ++ [e]) → (W.drew.alloc (.cells #[.int .i64 e.x, .int .i64 e.z, .int .i64 e.v, .bool e.p] 43)).grownBy w3 (Value.ownBlock (.slice a1 l1.length c1)) →
      PushS r b e a1 l1.length c1 w3 ∧ w3.frozen? ⟨r, 1, none⟩ = false ∧ Rc B (w3.setCell ⟨r, 1, none⟩ (.slice a3 (l1.length + 1 : Nat) c3)) r m (l1 ++ [e]) a3 c3 ∧ KeepT isD B W (w3.setCell ⟨r, 1, none⟩ (.slice a3 (l1.length + 1 : Nat) c3)) ∧ Ent (w3.setCell ⟨r, 1, none⟩ (.slice a3 (l1.length + 1 : Nat) c3)) b e) := by
  have hd : Below W.heap.size W W.drew := (Below.refl _ W).drew
  have h0 := h.on hd
  have hE0 := hE.on hd
  have hrow : ERow B (W.drew.alloc (.cells #[.int .i64 e.x, .int .i64 e.z, .int .i64 e.v, .bool e.p] 43)) a1 c1 l1 := h0.row.same (fun g e1 => by
    obtain ⟨o, ho, _⟩ := h0.blks g (.inr e1)
    exact heap_alloc_old _ _ (Array.getElem?_eq_some_iff.1 ho).1)
  refine ⟨⟨h0.c1, hE0⟩, hrow, by have := h0.lo; have := h0.lt; rw [World.size_alloc]; omega, fun w3 a3 c3 h3 hg => ?_⟩
  obtain ⟨⟨q1, q2⟩, q3, q4, q5⟩ := h0.push (by omega) h3 hg
  have hb3 : w3.heap[b]? = W.drew.heap[b]? := q4.block b (Array.getElem?_eq_some_iff.1 hE0).1 (fun hf => by
    rcases hf with rfl | hf
    · unfold Ent at hE0
      rw [h0.hd] at hE0
      cases hE0
    · exact hne hf)
  have hbr : b ≠ r := fun e1 => by
    subst e1
    unfold Ent at hE0
    rw [h0.hd] at hE0
    cases hE0
  have hE3 : Ent w3 b e := hb3.trans hE0
  refine ⟨⟨q1, hE3⟩, q2, q3, (KeepT.of_below hd).trans (h0.keepC q5 (fun _ hk => hk)), ?_⟩
  exact (Below.heap_setCell w3 ⟨r, 1, none⟩ _ b hbr).trans hE3
theorem rput_c {B : Nat} {w : World} {r : Nat} {m : Int} {l : List E} {av : Option Addr} {cv : Nat} (h : Rc B w r m l av cv) (ha : Apart l) (hsz : l.length ≤ 900) (x z v : Int) :
    Calls Try.prog 10 #[.pointer (some ⟨r, 0, none⟩), valA x z, .int .i64 v] w fun e w' => e = .returned (.tuple #[]) ∧ (∃ a' c', Rc B w' r m (putE l x z v) a' c') ∧ KeepT isD B w w' := by
  obtain ⟨Post, hPost⟩ : ∃ Post : Ending → World → Prop, Post = fun e w' => e = .returned (.tuple #[]) ∧ (∃ a' c', Rc B w' r m (putE l x z v) a' c') ∧ KeepT isD B w w' := ⟨_, rfl⟩
  rw [← hPost]
  have HP : Hid (∀ w' a' c', Rc B w' r m (putE l x z v) a' c' → KeepT isD B w w' → Post (.returned (.tuple #[])) w') := fun w' a' c' h1 h3 => by rw [hPost]; exact ⟨rfl, ⟨a', c', h1⟩, h3⟩
  clear hPost
  obtain ⟨hb0, x0, x1⟩ := box_new w x z
  go_enter Try.func10, Try.ntmps10
  go_upto_region 1 with fail
  generalize w.alloc (.cells #[.int .i64 x, .int .i64 z] 31) = w0 at *
  go_upto_region 2 with fail
  have hb1 : Below w.heap.size w (w0.alloc (.cells #[.int .i64 x, .int .i64 z, .int .i64 v, .bool false] 43)) := hb0.alloc hb0.size _
  have hE1 : Ent (w0.alloc (.cells #[.int .i64 x, .int .i64 z, .int .i64 v, .bool false] 43)) w0.heap.size ⟨x, z, v, false⟩ := heap_alloc_new w0 _
  have hbr : w.heap.size ≤ w0.heap.size := hb0.size
  have d0 := cell_alloc x0 (.cells #[.int .i64 x, .int .i64 z, .int .i64 v, .bool false] 43)
  have d1 := cell_alloc x1 (.cells #[.int .i64 x, .int .i64 z, .int .i64 v, .bool false] 43)
  clear x0 x1 hb0
  generalize w0.alloc (.cells #[.int .i64 x, .int .i64 z, .int .i64 v, .bool false] 43) = w1 at *
  obtain ⟨b, hb⟩ : ∃ b, w0.heap.size = b := ⟨_, rfl⟩
  rw [hb] at hE1 hbr
  rw [hb]
  have R1 := h.on hb1
  have hp := rplace_c R1 x z
  have hrlt := h.lt
  have hrow : ∀ g, av = some ⟨g, 0, none⟩ → g < w.heap.size := fun g e => by
    obtain ⟨o, ho, _⟩ := h.blks g (.inr e)
    exact (Array.getElem?_eq_some_iff.1 ho).1
  have HK : Hid (∀ w2, Below w1.heap.size w1 w2 → Ent w2 b ⟨x, z, v, false⟩ ∧ Rc B w2 r m l av cv ∧ KeepT isD B w w2) := fun w2 hb2 => ⟨hE1.on hb2, R1.on hb2, (KeepT.of_below hb1).trans (KeepT.of_below hb2)⟩
  have hbr1 : b < w1.heap.size := (Array.getElem?_eq_some_iff.1 hE1).1
  clear R1 hE1 hb1
  cases hfi : l.findIdx? (atE x z) with
  | none =>
    obtain ⟨hrm, hfn⟩ := rem_idx_none hfi
    have hpl : placeE l x z = -1 := by unfold placeE; rw [hfi]
    have hpe : l ++ [⟨x, z, v, false⟩] = putE l x z v := by unfold putE; rw [hrm, hfn]; rfl
    rw [hpl] at hp
    clear h hpl hrm hfn hfi
    go_wp2_with (go_at_call 28; refine hp.mono ?_; clear hp; rintro _ w2 ⟨rfl, hb2⟩)
    obtain ⟨hE2, R2, K2⟩ := HK.out w2 hb2
    obtain ⟨HS, HE⟩ := push_end R2 hsz hE2 (fun e => by have := hrow b e; omega)
    have HF : Hid (∀ W a' c', Rc B W r m (l ++ [⟨x, z, v, false⟩]) a' c' → KeepT isD B w2 W → Post (.returned (.tuple #[])) W) := fun W a' c' q1 q2 => HP.out W a' c' (hpe ▸ q1) (K2.trans q2)
    clear HP R2 K2 hpe hE2 hrow hb2 HK
    have hln : l.length = l.length := rfl
    refine region_L (PushS r b ⟨x, z, v, false⟩ av l.length cv) 10 (by kernel_rfl) ?_
    generalize w2.drew = va at *
    have hHeld : PushS r b ⟨x, z, v, false⟩ av l.length cv va := HS
    have hne : Nonempty (Sub (PushS r b ⟨x, z, v, false⟩ av l.length cv)) := ⟨⟨_, hHeld⟩⟩
    have k0 : ∀ s : Sub (PushS r b ⟨x, z, v, false⟩ av l.length cv), s.w.cell? ⟨r, 1, none⟩ = some (.slice av l.length cv) := fun s => s.ok.c1
    have k1 : ∀ s : Sub (PushS r b ⟨x, z, v, false⟩ av l.length cv), s.w.cell? ⟨b, 0, none⟩ = some (.int .i64 x) := fun s => s.ok.ent.cells.1
    have k2 : ∀ s : Sub (PushS r b ⟨x, z, v, false⟩ av l.length cv), s.w.cell? ⟨b, 1, none⟩ = some (.int .i64 z) := fun s => s.ok.ent.cells.2.1
    have k3 : ∀ s : Sub (PushS r b ⟨x, z, v, false⟩ av l.length cv), s.w.cell? ⟨b, 2, none⟩ = some (.int .i64 v) := fun s => s.ok.ent.cells.2.2.1
    have k4 : ∀ s : Sub (PushS r b ⟨x, z, v, false⟩ av l.length cv), s.w.cell? ⟨b, 3, none⟩ = some (.bool false) := fun s => s.ok.ent.cells.2.2.2
    clear HS
    refine take_L (i := 0) rfl (by kernel_rfl) (by kernel_rfl) (by kernel_rfl) (by kernel_rfl) (fun _ _ _ _ h => h) (by exact hHeld) (fun K hK => ?_)
    go_simp
    refine hK _ ?_
    clear hK K
    refine take_L (i := 1) rfl (by kernel_rfl) (by kernel_rfl) (by kernel_rfl) (by kernel_rfl) (fun _ _ _ _ h => h) (by exact hHeld) (fun K hK => ?_)
    go_simp
    refine hK _ ?_
    clear hK K
    refine take_L (i := 2) rfl (by kernel_rfl) (by kernel_rfl) (by kernel_rfl) (by kernel_rfl) (fun _ _ _ _ h => h) (by exact hHeld) (fun K hK => ?_)
    go_simp
    refine hK _ ?_
    clear hK K
    refine take_L (i := 3) rfl (by kernel_rfl) (by kernel_rfl) (by kernel_rfl) (by kernel_rfl) (fun _ _ _ _ h => h) (by exact hHeld) (fun K hK => ?_)
    go_simp
    refine hK _ ?_
    clear hK K
    refine take_L (i := 4) rfl (by kernel_rfl) (by kernel_rfl) (by kernel_rfl) (by kernel_rfl) (fun _ _ _ _ h => h) (by exact hHeld) (fun K hK => ?_)
    go_simp
    refine hK _ ?_
    clear hK K
    refine take_L (i := 5) rfl (by kernel_rfl) (by kernel_rfl) (by kernel_rfl) (by kernel_rfl) (fun _ _ _ _ h => h) (by exact hHeld) (fun K hK => ?_)
    go_simp
    refine hK _ ?_
    clear hK K
    refine one_L (i := 6) (by kernel_rfl) rfl (fun K hK => ?_)
    go_simp
    refine hK.out _ _ (fun _ => hHeld.alloc _) ?_
    clear hK K
    refine one_W (i := 7) (by kernel_rfl) rfl (fun K hK => ?_)
    refine wpList_append_es rfl _ _ rfl B av cv l.length l hln rfl HE.out.1 ⟨va.heap.size, 0, none⟩ 1 1 [⟨x, z, v, false⟩] rfl rfl (ent_new va ⟨x, z, v, false⟩) (by omega) HE.out.2.1 ?_
    intro a3 c3 w3 hr3 hg3
    obtain ⟨hS3, hf3, Q1, Q2, _⟩ := HE.out.2.2 w3 a3 c3 hr3 hg3
    refine hK.out _ _ (fun _ => hS3) ?_
    have c31 := hS3.c1
    clear hK K hne k0 k1 k2 k3 k4 hr3 hg3 HE hHeld
    have HS3 : Hid (PushS r b ⟨x, z, v, false⟩ av l.length cv w3) := hS3
    clear hS3
    refine one_L (i := 8) (by kernel_rfl) rfl (fun K hK => ?_)
    go_simp
    refine hK.out _ _ (fun _ => HS3.out) ?_
    clear hK K
    refine one_L (i := 9) (by kernel_rfl) rfl (fun K hK => ?_)
    go_simp
    refine hK.out _ _ (fun _ => HS3.out) ?_
    clear hK K
    have R := HF.out _ _ _ Q1 Q2
    clear HF Q1 Q2
    refine one_L (i := 10) (by kernel_rfl) rfl (fun K hK => ?_)
    go_simp
    refine hK.out _ _ (fun h => absurd rfl h) ?_
    clear hK K HS3
    refine done_L (by kernel_rfl) ?_ _
    go_end0
    exact R
  | some k =>
    obtain ⟨hk, hrm, hfn, ekx, ekz⟩ := rem_idx ha hfi
    have hpl : placeE l x z = (k : Int) := by unfold placeE; rw [hfi]
    have hpe : (l.take k ++ l.drop (k + 1)) ++ [⟨x, z, v, l[k].p⟩] = putE l x z v := by unfold putE; rw [hrm, hfn]; rfl
    rw [hpl] at hp
    have hkl : (k : Int) < (l.length : Int) := by omega
    rcases h.row.form with ⟨_, he, _⟩ | ⟨g, rfl⟩
    · rw [he] at hk; simp at hk
    have HC : Hid (∀ w2, Below w1.heap.size w1 w2 → w2.cell? ⟨r, 1, none⟩ = some (.slice (some ⟨g, 0, none⟩) l.length cv) ∧ w2.cell? ⟨g, k * 4 + 3, none⟩ = some (.bool l[k].p)) := fun w2 hb2 => by
      have R2 := (HK.out w2 hb2).2.1
      exact ⟨R2.c1, (R2.row.cell hk).2.2.2⟩
    have hcv : l.length ≤ cv ∧ cv ≤ maxLen := by
      obtain ⟨cur, _, _, hcv, hmx, _⟩ := h.row.blk
      exact ⟨hcv, hmx⟩
    have hln : (l.take k ++ l.drop (k + 1)).length = l.length - 1 := by rw [List.length_append, List.length_take, List.length_drop]; omega
    obtain ⟨y, hy⟩ : ∃ y, l[k].p = y := ⟨_, rfl⟩
    rw [hy] at hpe
    have HC2 : Hid (∀ w2, Below w1.heap.size w1 w2 → w2.cell? ⟨r, 1, none⟩ = some (.slice (some ⟨g, 0, none⟩) l.length cv) ∧ w2.cell? ⟨g, k * 4 + 3, none⟩ = some (.bool y)) := fun w2 hb2 => hy ▸ HC.out w2 hb2
    have HW : Hid (∀ w2, Below w1.heap.size w1 w2 → Calls Try.prog 29 #[.pointer (some ⟨r, 0, none⟩), .int .i64 (k : Int)] (w2.setCell ⟨b, 3, none⟩ (.bool y)) fun e w' => e = .returned (.tuple #[]) ∧ ∃ a' c', PushS r b ⟨x, z, v, y⟩ a' (l.length - 1) c' w'.drew ∧ Hid (ERow B (w'.drew.alloc (.cells #[.int .i64 x, .int .i64 z, .int .i64 v, .bool y] 43)) a' c' (l.take k ++ l.drop (k + 1)) ∧ B ≤ (w'.drew.alloc (.cells #[.int .i64 x, .int .i64 z, .int .i64 v, .bool y] 43)).heap.size ∧ ∀ w3 a3 c3, ERow B w3 a3 c3 ((l.take k ++ l.drop (k + 1)) ++ [⟨x, z, v, y⟩]) → (w'.drew.alloc (.cells #[.int .i64 x, .int .i64 z, .int .i64 v, .bool y] 43)).grownBy w3 (Value.ownBlock (.slice a' (l.length - 1 : Nat) c')) →
        PushS r b ⟨x, z, v, y⟩ a' (l.length - 1) c' w3 ∧ w3.frozen? ⟨r, 1, none⟩ = false ∧ Post (.returned (.tuple #[])) (w3.setCell ⟨r, 1, none⟩ (.slice a3 (l.length - 1 + 1 : Nat) c3)))) := fun w2 hb2 => by
      obtain ⟨hE2, R2, K2⟩ := HK.out w2 hb2
      have hbr : b ≠ r := fun e1 => by omega
      have hbg : b ≠ g := fun e1 => by have := hrow g rfl; omega
      have hbs : Chg (fun k => k = b) w2 (w2.setCell ⟨b, 3, none⟩ (.bool y)) := Chg.set (F := fun k => k = b) (Chg.refl _ _) (.inl rfl) _ _
      have R3 : Rc B (w2.setCell ⟨b, 3, none⟩ (.bool y)) r m l (some ⟨g, 0, none⟩) cv := ⟨(Below.heap_setCell w2 ⟨b, 3, none⟩ _ r (fun e1 => hbr e1.symm)).trans R2.hd, R2.row.same (fun g' e1 => by
        cases e1
        exact Below.heap_setCell w2 ⟨b, 3, none⟩ _ g (fun e1 => hbg e1.symm)), R2.lo, R2.sz⟩
      have hE3 : Ent (w2.setCell ⟨b, 3, none⟩ (.bool y)) b ⟨x, z, v, y⟩ := by
        unfold Ent
        rw [heap_setCell_same w2 b 3 _ 43 _ hE2]
        rfl
      refine (rwithout_c R3 hk).mono ?_
      rintro e w' ⟨rfl, ⟨a', c', q1, q2⟩, q3⟩
      refine ⟨rfl, a', c', ?_⟩
      have hE4 : Ent w' b ⟨x, z, v, y⟩ := (q3.block b (Array.getElem?_eq_some_iff.1 hE3).1 hbr).trans hE3
      obtain ⟨s1, s2⟩ := push_end q1 (by rw [hln]; omega) hE4 (fun e => by
        subst e
        obtain ⟨_, _, hlo, _⟩ := q2.blk
        have h1 := hb2.size
        have h2 : w2.heap.size ≤ (w2.setCell ⟨b, 3, none⟩ (.bool y)).heap.size := hbs.size
        omega)
      rw [hln] at s1 s2
      refine ⟨s1, s2.out.1, s2.out.2.1, fun w3 a3 c3 t1 t2 => ?_⟩
      obtain ⟨u1, u2, u3, u4, _⟩ := s2.out.2.2 w3 a3 c3 t1 t2
      refine ⟨u1, u2, HP.out _ _ _ (hpe ▸ u3) (((K2.trans ?_).trans (KeepT.of_chg q3 (fun k' o hk' ho => by
        subst hk'
        rw [R3.hd] at ho
        cases ho
        exact ⟨R3.lo, rfl⟩))).trans u4)⟩
      exact KeepT.of_chg hbs (fun k' o hk' ho => by
        subst hk'
        unfold Ent at hE2
        rw [hE2] at ho
        cases ho
        exact ⟨by have := h.lo; omega, rfl⟩)
    have HB : Hid (∀ w2, Below w1.heap.size w1 w2 → w2.frozen? ⟨b, 3, none⟩ = false ∧ w2.cell? ⟨b, 3, none⟩ = some (.bool false)) := fun w2 hb2 => ⟨frozen_of_row w2 b 3 _ 43 (HK.out w2 hb2).1, (HK.out w2 hb2).1.cells.2.2.2⟩
    generalize hlm : l.take k ++ l.drop (k + 1) = lm at *
    clear HC HK HP h hpl hrm hfn hfi hrow hy hpe ekx ekz hlm
    go_wp2_with (first
      | (go_at_call 28; refine hp.mono ?_; clear hp; rintro _ w2 ⟨rfl, hb2⟩; obtain ⟨cc1, cc2⟩ := HC2.out w2 hb2; obtain ⟨ff, cc3⟩ := HB.out w2 hb2; have hw := HW.out w2 hb2; clear HC2 HB HW)
      | (go_at_call 29; refine hw.mono ?_; clear hw; rintro _ w4 ⟨rfl, a1, c1, HS, HE⟩))
    clear cc1 cc2 cc3 ff hb2
    have hn1 : l.length - 1 ≤ 900 := by omega
    generalize l.length - 1 = n1 at *
    refine region_L (PushS r b ⟨x, z, v, y⟩ a1 n1 c1) 10 (by kernel_rfl) ?_
    generalize w4.drew = va at *
    have hHeld : PushS r b ⟨x, z, v, y⟩ a1 n1 c1 va := HS
    have hne : Nonempty (Sub (PushS r b ⟨x, z, v, y⟩ a1 n1 c1)) := ⟨⟨_, hHeld⟩⟩
    have k0 : ∀ s : Sub (PushS r b ⟨x, z, v, y⟩ a1 n1 c1), s.w.cell? ⟨r, 1, none⟩ = some (.slice a1 n1 c1) := fun s => s.ok.c1
    have k1 : ∀ s : Sub (PushS r b ⟨x, z, v, y⟩ a1 n1 c1), s.w.cell? ⟨b, 0, none⟩ = some (.int .i64 x) := fun s => s.ok.ent.cells.1
    have k2 : ∀ s : Sub (PushS r b ⟨x, z, v, y⟩ a1 n1 c1), s.w.cell? ⟨b, 1, none⟩ = some (.int .i64 z) := fun s => s.ok.ent.cells.2.1
    have k3 : ∀ s : Sub (PushS r b ⟨x, z, v, y⟩ a1 n1 c1), s.w.cell? ⟨b, 2, none⟩ = some (.int .i64 v) := fun s => s.ok.ent.cells.2.2.1
    have k4 : ∀ s : Sub (PushS r b ⟨x, z, v, y⟩ a1 n1 c1), s.w.cell? ⟨b, 3, none⟩ = some (.bool y) := fun s => s.ok.ent.cells.2.2.2
    clear HS
    refine take_L (i := 0) rfl (by kernel_rfl) (by kernel_rfl) (by kernel_rfl) (by kernel_rfl) (fun _ _ _ _ h => h) (by exact hHeld) (fun K hK => ?_)
    go_simp
    refine hK _ ?_
    clear hK K
    refine take_L (i := 1) rfl (by kernel_rfl) (by kernel_rfl) (by kernel_rfl) (by kernel_rfl) (fun _ _ _ _ h => h) (by exact hHeld) (fun K hK => ?_)
    go_simp
    refine hK _ ?_
    clear hK K
    refine take_L (i := 2) rfl (by kernel_rfl) (by kernel_rfl) (by kernel_rfl) (by kernel_rfl) (fun _ _ _ _ h => h) (by exact hHeld) (fun K hK => ?_)
    go_simp
    refine hK _ ?_
    clear hK K
    refine take_L (i := 3) rfl (by kernel_rfl) (by kernel_rfl) (by kernel_rfl) (by kernel_rfl) (fun _ _ _ _ h => h) (by exact hHeld) (fun K hK => ?_)
    go_simp
    refine hK _ ?_
    clear hK K
    refine take_L (i := 4) rfl (by kernel_rfl) (by kernel_rfl) (by kernel_rfl) (by kernel_rfl) (fun _ _ _ _ h => h) (by exact hHeld) (fun K hK => ?_)
    go_simp
    refine hK _ ?_
    clear hK K
    refine take_L (i := 5) rfl (by kernel_rfl) (by kernel_rfl) (by kernel_rfl) (by kernel_rfl) (fun _ _ _ _ h => h) (by exact hHeld) (fun K hK => ?_)
    go_simp
    refine hK _ ?_
    clear hK K
    refine one_L (i := 6) (by kernel_rfl) rfl (fun K hK => ?_)
    go_simp
    refine hK.out _ _ (fun _ => hHeld.alloc _) ?_
    clear hK K
    refine one_W (i := 7) (by kernel_rfl) rfl (fun K hK => ?_)
    refine wpList_append_es rfl _ _ rfl B a1 c1 n1 lm hln rfl HE.out.1 ⟨va.heap.size, 0, none⟩ 1 1 [⟨x, z, v, y⟩] rfl rfl (ent_new va ⟨x, z, v, y⟩) (by omega) HE.out.2.1 ?_
    intro a3 c3 w3 hr3 hg3
    obtain ⟨hS3, hf3, R⟩ := HE.out.2.2 w3 a3 c3 hr3 hg3
    refine hK.out _ _ (fun _ => hS3) ?_
    have c31 := hS3.c1
    clear hK K hne k0 k1 k2 k3 k4 hr3 hg3 HE hHeld
    have HS3 : Hid (PushS r b ⟨x, z, v, y⟩ a1 n1 c1 w3) := hS3
    clear hS3
    refine one_L (i := 8) (by kernel_rfl) rfl (fun K hK => ?_)
    go_simp
    refine hK.out _ _ (fun _ => HS3.out) ?_
    clear hK K
    refine one_L (i := 9) (by kernel_rfl) rfl (fun K hK => ?_)
    go_simp
    refine hK.out _ _ (fun _ => HS3.out) ?_
    clear hK K
    refine one_L (i := 10) (by kernel_rfl) rfl (fun K hK => ?_)
    go_simp
    refine hK.out _ _ (fun h => absurd rfl h) ?_
    clear hK K HS3
    refine done_L (by kernel_rfl) ?_ _
    go_end0
    exact R
end Go.Proofs.Ytpfhgkgkbefigaa
