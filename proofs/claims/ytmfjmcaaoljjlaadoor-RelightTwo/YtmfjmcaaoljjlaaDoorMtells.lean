/-
  What is asked of the program's fields; the laws' tells.
-/
import Derived.Test.YtmfjmcaaoljjlaaDoorMlight
import Derived.Test.YtmfjmcaaoljjlaaDoorMnew
import Derived.Test.YtmfjmcaaoljjlaaDoorLheld
import Derived.Deep.DeepCutAuto
set_option maxRecDepth 20000
namespace Go.Proofs.YtmfjmcaaoljjlaaDoor
open C Go.RowKit L

/-- Just blocks of F or new ones are others. -/
structure OnlyF (F : Nat → Prop) (w w' : World) : Prop where
  os : w'.os = w.os
  tape : w'.tape = w.tape
  output : w'.output = w.output
  size : w.heap.size ≤ w'.heap.size
  block : ∀ j, j < w.heap.size → ¬ F j → w'.heap[j]? = w.heap[j]?
theorem OnlyF.of {F : Nat → Prop} {w w' : World} (h : Below w.heap.size w w') : OnlyF F w w' := ⟨h.os, h.tape, h.output, h.size, fun j hj _ => h.block j hj⟩
theorem OnlyF.trans {F F' : Nat → Prop} {w w1 w2 : World} (h : OnlyF F w w1) (h' : OnlyF F' w1 w2) (hF : ∀ j, j < w.heap.size → F' j → F j) : OnlyF F w w2 :=
  ⟨h'.os.trans h.os, h'.tape.trans h.tape, h'.output.trans h.output, Nat.le_trans h.size h'.size, fun j hj hn => (h'.block j (Nat.lt_of_lt_of_le hj h.size) (fun q => hn (hF j hj q))).trans (h.block j hj hn)⟩
/-- A field of the program: A W D T bs p F w: at p, with the kinds bs; F: the blocks that are its own. -/
structure JSpec where
  G : World → Prop
  A : Nat → Nat → Nat → List Int → Nat → (Nat → Prop) → World → Prop
  gon : ∀ {w w' : World}, G w → Below w.heap.size w w' → G w'
  gof : ∀ {W D T : Nat} {bs : List Int} {p : Nat} {F : Nat → Prop} {w w' : World}, G w → A W D T bs p F w → OnlyF F w w' → G w'
  lt : ∀ {W D T : Nat} {bs : List Int} {p : Nat} {F : Nat → Prop} {w : World}, A W D T bs p F w → ∀ j, F j → j < w.heap.size
  keep : ∀ {W D T : Nat} {bs : List Int} {p : Nat} {F : Nat → Prop} {w w' : World}, A W D T bs p F w → w.heap.size ≤ w'.heap.size → (∀ j, F j → w'.heap[j]? = w.heap[j]?) → A W D T bs p F w'
  new : ∀ (W D T : Int) (a : Option Addr) (n c : Nat) (bs : List Int) (w : World), G w → n ≤ 1000000 → Src w a n bs → Calls Tryd.prog 10 #[.int .i64 W, .int .i64 D, .int .i64 T, .slice a n c] w (NewAs W D T n bs w fun p w' => ∃ (F : Nat → Prop) (W1 D1 T1 : Nat), W = W1 ∧ D = D1 ∧ T = T1 ∧ A W1 D1 T1 bs p F w' ∧ ∀ j, F j → w.heap.size ≤ j)
  set : ∀ (W D T : Nat) (bs : List Int) (p : Nat) (F : Nat → Prop) (i k : Int) (w : World), Bx W D T → G w → A W D T bs p F w → Kinds bs → bs.length = W * D * T → Calls Tryd.prog 14 #[.pointer (some ⟨p, 0, none⟩), .int .i64 i, .int .i64 k] w fun e w' =>
    (¬ (0 ≤ i ∧ i < ((W * D * T : Nat) : Int)) ∧ e = .returned (.int .i64 1) ∧ ∃ F', A W D T bs p F' w' ∧ OnlyF F w w' ∧ ∀ j, F' j → F j ∨ w.heap.size ≤ j) ∨
    ((0 ≤ i ∧ i < ((W * D * T : Nat) : Int)) ∧ ¬ (0 ≤ k ∧ k ≤ 16) ∧ e = .returned (.int .i64 10) ∧ ∃ F', A W D T bs p F' w' ∧ OnlyF F w w' ∧ ∀ j, F' j → F j ∨ w.heap.size ≤ j) ∨
    (∃ I : Nat, i = (I : Int) ∧ I < W * D * T ∧ (0 ≤ k ∧ k ≤ 16) ∧ e = .returned (.int .i64 0) ∧ ∃ F', A W D T (bs.set I k) p F' w' ∧ OnlyF F w w' ∧ ∀ j, F' j → F j ∨ w.heap.size ≤ j)
  kinds : ∀ (W D T : Nat) (bs : List Int) (p : Nat) (F : Nat → Prop) (w : World), Bx W D T → G w → A W D T bs p F w → Kinds bs → bs.length = W * D * T → Calls Tryd.prog 17 #[.pointer (some ⟨p, 0, none⟩)] w fun e w' =>
    ∃ g c F', e = .returned (.slice (some ⟨g, 0, none⟩) (W * D * T) c) ∧ Pre w' g 5 bs ∧ w.heap.size ≤ g ∧ ¬ F' g ∧ A W D T bs p F' w' ∧ OnlyF F w w' ∧ ∀ j, F' j → F j ∨ w.heap.size ≤ j
  sky : ∀ (W D T : Nat) (bs : List Int) (p : Nat) (F : Nat → Prop) (w : World) (hb : Bx W D T), G w → A W D T bs p F w → Kinds bs → bs.length = W * D * T → Calls Tryd.prog 12 #[.pointer (some ⟨p, 0, none⟩)] w fun e w' =>
    ∃ g c F' l, e = .returned (.slice (some ⟨g, 0, none⟩) (W * D * T) c) ∧ Pre w' g 5 l ∧ LightOf (L.skyS W D T (fun j => bs.getD j 0) hb.w0 hb.d0) (W * D * T) l ∧ w.heap.size ≤ g ∧ ¬ F' g ∧ A W D T bs p F' w' ∧ OnlyF F w w' ∧ ∀ j, F' j → F j ∨ w.heap.size ≤ j
  lamp : ∀ (W D T : Nat) (bs : List Int) (p : Nat) (F : Nat → Prop) (w : World) (hb : Bx W D T), G w → A W D T bs p F w → Kinds bs → bs.length = W * D * T → Calls Tryd.prog 16 #[.pointer (some ⟨p, 0, none⟩)] w fun e w' =>
    ∃ g c F' l, e = .returned (.slice (some ⟨g, 0, none⟩) (W * D * T) c) ∧ Pre w' g 5 l ∧ LightOf (L.lampS W D T (fun j => bs.getD j 0) hb.w0 hb.d0) (W * D * T) l ∧ w.heap.size ≤ g ∧ ¬ F' g ∧ A W D T bs p F' w' ∧ OnlyF F w w' ∧ ∀ j, F' j → F j ∨ w.heap.size ≤ j
theorem lv_kinds {s : L.Sys} {n : Nat} {a : List Int} (h : LightOf s n a) : Kinds a := fun x hx => by
  obtain ⟨i, hi, rfl⟩ := List.getElem_of_mem hx
  have := h.lv i
  rw [List.getD_eq_getElem?_getD, List.getElem?_eq_getElem hi] at this
  simp only [Option.getD_some] at this
  omega
theorem pre_text {w : World} {g n c : Nat} {t : TypeId} {cs : List Int} (h : Pre w g t cs) (hl : cs.length = n) (hk : Kinds cs) : (convert 22 9 (.slice (some ⟨g, 0, none⟩) n c)).run Tryd.prog w = .ok (.string (strOfNums cs)) w := by
  have hs := Pre.src h hk
  rw [hl] at hs
  exact conv_c hs
/-- What is read in tells' last region. -/
structure TS (a : Option Addr) (n : Nat) (bs la lb : List Int) (ga gb : Nat) (W : World) : Prop where
  src : Src W a n bs
  sky : Pre W ga 5 la
  lamp : Pre W gb 5 lb
theorem Src.only {a : Option Addr} {n : Nat} {bs : List Int} {F : Nat → Prop} {w w' : World} (h : Src w a n bs) (ho : OnlyF F w w') (hF : ∀ b o, a = some ⟨b, o, none⟩ → ¬ F b) : Src w' a n bs :=
  ⟨h.len, fun k hk => by
    obtain ⟨b, o, e, hlt, hc⟩ := h.cells k hk
    refine ⟨b, o, e, Nat.lt_of_lt_of_le hlt ho.size, ?_⟩
    rw [← hc]
    unfold World.cell?
    rw [show w'.heap[b]? = w.heap[b]? from ho.block b hlt (hF b o e)], h.byte⟩
theorem Pre.only {g : Nat} {t : TypeId} {cs : List Int} {F : Nat → Prop} {w w' : World} (h : Pre w g t cs) (ho : OnlyF F w w') (hF : ¬ F g) : Pre w' g t cs := by
  obtain ⟨cur, hc, hr⟩ := h
  exact ⟨cur, (ho.block g (Array.getElem?_eq_some_iff.1 hc).1 hF).trans hc, hr⟩
structure JV (F : Nat → Prop) (va : World) (a : Option Addr) (ga gb : Nat) : Prop where
  sa : ∀ b o, a = some ⟨b, o, none⟩ → ¬ F b ∧ b < va.heap.size
  sg : ¬ F ga ∧ ga < va.heap.size
  sl : ¬ F gb ∧ gb < va.heap.size
structure JS (J : JSpec) (W D T : Nat) (bs : List Int) (p : Nat) (F : Nat → Prop) (va : World) (a : Option Addr) (n : Nat) (la lb : List Int) (ga gb : Nat) (F1 : Nat → Prop) (W1 : World) : Prop where
  g : J.G W1
  fa : J.A W D T bs p F1 W1
  o : OnlyF F va W1
  s : ∀ j, F1 j → F j ∨ va.heap.size ≤ j
  ts : TS a n bs la lb ga gb W1
theorem JS.step {J : JSpec} {W D T : Nat} {bs : List Int} {p : Nat} {F : Nat → Prop} {va : World} {a : Option Addr} {n : Nat} {la lb : List Int} {ga gb : Nat} {F1 F2 : Nat → Prop} {W1 W2 : World} (h : JS J W D T bs p F va a n la lb ga gb F1 W1) (v : JV F va a ga gb) (hA : J.A W D T bs p F2 W2) (ho : OnlyF F1 W1 W2) (hs : ∀ j, F2 j → F1 j ∨ W1.heap.size ≤ j) : JS J W D T bs p F va a n la lb ga gb F2 W2 := by
  have hsz := h.o.size
  refine ⟨J.gof h.g h.fa ho, hA, h.o.trans ho (fun j hj q => (h.s j q).resolve_right (by omega)), fun j q => (hs j q).elim (h.s j) (fun r => .inr (by omega)), h.ts.src.only ho (fun b o e q => (h.s b q).elim (v.sa b o e).1 (fun r => by have := (v.sa b o e).2; omega)), h.ts.sky.only ho (fun q => (h.s _ q).elim v.sg.1 (fun r => by have := v.sg.2; omega)), h.ts.lamp.only ho (fun q => (h.s _ q).elim v.sl.1 (fun r => by have := v.sl.2; omega))⟩
set_option maxRecDepth 1000000 in
set_option maxHeartbeats 4000000 in
theorem tells_c (J : JSpec) (W D T : Nat) (bs : List Int) (p : Nat) (F : Nat → Prop) (a : Option Addr) (n c : Nat) (w : World) (hok : OkDims W D T n) (hb : Bx W D T) (hG : J.G w) (hA : J.A W D T bs p F w) (hk : Kinds bs) (hS : Src w a n bs) (hap : ∀ b o, a = some ⟨b, o, none⟩ → ¬ F b) :
    Calls Tryd.prog 13 #[.pointer (some ⟨p, 0, none⟩), .slice a n c, .int .i64 W, .int .i64 D, .int .i64 T] w fun e w' => e = .returned (.bool true) ∧ ∃ F', J.A W D T bs p F' w' ∧ OnlyF F w w' ∧ ∀ j, F' j → F j ∨ w.heap.size ≤ j := by
  obtain ⟨Post, hPost⟩ : ∃ Post : Ending → World → Prop, Post = fun e w' => e = .returned (.bool true) ∧ ∃ F', J.A W D T bs p F' w' ∧ OnlyF F w w' ∧ ∀ j, F' j → F j ∨ w.heap.size ≤ j := ⟨_, rfl⟩
  rw [← hPost]
  have HP : Hid (∀ w' F', J.A W D T bs p F' w' → OnlyF F w w' → (∀ j, F' j → F j ∨ w.heap.size ≤ j) → Post (.returned (.bool true)) w') := fun w' F' h1 h2 h3 => by rw [hPost]; exact ⟨rfl, F', h1, h2, h3⟩
  clear hPost
  have hn : n = W * D * T := by have := hok.2; exact_mod_cast this
  have hn1 : n ≤ 1000000 := by rw [hn]; exact Nat.le_trans (Nat.mul_le_mul (Nat.mul_le_mul hb.w1 hb.d1) hb.t1) (by decide)
  have HI : Hid (OkDims W D T n ∧ Bx W D T ∧ n = W * D * T ∧ Kinds bs ∧ bs.length = n) := ⟨hok, hb, hn, hk, hS.len⟩
  have H0 : Hid (J.G w ∧ J.A W D T bs p F w ∧ Src w a n bs ∧ ∀ b o, a = some ⟨b, o, none⟩ → ¬ F b) := ⟨hG, hA, hS, hap⟩
  have hne := rnew_c W D T a n c bs w hn1 hS
  clear hok hn hk hS hG hA hap
  go_enter Tryd.func13, Tryd.ntmps13
  go_wp2_with fail
  refine hne.mono ?_
  clear hne
  rintro _ w1 (⟨h, _⟩ | ⟨_, h, _⟩ | ⟨_, _, g, rfl, hR, hb1⟩)
  · exact absurd HI.out.1 h
  · exact absurd HI.out.2.2.2.1 h
  obtain ⟨kb, cap, hF, hK, _, _⟩ := hR
  have H1 : Hid (Below w.heap.size w w1) := hb1
  have hli := rlight_c g kb n cap W D T bs w1 HI.out.2.1 hF hK HI.out.2.2.1 HI.out.2.2.2.2 HI.out.2.2.2.1
  clear hF hK hb1
  go_wp2_with fail
  refine hli.mono ?_
  clear hli
  rintro _ w2 ⟨ga, gb, rfl, hL⟩
  obtain ⟨la, hla, hpa⟩ := hL.sky
  obtain ⟨lb, hlb, hpb⟩ := hL.lamp
  have hb2 : Below w.heap.size w w2 := H1.out.trans (hL.bel.mono H1.out.size)
  have H2 : Hid (J.G w2 ∧ J.A W D T bs p F w2 ∧ (∀ b o, a = some ⟨b, o, none⟩ → ¬ F b) ∧ Below w.heap.size w w2 ∧ w.heap.size ≤ ga ∧ w.heap.size ≤ gb ∧ TS a n bs la lb ga gb w2) := by
    obtain ⟨h1, h2, h3, h4⟩ := H0.out
    have := H1.out.size
    exact ⟨J.gon h1 hb2, J.keep h2 hb2.size (fun j hj => hb2.block j (J.lt h2 j hj)), h4, hb2, by have := hL.lo.1; omega, by have := hL.lo.2.1; omega, h3.on hb2 (Nat.le_refl _), hpa, hpb⟩
  have HLt : Hid (LightOf (L.skyS W D T (fun j => bs.getD j 0) hb.w0 hb.d0) n la ∧ LightOf (L.lampS W D T (fun j => bs.getD j 0) hb.w0 hb.d0) n lb) := ⟨hla, hlb⟩
  have HFl : Hid (∀ j, F j → j < w.heap.size) := J.lt H0.out.2.1
  clear hla hlb hpa hpb hb2 hL H0 H1
  go_wp2_with fail
  refine region_L (TS a n bs la lb ga gb) 22 (by kernel_rfl) ?_
  obtain ⟨va, hva⟩ : ∃ va, w2.drew = va := ⟨_, rfl⟩
  have hd : Below w2.heap.size w2 va := by rw [← hva]; exact (Below.refl _ w2).drew
  have hHeld : TS a n bs la lb ga gb va := ⟨H2.out.2.2.2.2.2.2.src.on hd (Nat.le_refl _), H2.out.2.2.2.2.2.2.sky.below hd H2.out.2.2.2.2.2.2.sky.lt, H2.out.2.2.2.2.2.2.lamp.below hd H2.out.2.2.2.2.2.2.lamp.lt⟩
  have HV : Hid (JV F va a ga gb) := by
    obtain ⟨h1, h2, h4, h5, h6, h7, h8⟩ := H2.out
    have hsz := hd.size
    have n0 : 0 < n := by rw [HI.out.2.2.1]; exact Nat.mul_pos (Nat.mul_pos hb.w0 hb.d0) hb.t0
    refine ⟨fun b o e => ⟨h4 b o e, ?_⟩, ⟨fun q => ?_, ?_⟩, ⟨fun q => ?_, ?_⟩⟩
    · obtain ⟨b', o', e', hlt, _⟩ := h8.src.cells 0 n0
      rw [e] at e'
      cases e'
      omega
    · have := HFl.out _ q; omega
    · have := h8.sky.lt; omega
    · have := HFl.out _ q; omega
    · have := h8.lamp.lt; omega
  have HJ0 : Hid (JS J W D T bs p F va a n la lb ga gb F va ∧ OnlyF F w va) := by
    obtain ⟨h1, h2, h4, h5, h6, h7, h8⟩ := H2.out
    exact ⟨⟨J.gon h1 hd, J.keep h2 hd.size (fun j hj => hd.block j (J.lt h2 j hj)), ⟨rfl, rfl, rfl, Nat.le_refl _, fun _ _ _ => rfl⟩, fun j q => .inl q, hHeld⟩, OnlyF.of (h5.trans (hd.mono h5.size))⟩
  have HJa : Hid (JS J W D T bs p F va a n la lb ga gb F va) := HJ0.out.1
  have HOw : Hid (OnlyF F w va) := HJ0.out.2
  rw [hva]
  clear hva hd H2 HJ0
  have hne : Nonempty (Sub (TS a n bs la lb ga gb)) := ⟨⟨_, hHeld⟩⟩
  obtain ⟨X, hX⟩ : ∃ X, strOfNums bs = X := ⟨_, rfl⟩
  obtain ⟨Y, hY⟩ : ∃ Y, strOfNums la = Y := ⟨_, rfl⟩
  obtain ⟨Z, hZ⟩ : ∃ Z, strOfNums lb = Z := ⟨_, rfl⟩
  have k4 : ∀ s : Sub (TS a n bs la lb ga gb), (convert 22 9 (.slice a n c)).run Tryd.prog s.w = .ok (.string X) s.w := fun s => by rw [← hX]; exact conv_c s.ok.src
  have k11 : ∀ s : Sub (TS a n bs la lb ga gb), (convert 22 9 (.slice (some ⟨ga, 0, none⟩) n n)).run Tryd.prog s.w = .ok (.string Y) s.w := fun s => by rw [← hY]; exact pre_text s.ok.sky HLt.out.1.len (lv_kinds HLt.out.1)
  have k19 : ∀ s : Sub (TS a n bs la lb ga gb), (convert 22 9 (.slice (some ⟨gb, 0, none⟩) n n)).run Tryd.prog s.w = .ok (.string Z) s.w := fun s => by rw [← hZ]; exact pre_text s.ok.lamp HLt.out.2.len (lv_kinds HLt.out.2)
  have HXs : Hid (strOfNums bs = X ∧ strOfNums la = Y ∧ strOfNums lb = Z) := ⟨hX, hY, hZ⟩
  clear hX hY hZ
  refine take_L (i := 0) rfl (by kernel_rfl) (by kernel_rfl) (by kernel_rfl) (by kernel_rfl) (fun _ _ _ _ h => h) (by exact hHeld) (fun K hK => ?_)
  go_simp
  refine hK _ ?_
  clear hK K
  refine take_L (i := 3) rfl (by kernel_rfl) (by kernel_rfl) (by kernel_rfl) (by kernel_rfl) (fun _ _ _ _ h => h) (by exact hHeld) (fun K hK => ?_)
  go_simp
  refine hK _ ?_
  clear hK K
  refine take_L (i := 4) rfl (by kernel_rfl) (by kernel_rfl) (by kernel_rfl) (by kernel_rfl) (fun _ _ _ _ h => h) (by exact hHeld) (fun K hK => ?_)
  go_simp
  refine hK _ ?_
  clear hK K
  have hc := J.kinds W D T bs p _ _ hb  HJa.out.g HJa.out.fa HI.out.2.2.2.1 (HI.out.2.2.2.2.trans HI.out.2.2.1)
  rw [← HI.out.2.2.1] at hc
  refine one_L (i := 1) (by kernel_rfl) rfl (fun K hK => ?_)
  go_simp
  refine hc.mono ?_
  clear hc
  rintro _ w3 ⟨g3, c3, F3, rfl, hp, _, _, hA, ho, hs⟩
  have HJ3 : Hid (JS J W D T bs p F va a n la lb ga gb F3 w3) := HJa.out.step HV.out hA ho hs
  have vt : (convert 22 9 (.slice (some ⟨g3, 0, none⟩) n c3)).run Tryd.prog w3 = .ok (.string X) w3 := by rw [← HXs.out.1]; exact pre_text hp HI.out.2.2.2.2 HI.out.2.2.2.1
  clear hA ho hs hp HJa
  replace hHeld := HJ3.out.ts
  refine hK.out _ _ (fun _ => hHeld) ?_
  clear hK K
  refine one_L (i := 2) (by kernel_rfl) rfl (fun K hK => ?_)
  go_simp
  refine hK.out _ _ (fun _ => hHeld) ?_
  clear hK K
  clear vt
  refine one_L (i := 5) (by kernel_rfl) rfl (fun K hK => ?_)
  go_simp
  refine hK.out _ _ (fun _ => hHeld) ?_
  clear hK K
  refine one_L (i := 6) (by kernel_rfl) rfl (fun K hK => ?_)
  go_simp
  refine hK.out _ _ (fun _ => hHeld) ?_
  clear hK K
  refine take_L (i := 7) rfl (by kernel_rfl) (by kernel_rfl) (by kernel_rfl) (by kernel_rfl) (fun _ _ _ _ h => h) (by exact hHeld) (fun K hK => ?_)
  go_simp
  refine hK _ ?_
  clear hK K
  refine take_L (i := 10) rfl (by kernel_rfl) (by kernel_rfl) (by kernel_rfl) (by kernel_rfl) (fun _ _ _ _ h => h) (by exact hHeld) (fun K hK => ?_)
  go_simp
  refine hK _ ?_
  clear hK K
  refine take_L (i := 11) rfl (by kernel_rfl) (by kernel_rfl) (by kernel_rfl) (by kernel_rfl) (fun _ _ _ _ h => h) (by exact hHeld) (fun K hK => ?_)
  go_simp
  refine hK _ ?_
  clear hK K
  have hc := J.sky W D T bs p _ _ hb  HJ3.out.g HJ3.out.fa HI.out.2.2.2.1 (HI.out.2.2.2.2.trans HI.out.2.2.1)
  rw [← HI.out.2.2.1] at hc
  refine one_L (i := 8) (by kernel_rfl) rfl (fun K hK => ?_)
  go_simp
  refine hc.mono ?_
  clear hc
  rintro _ w4 ⟨g4, c4, F4, l4, rfl, hp, hl4, _, _, hA, ho, hs⟩
  have HJ4 : Hid (JS J W D T bs p F va a n la lb ga gb F4 w4) := HJ3.out.step HV.out hA ho hs
  have e4 : l4 = la := hl4.same HI.out.2.2.1.symm HLt.out.1
  rw [e4] at hp
  have vt : (convert 22 9 (.slice (some ⟨g4, 0, none⟩) n c4)).run Tryd.prog w4 = .ok (.string Y) w4 := by rw [← HXs.out.2.1]; exact pre_text hp HLt.out.1.len (lv_kinds HLt.out.1)
  clear hl4 e4
  clear hA ho hs hp HJ3
  replace hHeld := HJ4.out.ts
  refine hK.out _ _ (fun _ => hHeld) ?_
  clear hK K
  refine one_L (i := 9) (by kernel_rfl) rfl (fun K hK => ?_)
  go_simp
  refine hK.out _ _ (fun _ => hHeld) ?_
  clear hK K
  clear vt
  refine one_L (i := 12) (by kernel_rfl) rfl (fun K hK => ?_)
  go_simp
  refine hK.out _ _ (fun _ => hHeld) ?_
  clear hK K
  refine one_L (i := 13) (by kernel_rfl) rfl (fun K hK => ?_)
  go_simp
  refine hK.out _ _ (fun _ => hHeld) ?_
  clear hK K
  refine one_L (i := 14) (by kernel_rfl) rfl (fun K hK => ?_)
  go_simp
  refine hK.out _ _ (fun _ => hHeld) ?_
  clear hK K
  refine take_L (i := 15) rfl (by kernel_rfl) (by kernel_rfl) (by kernel_rfl) (by kernel_rfl) (fun _ _ _ _ h => h) (by exact hHeld) (fun K hK => ?_)
  go_simp
  refine hK _ ?_
  clear hK K
  refine take_L (i := 18) rfl (by kernel_rfl) (by kernel_rfl) (by kernel_rfl) (by kernel_rfl) (fun _ _ _ _ h => h) (by exact hHeld) (fun K hK => ?_)
  go_simp
  refine hK _ ?_
  clear hK K
  refine take_L (i := 19) rfl (by kernel_rfl) (by kernel_rfl) (by kernel_rfl) (by kernel_rfl) (fun _ _ _ _ h => h) (by exact hHeld) (fun K hK => ?_)
  go_simp
  refine hK _ ?_
  clear hK K
  have hc := J.lamp W D T bs p _ _ hb  HJ4.out.g HJ4.out.fa HI.out.2.2.2.1 (HI.out.2.2.2.2.trans HI.out.2.2.1)
  rw [← HI.out.2.2.1] at hc
  refine one_L (i := 16) (by kernel_rfl) rfl (fun K hK => ?_)
  go_simp
  refine hc.mono ?_
  clear hc
  rintro _ w5 ⟨g5, c5, F5, l5, rfl, hp, hl5, _, _, hA, ho, hs⟩
  have HJ5 : Hid (JS J W D T bs p F va a n la lb ga gb F5 w5) := HJ4.out.step HV.out hA ho hs
  have e5 : l5 = lb := hl5.same HI.out.2.2.1.symm HLt.out.2
  rw [e5] at hp
  have vt : (convert 22 9 (.slice (some ⟨g5, 0, none⟩) n c5)).run Tryd.prog w5 = .ok (.string Z) w5 := by rw [← HXs.out.2.2]; exact pre_text hp HLt.out.2.len (lv_kinds HLt.out.2)
  clear hl5 e5
  clear hA ho hs hp HJ4
  replace hHeld := HJ5.out.ts
  refine hK.out _ _ (fun _ => hHeld) ?_
  clear hK K
  refine one_L (i := 17) (by kernel_rfl) rfl (fun K hK => ?_)
  go_simp
  refine hK.out _ _ (fun _ => hHeld) ?_
  clear hK K
  clear vt
  refine one_L (i := 20) (by kernel_rfl) rfl (fun K hK => ?_)
  go_simp
  refine hK.out _ _ (fun _ => hHeld) ?_
  clear hK K
  refine one_L (i := 21) (by kernel_rfl) rfl (fun K hK => ?_)
  go_simp
  refine hK.out _ _ (fun _ => hHeld) ?_
  clear hK K
  refine one_L (i := 22) (by kernel_rfl) rfl (fun K hK => ?_)
  go_simp
  refine hK.out _ _ (fun _ => hHeld) ?_
  clear hK K
  refine done_L (by kernel_rfl) ?_ _
  have hw := HOw.out
  have R := HP.out w5 F5 HJ5.out.fa (hw.trans HJ5.out.o (fun _ _ q => q)) (fun j q => (HJ5.out.s j q).elim .inl (fun r => .inr (by have := hw.size; omega)))
  clear hw HP HJ5 HOw HV HI HLt HXs k4 k11 k19
  go_wp2
  first | exact R | (go_ret; exact R)
end Go.Proofs.YtmfjmcaaoljjlaaDoor
