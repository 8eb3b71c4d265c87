/-
  The landed build: a feature is put up on a site.
-/
import Derived.Test.YtbdjgaagafnfaaaPrm
import Derived.Test.YtbdjgaagafnfaaaPsit
import Derived.Sort.CutIn
set_option maxRecDepth 20000
namespace Go.Proofs.Ytbdjgaagafnfaaa
open C G Go.RowKit Go.Shelf

attribute [local go_sem] Oper.semAt_some
theorem feat_foot2 (f : Feat) (hf : f.Ok) : ∃ T V, f.val = .iface T V ∧ ∀ w, (method 281 T V "outcrop/build.foot").run Try.prog w = .ok (123, soilV f.x f.z f.h f.b) w := by
  obtain ⟨s, X, Z, H, Bd, l⟩ := f
  have h1 := hf.s
  simp only [] at h1
  have hs : s = 0 ∨ s = 1 ∨ s = 2 := by omega
  rcases hs with rfl | rfl | rfl
  · exact ⟨_, _, rfl, fun _ => by kernel_rfl⟩
  · exact ⟨_, _, rfl, fun _ => by kernel_rfl⟩
  · exact ⟨_, _, rfl, fun _ => by kernel_rfl⟩
def visQ {a1 a2 a3 b1 b2 b3 : Int} (l : List (Q3 a1 a2 a3 b1 b2 b3)) : List Nat := l.map fun q => cI q.x q.y q.z
/-- What the rounds hold. -/
def RaI (cs : List Int) (L : List Thing) (t : Thing) (gS gC : Nat) (W0 : World) (vis : List Nat) (W : World) : Prop :=
  Blk W gC 74 (midC cs L t vis) ∧ Sit W gS gC (midB cs L t vis) ∧ Two2 gC gS W0 W
theorem rai_own {β : Type} (cs : List Int) (L : List Thing) (t : Thing) (gS gC : Nat) (W0 : World) (f : β → List Nat) : OwnFrom W0.heap.size (fun s W => RaI cs L t gS gC W0 (f s) W) := fun _ W W' row h hg hr =>
  ⟨cells_kept hg hr h.1, cells_kept hg hr h.2.1, two2_own (β := Unit) gC gS W0 () W W' row h.2.2 hg hr⟩
set_option maxRecDepth 100000 in
set_option maxHeartbeats 4000000 in
theorem raise_c (f : Feat) (hf : f.Ok) (gS gC : Nat) (hne : gS ≠ gC) (cs : List Int) (L : List Thing) (w : World) (hC : Blk w gC 74 (stC cs L)) (hS : Sit w gS gC (stB cs L)) (hk : Kinds cs) :
    Calls Try.prog 26 #[.pointer (some ⟨gS, 0, none⟩), f.val] w fun e w' => e = .returned (.tuple #[]) ∧ Blk w' gC 74 (stC cs (L ++ [f.th])) ∧ Sit w' gS gC (stB cs (L ++ [f.th])) ∧ Two2 gC gS w w' := by
  obtain ⟨Post, hPost⟩ : ∃ Post : Ending → World → Prop, Post = fun e w' => e = .returned (.tuple #[]) ∧ Blk w' gC 74 (stC cs (L ++ [f.th])) ∧ Sit w' gS gC (stB cs (L ++ [f.th])) ∧ Two2 gC gS w w' := ⟨_, rfl⟩
  rw [← hPost]
  have HP : Hid (∀ w', Blk w' gC 74 (stC cs (L ++ [f.th])) → Sit w' gS gC (stB cs (L ++ [f.th])) → Two2 gC gS w w' → Post (.returned (.tuple #[])) w') := fun w' h1 h2 h3 => by rw [hPost]; exact ⟨rfl, h1, h2, h3⟩
  clear hPost
  obtain ⟨T, V, hv, hm⟩ := feat_foot2 f hf
  have HCl : Hid (∀ (x y z k : Int) (W : World), Far 1000 x → Far 1000 y → Far 1000 z → Calls Try.prog 47 #[.iface T V, posV x y z, .int .i64 k] W fun e w' => e = .returned (.int .i64 ((clm f.th x y z k).getD 16)) ∧ Below W.heap.size W w') := fun x y z k W h1 h2 h3 => by
    rw [← hv]; exact claim_c f hf x y z k W h1 h2 h3
  have HBx : Hid (∀ (j : Nat) (k v : Int), j < 32768 → clm f.th (cX j) (cY j) (cZ j) k = some v → (max (f.x - 2) 0 ≤ cX j ∧ cX j ≤ min (f.x + 2) 15) ∧ (f.h ≤ cY j ∧ cY j ≤ min (f.h + 10) 127) ∧ (max (f.z - 2) 0 ≤ cZ j ∧ cZ j ≤ min (f.z + 2) 15)) := fun j k v hj h => clm_box hf hj h
  rw [hv]
  have hft := fun w => foot_c f.x f.z f.h f.b w
  have hab := fun w => about_c f.x f.h f.z w (by have := hf.x; unfold Far; omega) (by have := hf.h; unfold Far; omega) (by have := hf.z; unfold Far; omega)
  have e1 := hf.x
  have e2 := hf.h
  have e3 := hf.z
  generalize f.th = t at *
  generalize f.x = X at *
  generalize f.z = Z at *
  generalize f.b = Bd at *
  generalize f.h = a2 at *
  obtain ⟨a1, ha1⟩ : ∃ a, max (X - 2) 0 = a := ⟨_, rfl⟩
  obtain ⟨a3, ha3⟩ : ∃ a, max (Z - 2) 0 = a := ⟨_, rfl⟩
  obtain ⟨b1, hb1⟩ : ∃ a, min (X + 2) 15 = a := ⟨_, rfl⟩
  obtain ⟨b2, hb2⟩ : ∃ a, min (a2 + 10) 127 = a := ⟨_, rfl⟩
  obtain ⟨b3, hb3⟩ : ∃ a, min (Z + 2) 15 = a := ⟨_, rfl⟩
  rw [ha1, ha3, hb1, hb2, hb3] at hab HBx
  have r1 : 0 ≤ a1 ∧ a1 ≤ b1 ∧ b1 ≤ 15 := by omega
  have r2 : 0 ≤ a2 ∧ a2 ≤ b2 ∧ b2 ≤ 127 := by omega
  have r3 : 0 ≤ a3 ∧ a3 ≤ b3 ∧ b3 ≤ 15 := by omega
  clear e1 e2 e3 ha1 ha3 hb1 hb2 hb3 hv hf
  have HR : Hid ((0 ≤ a1 ∧ a1 ≤ b1 ∧ b1 ≤ 15) ∧ (0 ≤ a2 ∧ a2 ≤ b2 ∧ b2 ≤ 127) ∧ (0 ≤ a3 ∧ a3 ≤ b3 ∧ b3 ≤ 15)) := ⟨r1, r2, r3⟩
  clear r1 r2 r3
  have HK0 : Hid (Kinds cs) := hk
  have HG : Hid (Blk w gC 74 (stC cs L) ∧ Sit w gS gC (stB cs L) ∧ gC < w.heap.size ∧ gS < w.heap.size ∧ gS ≠ gC) := ⟨hC, hS, hC.lt, hS.lt, hne⟩
  clear hC hS hk hne
  obtain ⟨W1, hW1⟩ : ∃ W1, W1 = (w.alloc (.cells #[.pointer (some ⟨gS, 0, none⟩)] 95)).alloc (.cells #[.iface T V] 70) := ⟨_, rfl⟩
  have HW1 : Hid (W1 = (w.alloc (.cells #[.pointer (some ⟨gS, 0, none⟩)] 95)).alloc (.cells #[.iface T V] 70)) := hW1
  have H1 : Hid (Below w.heap.size w W1 ∧ W1.heap[w.heap.size]? = some (.cells #[.pointer (some ⟨gS, 0, none⟩)] 95) ∧ W1.heap[w.heap.size + 1]? = some (.cells #[.iface T V] 70)) := by
    subst hW1
    exact ⟨below_two w _ _, (heap_alloc_old _ _ (by simp)).trans (heap_alloc_new w _), new_two w _ _⟩
  clear hW1
  refine (callsIn_wide (n := 9)).1 ?_
  refine callsIn_of_wp_marks Try.func26 rfl trivial ?_ rfl
  simp only [Try.ntmps26, List.size_toArray, List.length_cons, List.length_nil, Nat.reduceAdd, Nat.reduceSub, Array.replicate_succ, Array.replicate_zero, List.push_toArray, List.append_toArray, List.nil_append, List.cons_append]
  gi_wp2_with (fail)
  rw [← HW1.out]
  clear HW1
  refine ⟨trivial, (callsIn_wide.2 (hft _)).mono ?_⟩
  clear hft hm
  rintro _ W2 ⟨rfl, hbA⟩
  gi_wp2_with (fail)
  refine ⟨trivial, (callsIn_wide.2 (hab _)).mono ?_⟩
  clear hab
  rintro _ W3 ⟨rfl, hbB⟩
  gi_wp2_with (fail)
  refine ⟨trivial, (callsIn_wide.2 (each_c _ _ _ _ _ _ _)).mono ?_⟩
  rintro _ W4 ⟨rfl, hw4⟩
  have hb3 : Below w.heap.size w W3 := (H1.out.1.trans (hbA.mono H1.out.1.size)).trans (hbB.mono (Nat.le_trans H1.out.1.size hbA.size))
  have hb13 : Below W1.heap.size W1 W3 := hbA.trans (hbB.mono hbA.size)
  have hb4 : Below W3.heap.size W3 W4 := by rw [hw4]; exact (Below.refl _ _).alloc (Nat.le_refl _) _
  have hbx : W4.heap[W3.heap.size]? = some (.cells #[.int .i64 a1, .int .i64 a2, .int .i64 a3, .int .i64 b1, .int .i64 b2, .int .i64 b3] 100 (0, 0)) := by rw [hw4]; exact heap_alloc_new W3 _
  have hb14 : Below W1.heap.size W1 W4 := hb13.trans (hb4.mono hb13.size)
  have hbw : Below w.heap.size w W4 := hb3.trans (hb4.mono hb3.size)
  have hs34 : W3.heap.size < W4.heap.size := (Array.getElem?_eq_some_iff.1 hbx).1
  have H4 : Hid (Below w.heap.size w W4 ∧ W4.heap[w.heap.size]? = some (.cells #[.pointer (some ⟨gS, 0, none⟩)] 95) ∧ W4.heap[w.heap.size + 1]? = some (.cells #[.iface T V] 70) ∧ w.heap.size ≤ W3.heap.size ∧ W3.heap.size < W4.heap.size) :=
    ⟨hbw, (hb14.block _ (Array.getElem?_eq_some_iff.1 H1.out.2.1).1).trans H1.out.2.1, (hb14.block _ (Array.getElem?_eq_some_iff.1 H1.out.2.2).1).trans H1.out.2.2, hb3.size, hs34⟩
  have HI0 : Hid (RaI cs L t gS gC W4 [] W4) := by
    refine ⟨?_, ?_, Two2.refl _ _ _⟩
    · rw [(mid_start cs L t).1]; exact HG.out.1.below hbw HG.out.2.2.1
    · rw [(mid_start cs L t).2]; exact (hbw.block _ HG.out.2.2.2.1).trans HG.out.2.1
  obtain ⟨S1, hS1⟩ : ∃ S1 : Nat, S1 = (b1 - a1 + 1).toNat := ⟨_, rfl⟩
  obtain ⟨S2, hS2⟩ : ∃ S2 : Nat, S2 = (b2 - a2 + 1).toNat := ⟨_, rfl⟩
  obtain ⟨S3, hS3⟩ : ∃ S3 : Nat, S3 = (b3 - a3 + 1).toNat := ⟨_, rfl⟩
  have hr := HR.out
  have hst := each_q 8 (by omega) W3.heap.size W4.heap.size a1 a2 a3 b1 b2 b3 S1 S2 S3 (by omega) (by omega) (by omega) (by omega) (by omega) (by omega) (by omega) (by omega) (by omega) W4 hs34 (Nat.le_refl _) hbx
  have HSS : Hid ((a1 + (S1 : Int) = b1 + 1) ∧ (a2 + (S2 : Int) = b2 + 1) ∧ (a3 + (S3 : Int) = b3 + 1)) := ⟨by omega, by omega, by omega⟩
  clear hr hS1 hS2 hS3 hw4 hb3 hb13 hb4 hb14 hbw hs34 hbx hbA hbB H1
  gi_wp2_with (fail)
  refine wpIn_rangeFunc_ownH rfl (by decide) (gf := 62) (lb := #[.pointer (some ⟨W3.heap.size, 0, none⟩)]) rfl trivial (enters_of Try.func62 (by kernel_rfl) rfl)
    hst (fun h k => Kp.trans h k) (fun W l o o' _ h ho _ => Kp.book W l o o' h ho) (Below.refl _ _) (fun _ => rfl)
    (fun pre W => RaI cs L t gS gC W4 (visQ pre) W) (fun _ _ _ => False)
    (rai_own cs L t gS gC W4 _) (fun _ _ _ _ _ hs _ _ => hs) HI0.out
    (fun x ax W => ∃ Bx, W.heap[Bx]? = some (.cells #[.int .i64 x.x, .int .i64 x.y, .int .i64 x.z] 52 (0, 0)) ∧ ax = { tmps := #[.pointer (some ⟨gS, 0, none⟩), .iface T V, Value.pointer (some { block := w.heap.size, off := 0 }), Value.pointer (some { block := w.heap.size + 1, off := 0 }), .pointer (some ⟨Bx, 0, none⟩), undef, undef, .iface T V, posV X a2 Z, .agg #[.int .i64 a1, .int .i64 a2, .int .i64 a3, .int .i64 b1, .int .i64 b2, .int .i64 b3], Value.func (Fn.func 62) #[] #[Value.pointer (some { block := W3.heap.size, off := 0 })], .agg #[.int .i64 x.x, .int .i64 x.y, .int .i64 x.z], undef, undef, undef, undef, undef, undef, undef, undef, undef, undef, undef, undef, undef, undef, undef, undef, undef, undef, undef, undef, undef, undef, undef, undef, undef, undef, undef, undef, undef, undef, undef], defers := [] })
    (fun x a' _ X Y row hs hg hr => by
      obtain ⟨Bx, h1, h2⟩ := hs
      exact ⟨Bx, cells_kept hg hr h1, h2⟩)
    ?assign ?body ?done ?stop
  case assign =>
    rintro l pre x W K hI hK
    have hbl : Below W.heap.size W (W.alloc (.cells #[.int .i64 x.x, .int .i64 x.y, .int .i64 x.z] 52)) := (Below.refl _ W).alloc (Nat.le_refl _) _
    have HX : Hid (KeepsFrom W4.heap.size W (W.alloc (.cells #[.int .i64 x.x, .int .i64 x.y, .int .i64 x.z] 52)) ∧ Kp W3.heap.size W4.heap.size W (W.alloc (.cells #[.int .i64 x.x, .int .i64 x.y, .int .i64 x.z] 52)) ∧ RaI cs L t gS gC W4 (visQ pre) (W.alloc (.cells #[.int .i64 x.x, .int .i64 x.y, .int .i64 x.z] 52))) :=
      ⟨(KeepsOthers.alloc _ _).from _, Kp.grow (World.grownBy_alloc W _ none), hI.1.below hbl hI.1.lt, (hbl.block _ hI.2.1.lt).trans hI.2.1, hI.2.2.trans (Two2.below hbl)⟩
    have HK : Hid (∀ a' W', _ → _ → _ → _ → K a' W') := hK
    clear hK hI hbl
    gi_wp2
    exact HK.out _ _ HX.out.1 HX.out.2.1 HX.out.2.2 ⟨W.heap.size, heap_alloc_new W _, rfl⟩
  case body =>
    rintro l pre x a' W _ _ hI ⟨Bx, hP, rfl⟩ _
    obtain ⟨qx, qy, qz, hqx, hqy, hqz⟩ := x
    simp only at hP
    have hR := HR.out
    obtain ⟨hi, xX, xY, xZ, hcI⟩ := cI_at (x := qx) (y := qy) (z := qz) (by omega) (by omega) (by omega)
    have hix : indexN qx qy qz = ((cI qx qy qz : Nat) : Int) := by
      unfold indexN
      rw [if_pos (by omega), hcI]
      omega
    have HIx : Hid (∀ W1, Calls Try.prog 46 #[.agg #[.int .i64 qx, .int .i64 qy, .int .i64 qz]] W1 fun e w' => e = .returned (.int .i64 ((cI qx qy qz : Nat) : Int)) ∧ Below W1.heap.size W1 w') := fun W1 => by
      rw [← hix]; exact index_c qx qy qz (by omega) (by omega) (by omega) (by omega) W1
    have HCk : Hid (∀ (k : Int) (W1 : World), Calls Try.prog 47 #[.iface T V, posV qx qy qz, .int .i64 k] W1 fun e w' => e = .returned (.int .i64 ((clm t qx qy qz k).getD 16)) ∧ Below W1.heap.size W1 w') := fun k W1 => HCl.out qx qy qz k W1 (by unfold Far; omega) (by unfold Far; omega) (by unfold Far; omega)
    have hvq : visQ (pre ++ [⟨qx, qy, qz, hqx, hqy, hqz⟩]) = visQ pre ++ [cI qx qy qz] := by unfold visQ; rw [List.map_append]; rfl
    have HV : Hid (∀ W', RaI cs L t gS gC W4 (visQ pre ++ [cI qx qy qz]) W' → RaI cs L t gS gC W4 (visQ (pre ++ [⟨qx, qy, qz, hqx, hqy, hqz⟩])) W') := fun W' h => by rw [hvq]; exact h
    have s1 := fun hb => step_true (cs := cs) (L := L) (t := t) (vis := visQ pre) hi hb
    have s2 := fun hb hc => step_none (cs := cs) (L := L) (t := t) (vis := visQ pre) hi hb hc
    have s3 := fun v hb hc => step_some (cs := cs) (L := L) (t := t) (vis := visQ pre) (v := v) hi hb hc
    rw [xX, xY, xZ] at s2 s3
    have hML := midC_len cs L t (visQ pre)
    have hMB := midB_len cs L t (visQ pre)
    have hMK := midC_kinds HK0.out L t (visQ pre)
    have HE : Hid (∀ W' A' B', Two2 gC gS W W' → Blk W' gC 74 A' → Sit W' gS gC B' → midC cs L t (visQ pre ++ [cI qx qy qz]) = A' → midB cs L t (visQ pre ++ [cI qx qy qz]) = B' → KeepsFrom W4.heap.size W W' ∧ Kp W3.heap.size W4.heap.size W W' ∧ RaI cs L t gS gC W4 (visQ (pre ++ [⟨qx, qy, qz, hqx, hqy, hqz⟩])) W') := fun W' A' B' h1 h2 h3 h4 h5 =>
      ⟨h1.keeps hI.1 hI.2.1, h1.kp hI.1 hI.2.1, HV.out W' ⟨by rw [h4]; exact h2, by rw [h5]; exact h3, hI.2.2.trans h1⟩⟩
    clear hvq HV hix hcI xX xY xZ hR
    have HS1 : Hid _ := s1
    have HS2 : Hid _ := s2
    have HS3 : Hid _ := s3
    clear s1 s2 s3
    generalize hi0 : cI qx qy qz = i at *
    clear hi0
    generalize midC cs L t (visQ pre ++ [i]) = A2 at *
    generalize midB cs L t (visQ pre ++ [i]) = B2 at *
    obtain ⟨hIC, hIS, hI2⟩ := hI
    generalize midC cs L t (visQ pre) = A1 at *
    generalize midB cs L t (visQ pre) = B1 at *
    have b0 : W.heap[w.heap.size]? = some (.cells #[.pointer (some ⟨gS, 0, none⟩)] 95) := hI2.cells H4.out.2.1 (by have := HG.out.2.2.1; omega) (by have := HG.out.2.2.2.1; omega)
    have b1' : W.heap[w.heap.size + 1]? = some (.cells #[.iface T V] 70) := hI2.cells H4.out.2.2.1 (by have := HG.out.2.2.1; omega) (by have := HG.out.2.2.2.1; omega)
    have HB0 : Hid (W.heap[w.heap.size]? = some (.cells #[.pointer (some ⟨gS, 0, none⟩)] 95) ∧ W.heap[w.heap.size + 1]? = some (.cells #[.iface T V] 70) ∧ W.heap[Bx]? = some (.cells #[.int .i64 qx, .int .i64 qy, .int .i64 qz] 52 (0, 0)) ∧ Blk W gC 74 A1 ∧ Sit W gS gC B1) := ⟨b0, b1', hP, hIC, hIS⟩
    have x0 : W.cell? ⟨Bx, 0, none⟩ = some (.int .i64 qx) := (cell_of_row W _ 0 _ 52 (0, 0) hP).trans rfl
    have x1 : W.cell? ⟨Bx, 1, none⟩ = some (.int .i64 qy) := (cell_of_row W _ 1 _ 52 (0, 0) hP).trans rfl
    have x2 : W.cell? ⟨Bx, 2, none⟩ = some (.int .i64 qz) := (cell_of_row W _ 2 _ 52 (0, 0) hP).trans rfl
    clear hIC hIS hI2 b0 b1' hP
    gi_wp2_with (fail)
    refine ⟨trivial, (CallsIn.inRound l (callsIn_wide.2 (HIx.out _))).mono ?_⟩
    clear HIx x0 x1 x2
    rintro _ w1 ⟨rfl, hb1⟩
    have HB1 : Hid (Below W.heap.size W w1 ∧ w1.heap[w.heap.size]? = some (.cells #[.pointer (some ⟨gS, 0, none⟩)] 95) ∧ w1.heap[w.heap.size + 1]? = some (.cells #[.iface T V] 70) ∧ w1.heap[Bx]? = some (.cells #[.int .i64 qx, .int .i64 qy, .int .i64 qz] 52 (0, 0)) ∧ Blk w1 gC 74 A1 ∧ Sit w1 gS gC B1) :=
      ⟨hb1, (hb1.block _ (Array.getElem?_eq_some_iff.1 HB0.out.1).1).trans HB0.out.1, (hb1.block _ (Array.getElem?_eq_some_iff.1 HB0.out.2.1).1).trans HB0.out.2.1, (hb1.block _ (Array.getElem?_eq_some_iff.1 HB0.out.2.2.1).1).trans HB0.out.2.2.1, HB0.out.2.2.2.1.below hb1 HB0.out.2.2.2.1.lt, (hb1.block _ HB0.out.2.2.2.2.lt).trans HB0.out.2.2.2.2⟩
    clear HB0 hb1
    have y0 : w1.cell? ⟨w.heap.size, 0, none⟩ = some (.pointer (some ⟨gS, 0, none⟩)) := (cell_of_row w1 _ 0 _ 95 (0, 0) HB1.out.2.1).trans rfl
    have y1 : w1.cell? ⟨gS, 1 + i, none⟩ = some (.bool (B1.getD i false)) := HB1.out.2.2.2.2.2.at (by omega)
    have hi' : (i : Int) < 32768 := by omega
    obtain ⟨bv, hbv⟩ : ∃ b, B1.getD i false = b := ⟨_, rfl⟩
    rw [hbv] at y1 HS1 HS2 HS3
    clear hbv
    cases bv with
    | true =>
      have HF : Hid _ := HE.out w1 A1 B1 (Two2.below HB1.out.1) HB1.out.2.2.2.2.1 HB1.out.2.2.2.2.2 (HS1.out rfl).1 (HS1.out rfl).2
      clear HE HS1 HS2 HS3 HCk HB1
      gi_wp2
      exact HF.out
    | false =>
    have HGt : Hid (∀ s : Since w1, Calls Try.prog 20 #[.pointer (some ⟨gC, 0, none⟩), .int .i64 (i : Int)] s.w fun e w' => e = .returned (.int .i64 (A1.getD i 0)) ∧ w' = s.w) := fun s => by
      have h := C.get_c gC A1 (i : Int) s.w (HB1.out.2.2.2.2.1.below s.bel HB1.out.2.2.2.2.1.lt) hML hMK
      unfold getC at h
      rw [if_pos (by omega), Int.toNat_natCast] at h
      exact h
    obtain ⟨kv, hkv⟩ : ∃ k, A1.getD i 0 = k := ⟨_, rfl⟩
    rw [hkv] at HGt HS2 HS3
    have HN2 : Hid (clm t qx qy qz kv = none → A2 = A1 ∧ B2 = B1) := fun h => HS2.out rfl h
    have HN3 : Hid (∀ v, clm t qx qy qz kv = some v → A2 = A1.set i v ∧ B2 = B1.set i true) := fun v h => HS3.out v rfl h
    have HCl2 : Hid (∀ W1, Calls Try.prog 47 #[.iface T V, posV qx qy qz, .int .i64 kv] W1 fun e w' => e = .returned (.int .i64 ((clm t qx qy qz kv).getD 16)) ∧ Below W1.heap.size W1 w') := fun W1 => HCk.out kv W1
    have H16 : Hid (∀ v, clm t qx qy qz kv = some v → v ≠ 16 ∧ 0 ≤ v ∧ v ≤ 16) := fun v h => by
      have h1 := clm_made h
      unfold Made at h1
      omega
    clear hkv HCk HS1 HS2 HS3
    gi_wp2_with (fail)
    clear y0 y1
    have hsome := since_some w1
    have z0 := fun s : Since w1 => Since.cell ((cell_of_row w1 Bx 0 _ 52 (0, 0) HB1.out.2.2.2.1).trans rfl) s
    have z1 := fun s : Since w1 => Since.cell ((cell_of_row w1 Bx 1 _ 52 (0, 0) HB1.out.2.2.2.1).trans rfl) s
    have z2 := fun s : Since w1 => Since.cell ((cell_of_row w1 Bx 2 _ 52 (0, 0) HB1.out.2.2.2.1).trans rfl) s
    have z3 := fun s : Since w1 => Since.cell ((cell_of_row w1 (w.heap.size + 1) 0 _ 70 (0, 0) HB1.out.2.2.1).trans rfl) s
    have z4 := fun s : Since w1 => Since.cell ((cell_of_row w1 w.heap.size 0 _ 95 (0, 0) HB1.out.2.1).trans rfl) s
    have z5 := fun s : Since w1 => Since.cell HB1.out.2.2.2.2.2.ptr s
    refine region_round_since (by kernel_rfl) (by kernel_rfl) (by kernel_rfl) ?_
    repeat (go_big_quiet_step (first | (go_at_call 20; exact Calls.since_same (HGt.out _)) | (go_at_call 47; exact Calls.since (HCl2.out _))))
    refine wpQuiet_nil ?_
    rintro _ ⟨s, rfl⟩
    have hbs := s.bel
    generalize s.w = w2 at *
    have hbW : Below W.heap.size W w2 := HB1.out.1.trans (hbs.mono HB1.out.1.size)
    have HB2 : Hid (Below W.heap.size W w2 ∧ w2.heap[w.heap.size]? = some (.cells #[.pointer (some ⟨gS, 0, none⟩)] 95) ∧ Blk w2 gC 74 A1 ∧ Sit w2 gS gC B1) :=
      ⟨hbW, (hbs.block _ (Array.getElem?_eq_some_iff.1 HB1.out.2.1).1).trans HB1.out.2.1, HB1.out.2.2.2.2.1.below hbs HB1.out.2.2.2.2.1.lt, (hbs.block _ HB1.out.2.2.2.2.2.lt).trans HB1.out.2.2.2.2.2⟩
    clear hsome z0 z1 z2 z3 z4 z5 HGt HCl2 HB1 hbs hbW
    generalize clm t qx qy qz kv = O at *
    cases O with
    | none =>
      rw [show (none : Option Int).getD 16 = 16 from rfl]
      have HF : Hid _ := HE.out w2 A1 B1 (Two2.below HB2.out.1) HB2.out.2.2.1 HB2.out.2.2.2 (HN2.out rfl).1 (HN2.out rfl).2
      clear HE HN2 HN3 HB2 H16
      gi_wp2
      exact HF.out
    | some v =>
    rw [show (some v).getD 16 = v from rfl]
    obtain ⟨v16, v0, v1⟩ := H16.out v rfl
    have v16' : (v != 16) = true := by simpa using v16
    have v16'' : (v == 16) = false := by simpa using v16
    have hA2 := (HN3.out v rfl).1
    have hB2 := (HN3.out v rfl).2
    have y0 : w2.cell? ⟨w.heap.size, 0, none⟩ = some (.pointer (some ⟨gS, 0, none⟩)) := (cell_of_row w2 _ 0 _ 95 (0, 0) HB2.out.2.1).trans rfl
    have y1 : w2.cell? ⟨gS, 1 + i, none⟩ = some (.bool (B1.getD i false)) := HB2.out.2.2.2.at (by omega)
    have y2 : w2.frozen? ⟨gS, 1 + i, none⟩ = false := HB2.out.2.2.2.free _
    obtain ⟨w3, hw3⟩ : ∃ w3, w3 = w2.setCell ⟨gS, 1 + i, none⟩ (.bool true) := ⟨_, rfl⟩
    have HW3 : Hid (w3 = w2.setCell ⟨gS, 1 + i, none⟩ (.bool true)) := hw3
    have HB3 : Hid (Two2 gC gS W w3 ∧ w3.heap[w.heap.size]? = some (.cells #[.pointer (some ⟨gS, 0, none⟩)] 95) ∧ Blk w3 gC 74 A1 ∧ Sit w3 gS gC (B1.set i true)) := by
      have hg := HG.out
      rw [hw3]
      exact ⟨(Two2.below HB2.out.1).trans Two2.set2, (Below.heap_setCell w2 _ _ _ (by show w.heap.size ≠ gS; omega)).trans HB2.out.2.1, (Below.heap_setCell w2 _ _ _ (by show gC ≠ gS; exact fun e => hg.2.2.2.2 e.symm)).trans HB2.out.2.2.1, HB2.out.2.2.2.put i true⟩
    have HSt : Hid (Calls Try.prog 48 #[.pointer (some ⟨gC, 0, none⟩), .int .i64 (i : Int), .int .i64 v] w3 fun e w' => e = .returned (.bool true) ∧ Blk w' gC 74 (A1.set i v) ∧ Only gC w3 w') := by
      have h := C.set_c gC A1 (i : Int) v w3 HB3.out.2.2.1 hML
      have ho : okSet (i : Int) v = true := decide_eq_true (by omega)
      unfold setC at h
      rw [if_pos ho, ho, Int.toNat_natCast] at h
      exact h
    have u0 : w3.cell? ⟨w.heap.size, 0, none⟩ = some (.pointer (some ⟨gS, 0, none⟩)) := (cell_of_row w3 _ 0 _ 95 (0, 0) HB3.out.2.1).trans rfl
    have u1 : w3.cell? ⟨gS, 0, none⟩ = some (.pointer (some ⟨gC, 0, none⟩)) := HB3.out.2.2.2.ptr
    clear hw3 HB2 HN2 HN3 H16 v16
    gi_upto_region 8 with fail
    rw [← HW3.out]
    clear HW3 y0 y1 y2
    gi_wp2_with (fail)
    refine ⟨trivial, (CallsIn.inRound l (callsIn_wide.2 HSt.out)).mono ?_⟩
    rintro _ w4 ⟨rfl, hb4, ho4⟩
    have hne := HG.out.2.2.2.2
    have HF : Hid _ := HE.out w4 (A1.set i v) (B1.set i true) (HB3.out.1.trans (Two2.row1 (grown_only ho4))) hb4 ((ho4.block gS hne).trans HB3.out.2.2.2) hA2 hB2
    clear HE HB3 HSt hb4 ho4 u0 u1 hA2 hB2
    gi_wp2
    exact HF.out
  case done =>
    rintro D xs W hD hq hI hK
    have R : Post (.returned (.tuple #[])) (W.putObj D (.deferred none)) := by
      have hr := HR.out
      have hss := HSS.out
      have hall := mid_end (cs := cs) (L := L) (t := t) (vis := visQ xs) (fun j hj hv => by
        rcases e : clm t (cX j) (cY j) (cZ j) (cs.getD j 0) with _ | v
        · rfl
        · exfalso
          obtain ⟨q1, q2, q3⟩ := HBx.out j _ v hj e
          have hm : (⟨cX j, cY j, cZ j⟩ : P3) ∈ qs xs := by
            rw [hq]
            exact mem_upto.2 (by simp only; omega)
          unfold qs at hm
          obtain ⟨q, hq2, eq⟩ := List.mem_map.1 hm
          apply hv
          unfold visQ
          refine List.mem_map.2 ⟨q, hq2, ?_⟩
          have e1 : q.x = cX j := congrArg P3.x eq
          have e2 : q.y = cY j := congrArg P3.y eq
          have e3 : q.z = cZ j := congrArg P3.z eq
          rw [e1, e2, e3]
          exact cI_of j)
      have h4 := H4.out
      have hg := HG.out
      obtain ⟨h1, h2, h3⟩ := hI
      rw [hall.1] at h1
      rw [hall.2] at h2
      have hsz := h4.1.size
      refine HP.out _ ((World.putObj_heap_other (by omega)).trans h1) ((World.putObj_heap_other (by omega)).trans h2) ?_
      refine ⟨h3.os.trans h4.1.os, h3.tape.trans h4.1.tape, h3.output.trans h4.1.output, by have := h3.size; simp; omega, fun k hk n1 n2 => ?_⟩
      exact (World.putObj_heap_other (by omega)).trans ((h3.block k (by omega) n1 n2).trans (h4.1.block k hk))
    clear hI hq HP HG H4 HCl HBx HR HK0 HSS hst HI0
    gi_wp2
    refine ⟨by simp, .inl ⟨_, _, rfl, run_takeDeferred hK, ?_⟩⟩
    exact ⟨_, results_none rfl _ _ _, R⟩
  case stop =>
    rintro D c pre W _ _ h _
    exact h.elim
end Go.Proofs.Ytbdjgaagafnfaaa
