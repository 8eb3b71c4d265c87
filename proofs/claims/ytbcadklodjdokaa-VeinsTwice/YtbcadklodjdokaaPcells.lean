/-
  The landed veins: the cells of a vein, gone over one by one.
-/
import Derived.Test.YtbcadklodjdokaaPround
set_option maxRecDepth 20000
namespace Go.Proofs.Ytbcadklodjdokaa
open C G Go.RowKit Go.Shelf

attribute [local go_sem] Oper.semAt_some

/-- Four blocks one behind the other. -/
theorem chain4 (w : World) (o0 o1 o2 o3 : Obj) {W : World} (h : W = (((w.alloc o0).alloc o1).alloc o2).alloc o3) :
    W.heap.size = w.heap.size + 4 ∧ Below w.heap.size w W ∧ W.heap[w.heap.size]? = some o0 ∧ W.heap[w.heap.size + 1]? = some o1 ∧ W.heap[w.heap.size + 1 + 1]? = some o2 ∧ W.heap[w.heap.size + 1 + 1 + 1]? = some o3 := by
  subst h
  refine ⟨by simp, ((((Below.refl _ w).alloc (Nat.le_refl _) _).alloc (by simp) _).alloc (by simp; omega) _).alloc (by simp; omega) _, ?_, ?_, ?_, ?_⟩
  · exact (Below.heap_alloc _ _ _ (by simp <;> omega)).trans ((Below.heap_alloc _ _ _ (by simp <;> omega)).trans ((Below.heap_alloc _ _ _ (by simp <;> omega)).trans (heap_alloc_new w _)))
  · have := heap_alloc_new (w.alloc o0) o1
    rw [World.size_alloc] at this
    exact (Below.heap_alloc _ _ _ (by simp <;> omega)).trans ((Below.heap_alloc _ _ _ (by simp <;> omega)).trans this)
  · have := heap_alloc_new ((w.alloc o0).alloc o1) o2
    simp only [World.size_alloc] at this
    exact (Below.heap_alloc _ _ _ (by simp <;> omega)).trans this
  · have := heap_alloc_new (((w.alloc o0).alloc o1).alloc o2) o3
    simp only [World.size_alloc] at this
    exact this

/-- A cell of a vein. -/
structure VC (mx my mz r : Int) where
  x : Int
  y : Int
  z : Int
  h : awayN mx my mz x y z ≤ r
abbrev VC.val {mx my mz r : Int} (p : VC mx my mz r) : Value := .agg #[.int .i64 p.x, .int .i64 p.y, .int .i64 p.z]
def vcOf (mx my mz r : Int) {a1 a2 a3 b1 b2 b3 : Int} (q : Q3 a1 a2 a3 b1 b2 b3) : Option (VC mx my mz r) :=
  if h : awayN mx my mz (mx + q.x) (my + q.y) (mz + q.z) ≤ r then some ⟨mx + q.x, my + q.y, mz + q.z, h⟩ else none
def vcs (mx my mz r : Int) {a1 a2 a3 b1 b2 b3 : Int} (l : List (Q3 a1 a2 a3 b1 b2 b3)) : List (VC mx my mz r) := l.filterMap (vcOf mx my mz r)
theorem vcs_yes {mx my mz r a1 a2 a3 b1 b2 b3 : Int} (l : List (Q3 a1 a2 a3 b1 b2 b3)) (q : Q3 a1 a2 a3 b1 b2 b3) (h : awayN mx my mz (mx + q.x) (my + q.y) (mz + q.z) ≤ r) : vcs mx my mz r (l ++ [q]) = vcs mx my mz r l ++ [⟨mx + q.x, my + q.y, mz + q.z, h⟩] := by
  simp [vcs, vcOf, h]
theorem vcs_no {mx my mz r a1 a2 a3 b1 b2 b3 : Int} (l : List (Q3 a1 a2 a3 b1 b2 b3)) (q : Q3 a1 a2 a3 b1 b2 b3) (h : ¬ awayN mx my mz (mx + q.x) (my + q.y) (mz + q.z) ≤ r) : vcs mx my mz r (l ++ [q]) = vcs mx my mz r l := by
  simp [vcs, vcOf, h]
/-- All cells of the vein have come. -/
def AllV (mx my mz r : Int) (xs : List (VC mx my mz r)) : Prop := ∀ x y z, awayN mx my mz x y z ≤ r → ∃ p ∈ xs, p.x = x ∧ p.y = y ∧ p.z = z
theorem vcs_all {mx my mz r : Int} {S1 : Nat} (hS : (S1 : Int) = 2 * r + 1) {l : List (Q3 (-r) (-r) (-r) r r r)} (hl : qs l = upto (-r) (-r) (-r) S1 S1 (S1 * S1 * S1)) : AllV mx my mz r (vcs mx my mz r l) := fun x y z h => by
  have h2 := awayN_le h
  have hm : (⟨x - mx, y - my, z - mz⟩ : P3) ∈ qs l := by
    rw [hl]
    exact mem_upto.2 (by simp only; omega)
  unfold qs at hm
  obtain ⟨q, hq, e⟩ := List.mem_map.1 hm
  have e1 : q.x = x - mx := congrArg P3.x e
  have e2 : q.y = y - my := congrArg P3.y e
  have e3 : q.z = z - mz := congrArg P3.z e
  have ex : mx + q.x = x := by omega
  have ey : my + q.y = y := by omega
  have ez : mz + q.z = z := by omega
  have h3 : awayN mx my mz (mx + q.x) (my + q.y) (mz + q.z) ≤ r := by rw [ex, ey, ez]; exact h
  exact ⟨⟨mx + q.x, my + q.y, mz + q.z, h3⟩, List.mem_filterMap.2 ⟨q, hq, by simp [vcOf, h3]⟩, ex, ey, ez⟩
set_option maxRecDepth 100000 in
set_option maxHeartbeats 2000000 in
theorem cells_gives (o mx my mz r : Int) (w0 : World) (hr : 1 ≤ r ∧ r ≤ 2) (h1 : Far 2251799813685248 mx) (h2 : Far 2251799813685248 my) (h3 : Far 2251799813685248 mz) :
    Gives 8 5 Try.prog 45 #[.agg #[.int .i64 o, .int .i64 mx, .int .i64 my, .int .i64 mz, .int .i64 r]] #[] (fun x : VC mx my mz r => #[x.val]) (AllV mx my mz r) w0 := by
  intro l J w _ hJ hY hJ0
  obtain ⟨Post, hPost⟩ : ∃ Post : Ending → World → Prop, Post = fun e W' => (∃ v, e = .returned v) ∧ ∃ xs, AllV mx my mz r xs ∧ J xs W' := ⟨_, rfl⟩
  rw [← hPost]
  have HP : Hid (∀ v xs W', AllV mx my mz r xs → J xs W' → Post (.returned v) W') := fun v xs W' h1 h2 => by rw [hPost]; exact ⟨⟨_, rfl⟩, xs, h1, h2⟩
  clear hPost
  have HJ : Hid (OwnFrom w.heap.size J) := hJ
  have HY : Hid (∀ pre (x : VC mx my mz r) W1, J pre W1 → YieldAt Fence.wide 5 Try.prog l #[x.val] W1 fun e W' => e = .returned (.bool true) ∧ J (pre ++ [x]) W' ∧ KA w.heap.size W1 W') := hY
  clear hJ hY
  have HF : Hid (Far 2251799813685248 mx ∧ Far 2251799813685248 my ∧ Far 2251799813685248 mz) := ⟨h1, h2, h3⟩
  unfold Far at h1 h2 h3
  obtain ⟨r0, r1⟩ := hr
  refine callsIn_of_wp_marks Try.func45 rfl trivial ?_ rfl
  simp only [Try.ntmps45, List.size_toArray, List.length_cons, List.length_nil, Nat.reduceAdd, Nat.reduceSub, Array.replicate_succ, Array.replicate_zero, List.push_toArray, List.append_toArray, List.nil_append, List.cons_append, List.append_nil]
  gi_wp2_with (fail)
  refine ⟨trivial, ?_⟩
  refine (callsIn_wide.2 (each_c _ _ _ _ _ _ _)).mono ?_
  rintro e w2 ⟨rfl, rfl⟩
  gi_wp2_with (fail)
  obtain ⟨W0, hW0⟩ : ∃ W0, W0 = (((w.alloc (.cells #[.int .i64 o, .int .i64 mx, .int .i64 my, .int .i64 mz, .int .i64 r] 55)).alloc (.cells #[.func (.yield l) #[] #[]] 26)).alloc (.cells #[.int .i64 (-r), .int .i64 (-r), .int .i64 (-r), .int .i64 r, .int .i64 r, .int .i64 r] 86)).alloc (.cells #[.int .i64 (-r), .int .i64 (-r), .int .i64 (-r), .int .i64 r, .int .i64 r, .int .i64 r] 86) := ⟨_, rfl⟩
  obtain ⟨hsz, hbel, k0, k1, k2, k3⟩ := chain4 w _ _ _ _ hW0
  rw [← hW0]
  clear hW0 k2
  have Hsz : Hid (W0.heap.size = w.heap.size + 4) := hsz
  have HJ0 : Hid (J [] W0) := HJ.out _ w W0 none hJ0 (below_grow hbel) (fun r h => by cases h)
  have H0 : Hid (W0.heap[w.heap.size]? = some (.cells #[.int .i64 o, .int .i64 mx, .int .i64 my, .int .i64 mz, .int .i64 r] 55) ∧ W0.heap[w.heap.size + 1]? = some (.cells #[.func (.yield l) #[] #[]] 26)) := ⟨k0, k1⟩
  clear hsz hbel k0 k1 hJ0
  obtain ⟨S1, hS1⟩ : ∃ S1 : Nat, S1 = (2 * r + 1).toNat := ⟨_, rfl⟩
  have hst := each_q 7 (by omega) (w.heap.size + 1 + 1 + 1) W0.heap.size (-r) (-r) (-r) r r r S1 S1 S1 (by omega) (by omega) (by omega) (by omega) (by omega) (by omega) (by omega) (by omega) (by omega) W0 (by have := Hsz.out; omega) (Nat.le_refl _) k3
  refine wpIn_rangeFunc_ownH rfl (by decide) (gf := 57) (lb := #[.pointer (some ⟨w.heap.size + 1 + 1 + 1, 0, none⟩)]) rfl trivial (enters_of Try.func57 (by kernel_rfl) rfl)
    hst (fun h k => Kp.trans h k) (fun W l o o' _ h ho _ => Kp.book W l o o' h ho) (Below.refl _ _) (fun _ => rfl)
    (fun pre W => J (vcs mx my mz r pre) W ∧ W.heap[w.heap.size]? = some (.cells #[.int .i64 o, .int .i64 mx, .int .i64 my, .int .i64 mz, .int .i64 r] 55) ∧ W.heap[w.heap.size + 1]? = some (.cells #[.func (.yield l) #[] #[]] 26))
    (fun _ _ _ => False)
    (OwnFrom.and (fun s A B row hs hg hr => HJ.out _ A B row hs hg (fun q e => ⟨by have := (hr q e).1; have := Hsz.out; omega, (hr q e).2⟩)) (OwnFrom.and (ownFrom_block _ _ _ (by have := Hsz.out; omega)) (ownFrom_block _ _ _ (by have := Hsz.out; omega))))
    (fun _ _ _ _ _ hs _ _ => hs)
    ⟨HJ0.out, H0.out⟩
    (fun x a' W => ∃ Bx, W.heap[Bx]? = some (.cells #[.int .i64 x.x, .int .i64 x.y, .int .i64 x.z] 24 (0, 0)) ∧ a' = { tmps := #[.agg #[.int .i64 o, .int .i64 mx, .int .i64 my, .int .i64 mz, .int .i64 r], .func (.yield l) #[] #[], Value.pointer (some { block := w.heap.size, off := 0 }), Value.pointer (some { block := w.heap.size + 1, off := 0 }), .int .i64 r, Value.pointer (some { block := w.heap.size + 1 + 1, off := 0 }), .pointer (some ⟨Bx, 0, none⟩), undef, Value.pointer (some { block := w.heap.size, off := 4 }), .int .i64 r, .int .i64 r, .int .i64 (-r), .int .i64 r, .int .i64 (-r), .int .i64 r, .int .i64 (-r), .agg #[.int .i64 (-r), .int .i64 (-r), .int .i64 (-r)], .int .i64 r, .int .i64 r, .int .i64 r, .agg #[.int .i64 r, .int .i64 r, .int .i64 r], .agg #[.int .i64 (-r), .int .i64 (-r), .int .i64 (-r), .int .i64 r, .int .i64 r, .int .i64 r], .agg #[.int .i64 (-r), .int .i64 (-r), .int .i64 (-r), .int .i64 r, .int .i64 r, .int .i64 r], Value.func (Fn.func 57) #[] #[Value.pointer (some { block := w.heap.size + 1 + 1 + 1, off := 0 })], .agg #[.int .i64 x.x, .int .i64 x.y, .int .i64 x.z], undef, undef, undef, undef, undef, undef, undef, undef, undef, undef, undef, undef, undef, undef, undef, undef, undef, undef, undef, undef, undef, undef, undef, undef, undef, undef, undef, undef], defers := [] })
    (fun x a' _ X Y row hs hg hr => by
      obtain ⟨Bx, h1, h2⟩ := hs
      exact ⟨Bx, cells_kept hg hr h1, h2⟩)
    ?assign ?body ?done ?stop
  case assign =>
    rintro l' pre x W K ⟨hj, hb0, hb1⟩ hK
    have hlt0 := (Array.getElem?_eq_some_iff.1 hb0).1
    have hlt1 := (Array.getElem?_eq_some_iff.1 hb1).1
    have HX : Hid (KeepsFrom W0.heap.size W (W.alloc (.cells #[.int .i64 x.x, .int .i64 x.y, .int .i64 x.z] 24)) ∧ Kp (w.heap.size + 1 + 1 + 1) W0.heap.size W (W.alloc (.cells #[.int .i64 x.x, .int .i64 x.y, .int .i64 x.z] 24)) ∧ J (vcs mx my mz r pre) (W.alloc (.cells #[.int .i64 x.x, .int .i64 x.y, .int .i64 x.z] 24)) ∧ (W.alloc (.cells #[.int .i64 x.x, .int .i64 x.y, .int .i64 x.z] 24)).heap[w.heap.size]? = some (.cells #[.int .i64 o, .int .i64 mx, .int .i64 my, .int .i64 mz, .int .i64 r] 55) ∧ (W.alloc (.cells #[.int .i64 x.x, .int .i64 x.y, .int .i64 x.z] 24)).heap[w.heap.size + 1]? = some (.cells #[.func (.yield l) #[] #[]] 26)) :=
      ⟨(KeepsOthers.alloc _ _).from _, Kp.grow (World.grownBy_alloc W _ none), HJ.out.alloc _ hj, (Below.heap_alloc W _ _ hlt0).trans hb0, (Below.heap_alloc W _ _ hlt1).trans hb1⟩
    have HK : Hid (∀ a' W', _ → _ → _ → _ → K a' W') := hK
    clear hK hb0 hb1 hj
    gi_wp2
    exact HK.out _ _ HX.out.1 HX.out.2.1 HX.out.2.2 ⟨W.heap.size, heap_alloc_new W _, rfl⟩
  case body =>
    rintro l' pre ⟨qx, qy, qz, hqx, hqy, hqz⟩ a' W _ _ ⟨hj, hb0, hb1⟩ ⟨Bx, hP, rfl⟩ _
    have hF := HF.out
    have HC : Hid (∀ W1, Calls Try.prog 23 #[.agg #[.int .i64 o, .int .i64 mx, .int .i64 my, .int .i64 mz, .int .i64 r], .agg #[.int .i64 (mx + qx), .int .i64 (my + qy), .int .i64 (mz + qz)]] W1 fun e w' => e = .returned (.bool (decide (awayN mx my mz (mx + qx) (my + qy) (mz + qz) ≤ r))) ∧ Below W1.heap.size W1 w') := fun W1 =>
      vhas_c o mx my mz r _ _ _ W1 (by unfold Far at *; omega) (by unfold Far at *; omega) (by unfold Far at *; omega) (by unfold Far at *; omega) (by unfold Far at *; omega) (by unfold Far at *; omega)
    clear hF
    have x0 : W.cell? ⟨Bx, 0, none⟩ = some (.int .i64 qx) := (cell_of_row W _ 0 _ 24 (0, 0) hP).trans rfl
    have x1 : W.cell? ⟨Bx, 1, none⟩ = some (.int .i64 qy) := (cell_of_row W _ 1 _ 24 (0, 0) hP).trans rfl
    have x2 : W.cell? ⟨Bx, 2, none⟩ = some (.int .i64 qz) := (cell_of_row W _ 2 _ 24 (0, 0) hP).trans rfl
    have v0 : W.cell? ⟨w.heap.size, 0, none⟩ = some (.int .i64 o) := (cell_of_row W _ 0 _ 55 (0, 0) hb0).trans rfl
    have v1 : W.cell? ⟨w.heap.size, 1, none⟩ = some (.int .i64 mx) := (cell_of_row W _ 1 _ 55 (0, 0) hb0).trans rfl
    have v2 : W.cell? ⟨w.heap.size, 2, none⟩ = some (.int .i64 my) := (cell_of_row W _ 2 _ 55 (0, 0) hb0).trans rfl
    have v3 : W.cell? ⟨w.heap.size, 3, none⟩ = some (.int .i64 mz) := (cell_of_row W _ 3 _ 55 (0, 0) hb0).trans rfl
    have v4 : W.cell? ⟨w.heap.size, 4, none⟩ = some (.int .i64 r) := (cell_of_row W _ 4 _ 55 (0, 0) hb0).trans rfl
    have hlt0 := (Array.getElem?_eq_some_iff.1 hb0).1
    have HB : Hid (J (vcs mx my mz r pre) W ∧ W.heap[w.heap.size]? = some (.cells #[.int .i64 o, .int .i64 mx, .int .i64 my, .int .i64 mz, .int .i64 r] 55) ∧ W.heap[w.heap.size + 1]? = some (.cells #[.func (.yield l) #[] #[]] 26)) := ⟨hj, hb0, hb1⟩
    clear hj hb0 hb1 hP
    obtain ⟨W1, hW1⟩ : ∃ W1, W1 = W.alloc (.cells #[.int .i64 (mx + qx), .int .i64 (my + qy), .int .i64 (mz + qz)] 24) := ⟨_, rfl⟩
    have HW1 : Hid (Below W.heap.size W W1 ∧ W1.heap[W.heap.size]? = some (.cells #[.int .i64 (mx + qx), .int .i64 (my + qy), .int .i64 (mz + qz)] 24)) := by rw [hW1]; exact ⟨(Below.refl _ W).alloc (Nat.le_refl _) _, heap_alloc_new W _⟩
    gi_wp2_with (fail)
    rw [← hW1]
    clear hW1
    refine ⟨trivial, (CallsIn.inRound l' (callsIn_wide.2 (HC.out _))).mono ?_⟩
    clear HC
    rintro _ w2 ⟨rfl, hb2⟩
    have hbW : Below W.heap.size W w2 := HW1.out.1.trans (hb2.mono HW1.out.1.size)
    have hp2 : w2.heap[W.heap.size]? = some (.cells #[.int .i64 (mx + qx), .int .i64 (my + qy), .int .i64 (mz + qz)] 24) := (hb2.block _ (Array.getElem?_eq_some_iff.1 HW1.out.2).1).trans HW1.out.2
    have hj2 : J (vcs mx my mz r pre) w2 := HJ.out _ W w2 none HB.out.1 (below_grow hbW) (fun r h => by cases h)
    have hv2 : w2.heap[w.heap.size]? = some (.cells #[.int .i64 o, .int .i64 mx, .int .i64 my, .int .i64 mz, .int .i64 r] 55) := (hbW.block _ hlt0).trans HB.out.2.1
    have hy2 : w2.heap[w.heap.size + 1]? = some (.cells #[.func (.yield l) #[] #[]] 26) := (hbW.block _ (Array.getElem?_eq_some_iff.1 HB.out.2.2).1).trans HB.out.2.2
    have HE : Hid (∀ W3, KA w.heap.size w2 W3 → J (vcs mx my mz r (pre ++ [⟨qx, qy, qz, hqx, hqy, hqz⟩])) W3 → KeepsFrom W0.heap.size W W3 ∧ Kp (w.heap.size + 1 + 1 + 1) W0.heap.size W W3 ∧ J (vcs mx my mz r (pre ++ [⟨qx, qy, qz, hqx, hqy, hqz⟩])) W3 ∧ W3.heap[w.heap.size]? = some (.cells #[.int .i64 o, .int .i64 mx, .int .i64 my, .int .i64 mz, .int .i64 r] 55) ∧ W3.heap[w.heap.size + 1]? = some (.cells #[.func (.yield l) #[] #[]] 26)) := fun W3 hk hj => by
      have hk2 : KA w.heap.size W W3 := (KA.below hbW).trans hk
      exact ⟨(hk2.mono (by have := Hsz.out; omega)).keeps, ⟨fun cs fr h => hk2.same _ _ (by omega) h, fun k cs fr hk h => hk2.same _ _ (by have := Hsz.out; omega) h⟩, hj, hk.same _ _ (Nat.le_refl _) hv2, hk.same _ _ (by omega) hy2⟩
    have q0 : w2.cell? ⟨w.heap.size + 1, 0, none⟩ = some (.func (.yield l) #[] #[]) := (cell_of_row w2 _ 0 _ 26 (0, 0) hy2).trans rfl
    have p0 : w2.cell? ⟨W.heap.size, 0, none⟩ = some (.int .i64 (mx + qx)) := (cell_of_row w2 _ 0 _ 24 (0, 0) hp2).trans rfl
    have p1 : w2.cell? ⟨W.heap.size, 1, none⟩ = some (.int .i64 (my + qy)) := (cell_of_row w2 _ 1 _ 24 (0, 0) hp2).trans rfl
    have p2 : w2.cell? ⟨W.heap.size, 2, none⟩ = some (.int .i64 (mz + qz)) := (cell_of_row w2 _ 2 _ 24 (0, 0) hp2).trans rfl
    clear hb2 hbW hp2 hv2 hy2 HW1 HB x0 x1 x2 v0 v1 v2 v3 v4
    by_cases ha : awayN mx my mz (mx + qx) (my + qy) (mz + qz) ≤ r
    · obtain ⟨fn, tmps, assign, body, hy, hR⟩ := HY.out (vcs mx my mz r pre) ⟨mx + qx, my + qy, mz + qz, ha⟩ w2 hj2
      dsimp only [VC.val] at hy
      rw [decide_eq_true ha]
      have e : vcs mx my mz r (pre ++ [⟨qx, qy, qz, hqx, hqy, hqz⟩]) = vcs mx my mz r pre ++ [⟨mx + qx, my + qy, mz + qz, ha⟩] := vcs_yes pre ⟨qx, qy, qz, hqx, hqy, hqz⟩ ha
      have HV : Hid (∀ W3, J (vcs mx my mz r pre ++ [⟨mx + qx, my + qy, mz + qz, ha⟩]) W3 → J (vcs mx my mz r (pre ++ [⟨qx, qy, qz, hqx, hqy, hqz⟩])) W3) := fun W3 h => e ▸ h
      clear e
      clear hj2
      gi_wp2
      refine RoundIn.mono (F := Fence.wide) hR ?_
      clear hy hR
      rintro _ w3 ⟨rfl, hj3, hk3⟩
      have HE3 : Hid _ := HE.out w3 hk3 (HV.out w3 hj3)
      clear HE HV hj3 hk3 p0 p1 p2 q0
      gi_wp2
      exact HE3.out
    · rw [decide_eq_false ha]
      have HE2 : Hid _ := HE.out w2 (KA.refl _ _) ((vcs_no pre ⟨qx, qy, qz, hqx, hqy, hqz⟩ ha).symm ▸ hj2)
      clear HE hj2
      gi_wp2
      refine ⟨fun _ h => (by cases h), ?_⟩
      gi_wp2
      exact HE2.out
  case done =>
    rintro D ys W hD hq ⟨hj, _, _⟩ hK
    have R : ∀ v, Post (.returned v) (W.putObj D (.deferred none)) := fun v => HP.out v _ _ (vcs_all (mx := mx) (my := my) (mz := mz) (by omega) hq) (HJ.out.putObj _ hj (by have := Hsz.out; omega) hK rfl)
    clear hj hq HP HJ HY HJ0 H0
    gi_wp2
    refine ⟨by simp, .inl ⟨_, _, rfl, run_takeDeferred hK, ?_⟩⟩
    exact ⟨_, results_none rfl _ _ _, R _⟩
  case stop =>
    rintro D c pre W _ _ h _
    exact h.elim
end Go.Proofs.Ytbcadklodjdokaa
