/-
  The landed veins: Of.
-/
import Derived.Test.YtbcadklodjdokaaPabo
import Derived.Test.YtbcadklodjdokaaPpl
set_option maxRecDepth 20000
namespace Go.Proofs.Ytbcadklodjdokaa
open C G Go.RowKit Go.Shelf

attribute [local go_sem] Oper.semAt_some

theorem about_stops (n : Nat) (hn : 1 ≤ n) (ga gb gs S : Nat) (hS : S < 18446744073709551616) (a1 a2 a3 b1 b2 b3 : Int) (S1 S2 S3 : Nat) (e1 : a1 + (S1 : Int) = b1 + 1) (e2 : a2 + (S2 : Int) = b2 + 1) (e3 : a3 + (S3 : Int) = b3 + 1)
    (q1 : -140737488355328 ≤ a1 ∧ b1 ≤ 140737488355328) (q2 : -140737488355328 ≤ a2 ∧ b2 ≤ 140737488355328) (q3 : -140737488355328 ≤ a3 ∧ b3 ≤ 140737488355328) (w : World) (hA : Ab S ga gb gs a1 a2 a3 b1 b2 b3 w) :
    SeqStopsK Fence.wide n Try.prog 39 #[.pointer (some ⟨ga, 0, none⟩), .pointer (some ⟨gb, 0, none⟩), .pointer (some ⟨gs, 0, none⟩)] (fun v : VN S => #[v.val]) (K3 ga gb gs) (fun xs => og xs = (upto a1 a2 a3 S1 S3 (S2 * S3 * S1)).filter (vhP S)) (fun pre => og pre <+: (upto a1 a2 a3 S1 S3 (S2 * S3 * S1)).filter (vhP S)) (S2 * S3 * S1) w := fun l J Jx W hW hJ hJx hY h0 =>
  (about1_c n hn l ga gb gs S hS a1 a2 a3 b1 b2 b3 S1 S2 S3 e1 e2 e3 q1 q2 q3 J Jx W hJ hJx hY (hA.on hW) h0).mono fun _ _ h => h
theorem VN.far {S : Nat} (v : VN S) : Far 2251799813685248 (vX v.h v.x) ∧ Far 2251799813685248 (vY v.h v.y) ∧ Far 2251799813685248 (vZ v.h v.z) := by
  have h1 := v.hx
  have h2 := v.hy
  have h3 := v.hz
  have := vX_bd v.h v.x
  have := vY_bd v.h v.y
  have := vZ_bd v.h v.z
  unfold Far at *
  omega
theorem VN.cov {S : Nat} (v : VN S) (x y z : Int) : covP S x y z ⟨v.x, v.y, v.z⟩ = decide (awayN (vX v.h v.x) (vY v.h v.y) (vZ v.h v.z) x y z ≤ vReach v.h) := by
  unfold covP covN covH
  simp only
  have h := v.has
  rw [h, Bool.true_and]
theorem VN.ore {S : Nat} (v : VN S) : oreP S ⟨v.x, v.y, v.z⟩ = vOre v.h := by unfold oreP oreN; rfl
theorem res_one {W : World} {fn : Func} {p : Tmp} {t : TypeId} {tmps : Array Value} {a : Nat} {x : Int} (h : fn.results = #[.cell p 3]) (hp : tmps.getD p undef = .pointer (some ⟨a, 0, none⟩)) (ha : W.heap[a]? = some (.cells #[.int .i64 x] t (0, 0))) : (results fn tmps).run Try.prog W = .ok (.int .i64 x) W := by
  have c : W.cell? ⟨a, 0, none⟩ = some (.int .i64 x) := (cell_of_row W a 0 _ t (0, 0) ha).trans rfl
  have hp' : tmps[p]?.getD undef = .pointer (some ⟨a, 0, none⟩) := by simpa using hp
  simp [results, h, hp', asAddr, go_sem, c]
theorem own_below {β : Type} {w : World} {B : Nat} (hB : w.heap.size ≤ B) : OwnFrom B (fun (_ : β) W => Below w.heap.size w W) := fun _ _ _ _ hs hg hr =>
  ⟨hg.os.trans hs.os, hg.tape.trans hs.tape, hg.output.trans hs.output, Nat.le_trans hs.size hg.size, fun k hk => (hg.block k (by have := hs.size; omega) (fun e => by have := (hr k e.symm).1; omega)).trans (hs.block k hk)⟩
theorem own_cells {β : Type} {B k : Nat} (f : β → Array Value) (t : TypeId) (hk : k < B) : OwnFrom B (fun b W => W.heap[k]? = some (.cells (f b) t (0, 0))) := fun _ _ _ _ hs hg hr => (hg.block k (Array.getElem?_eq_some_iff.1 hs).1 (fun e => by have := (hr k e.symm).1; omega)).trans hs
/-- No vein so far has the cell. -/
def NoneV {S : Nat} (x y z : Int) (l : List (VN S)) : Prop := ∀ v ∈ l, covP S x y z ⟨v.x, v.y, v.z⟩ = false
theorem NoneV.og {S : Nat} {x y z : Int} {l : List (VN S)} (h : NoneV x y z l) : ∀ p ∈ og l, covP S x y z p = false := fun p hp => by
  unfold Go.Proofs.Ytbcadklodjdokaa.og at hp
  obtain ⟨v, hv, rfl⟩ := List.mem_map.1 hp
  exact h v hv
set_option maxRecDepth 100000 in
set_option maxHeartbeats 2000000 in
theorem of_c (S : Nat) (x y z : Int) (w : World) (hS : S < 18446744073709551616) (hx : Far 1099511627776 x) (hy : Far 1099511627776 y) (hz : Far 1099511627776 z) :
    Calls Try.prog 9 #[.int .u64 S, .agg #[.int .i64 x, .int .i64 y, .int .i64 z]] w fun e w' => e = .returned (.int .i64 (ofN S x y z)) ∧ Below w.heap.size w w' := by
  obtain ⟨Post, hPost⟩ : ∃ Post : Ending → World → Prop, Post = fun e w' => e = .returned (.int .i64 (ofN S x y z)) ∧ Below w.heap.size w w' := ⟨_, rfl⟩
  rw [← hPost]
  have HP : Hid (∀ v w', ofN S x y z = v → Below w.heap.size w w' → Post (.returned (.int .i64 v)) w') := fun v w' h1 h2 => by rw [hPost, h1]; exact ⟨rfl, h2⟩
  clear hPost
  have HF : Hid (Far 1099511627776 x ∧ Far 1099511627776 y ∧ Far 1099511627776 z) := ⟨hx, hy, hz⟩
  have hab := fun w => about_c S x y z x y z w (by unfold Far at *; unfold I8; omega) (by unfold Far at *; unfold I8; omega) (by unfold Far at *; unfold I8; omega) (by unfold Far at *; unfold I8; omega) (by unfold Far at *; unfold I8; omega) (by unfold Far at *; unfold I8; omega)
  have HQ : Hid ((-140737488355328 ≤ x / 8 - 1 ∧ x / 8 + 1 ≤ 140737488355328) ∧ (-140737488355328 ≤ y / 8 - 1 ∧ y / 8 + 1 ≤ 140737488355328) ∧ (-140737488355328 ≤ z / 8 - 1 ∧ z / 8 + 1 ≤ 140737488355328)) := by
    show _ ∧ _ ∧ _
    unfold Far at *
    omega
  clear hx hy hz
  refine (callsIn_wide (n := 9)).1 ?_
  refine callsIn_of_wp_marks Try.func9 rfl trivial ?_ rfl
  simp only [Try.ntmps9, List.size_toArray, List.length_cons, List.length_nil, Nat.reduceAdd, Nat.reduceSub, Array.replicate_succ, Array.replicate_zero, List.push_toArray, List.append_toArray, List.nil_append, List.cons_append]
  gi_wp2_with (fail)
  refine ⟨trivial, (callsIn_wide.2 (hab _)).mono ?_⟩
  clear hab
  rintro _ W0 ⟨ga, gb, gs, rfl, hA, hb⟩
  have hb0 := below_two w (.cells #[.int .i64 x, .int .i64 y, .int .i64 z] 24) (.cells #[.int .i64 0] 3)
  have HB0 : Hid (Below w.heap.size w W0) := hb0.trans (hb.mono hb0.size)
  have hsz : w.heap.size + 2 ≤ W0.heap.size := by have := hb.size; simp at this; omega
  have HZ : Hid (W0.heap[w.heap.size]? = some (.cells #[.int .i64 x, .int .i64 y, .int .i64 z] 24 (0, 0)) ∧ W0.heap[w.heap.size + 1]? = some (.cells #[.int .i64 0] 3 (0, 0))) :=
    ⟨(hb.block _ (by simp <;> omega)).trans ((heap_alloc_old _ _ (by simp)).trans (heap_alloc_new w _)), (hb.block _ (by simp)).trans (new_two w _ _)⟩
  clear hb hb0
  gi_wp2_with (fail)
  have hst := about_stops 8 (by omega) ga gb gs S hS (x / 8 - 1) (y / 8 - 1) (z / 8 - 1) (x / 8 + 1) (y / 8 + 1) (z / 8 + 1) 3 3 3 (by omega) (by omega) (by omega) HQ.out.1 HQ.out.2.1 HQ.out.2.2 W0 hA
  refine wpIn_rangeFunc_ownH rfl (by decide) (gf := 39) (lb := #[.pointer (some ⟨ga, 0, none⟩), .pointer (some ⟨gb, 0, none⟩), .pointer (some ⟨gs, 0, none⟩)]) rfl trivial (enters_of Try.func39 (by kernel_rfl) rfl)
    hst (fun h k => K3.trans h k) (fun W l o o' _ h ho _ => K3.book W l o o' h ho) (Below.refl _ _) (fun _ => rfl)
    (fun pre W => (NoneV x y z pre ∧ Below w.heap.size w W) ∧ W.heap[w.heap.size]? = some (.cells #[.int .i64 x, .int .i64 y, .int .i64 z] 24 (0, 0)) ∧ W.heap[w.heap.size + 1]? = some (.cells #[.int .i64 0] 3 (0, 0)))
    (fun c pre W => (c = .ret ∧ ∃ K v, pre = K ++ [v] ∧ NoneV x y z K ∧ covP S x y z ⟨v.x, v.y, v.z⟩ = true ∧ W.heap[w.heap.size + 1]? = some (.cells #[.int .i64 (vOre v.h)] 3 (0, 0))) ∧ Below w.heap.size w W)
    (OwnFrom.and (OwnFrom.and (ownFrom_pure _ _) (own_below (by omega))) (OwnFrom.and (ownFrom_block _ _ _ (by omega)) (ownFrom_block _ _ _ (by omega))))
    (fun c => OwnFrom.and (fun s A B row hs hg hr => by
      obtain ⟨hc, K, v, h1, h2, h3, h4⟩ := hs
      exact ⟨hc, K, v, h1, h2, h3, cells_kept hg hr h4⟩) (own_below (by omega)))
    ⟨⟨fun v hv => (by cases hv), HB0.out⟩, HZ.out⟩
    (fun v a' W => ∃ Bx, W.heap[Bx]? = some (.cells (vein v.h v.x v.y v.z) 55 (0, 0)) ∧ a' = { tmps := #[.int .u64 (S : Int), .agg #[.int .i64 x, .int .i64 y, .int .i64 z], undef, Value.pointer (some { block := w.heap.size, off := 0 }), Value.pointer (some { block := w.heap.size + 1, off := 0 }), .pointer (some ⟨Bx, 0, none⟩), .int .u64 (S : Int), .agg #[.int .i64 x, .int .i64 y, .int .i64 z], .agg #[.int .i64 x, .int .i64 y, .int .i64 z], Value.func (Fn.func 39) #[] #[.pointer (some ⟨ga, 0, none⟩), .pointer (some ⟨gb, 0, none⟩), .pointer (some ⟨gs, 0, none⟩)], v.val, undef, undef, undef, undef, undef], defers := [] })
    (fun x a' _ X Y row hs hg hr => by
      obtain ⟨Bx, h1, h2⟩ := hs
      exact ⟨Bx, cells_kept hg hr h1, h2⟩)
    ?assign ?body ?done ?stop
  case assign =>
    rintro l pre v W K ⟨⟨hn, hb⟩, h0, h1⟩ hK
    have hbA : Below W.heap.size W (W.alloc (.cells (vein v.h v.x v.y v.z) 55)) := (Below.refl _ W).alloc (Nat.le_refl _) _
    have HX : Hid (KeepsFrom W0.heap.size W (W.alloc (.cells (vein v.h v.x v.y v.z) 55)) ∧ K3 ga gb gs W (W.alloc (.cells (vein v.h v.x v.y v.z) 55)) ∧ ((NoneV x y z pre ∧ Below w.heap.size w (W.alloc (.cells (vein v.h v.x v.y v.z) 55))) ∧ (W.alloc (.cells (vein v.h v.x v.y v.z) 55)).heap[w.heap.size]? = some (.cells #[.int .i64 x, .int .i64 y, .int .i64 z] 24 (0, 0)) ∧ (W.alloc (.cells (vein v.h v.x v.y v.z) 55)).heap[w.heap.size + 1]? = some (.cells #[.int .i64 0] 3 (0, 0)))) :=
      ⟨(KeepsOthers.alloc _ _).from _, K3.below hbA, ⟨hn, hb.trans (hbA.mono hb.size)⟩, (hbA.block _ (Array.getElem?_eq_some_iff.1 h0).1).trans h0, (hbA.block _ (Array.getElem?_eq_some_iff.1 h1).1).trans h1⟩
    have HN : Hid ((W.alloc (.cells (vein v.h v.x v.y v.z) 55)).heap[W.heap.size]? = some (.cells (vein v.h v.x v.y v.z) 55 (0, 0))) := heap_alloc_new W _
    have HK : Hid (∀ a' W', _ → _ → _ → _ → K a' W') := hK
    clear hK hn hb h0 h1 hbA
    dsimp only [VN.val]
    unfold vein at HX HN ⊢
    gi_wp2
    exact HK.out _ _ HX.out.1 HX.out.2.1 HX.out.2.2 ⟨W.heap.size, HN.out, rfl⟩
  case body =>
    rintro l pre v a' W _ _ ⟨⟨hn, hb⟩, h0, h1⟩ ⟨Bx, hP, rfl⟩ _
    have hvf := v.far
    have hcv := v.cov x y z
    have hF := HF.out
    have HC : Hid (∀ W1, Calls Try.prog 23 #[.agg #[.int .i64 (vOre v.h), .int .i64 (vX v.h v.x), .int .i64 (vY v.h v.y), .int .i64 (vZ v.h v.z), .int .i64 (vReach v.h)], .agg #[.int .i64 x, .int .i64 y, .int .i64 z]] W1 fun e w' => e = .returned (.bool (decide (awayN (vX v.h v.x) (vY v.h v.y) (vZ v.h v.z) x y z ≤ vReach v.h))) ∧ Below W1.heap.size W1 w') := fun W1 =>
      vhas_c (vOre v.h) (vX v.h v.x) (vY v.h v.y) (vZ v.h v.z) (vReach v.h) x y z W1 (by unfold Far at *; omega) (by unfold Far at *; omega) (by unfold Far at *; omega) (by unfold Far at *; omega) (by unfold Far at *; omega) (by unfold Far at *; omega)
    have HE : Hid ((∀ W3, Below W.heap.size W W3 → covP S x y z ⟨v.x, v.y, v.z⟩ = false → KeepsFrom W0.heap.size W W3 ∧ K3 ga gb gs W W3 ∧ ((NoneV x y z (pre ++ [v]) ∧ Below w.heap.size w W3) ∧ W3.heap[w.heap.size]? = some (.cells #[.int .i64 x, .int .i64 y, .int .i64 z] 24 (0, 0)) ∧ W3.heap[w.heap.size + 1]? = some (.cells #[.int .i64 0] 3 (0, 0)))) ∧ ∀ W3, Below W.heap.size W W3 → covP S x y z ⟨v.x, v.y, v.z⟩ = true → KeepsFrom W0.heap.size W (W3.setCell ⟨w.heap.size + 1, 0, none⟩ (.int .i64 (vOre v.h))) ∧ ((∃ K u, pre ++ [v] = K ++ [u] ∧ NoneV x y z K ∧ covP S x y z ⟨u.x, u.y, u.z⟩ = true ∧ (W3.setCell ⟨w.heap.size + 1, 0, none⟩ (.int .i64 (vOre v.h))).heap[w.heap.size + 1]? = some (.cells #[.int .i64 (vOre u.h)] 3 (0, 0))) ∧ Below w.heap.size w (W3.setCell ⟨w.heap.size + 1, 0, none⟩ (.int .i64 (vOre v.h))))) := by
      refine ⟨fun W3 hb3 hc => ⟨(KA.below hb3).keeps, K3.below hb3, ⟨fun u hu => ?_, hb.trans (hb3.mono hb.size)⟩, (hb3.block _ (Array.getElem?_eq_some_iff.1 h0).1).trans h0, (hb3.block _ (Array.getElem?_eq_some_iff.1 h1).1).trans h1⟩, fun W3 hb3 hc => ⟨((KA.below hb3).keeps).trans ((KeepsOthers.setCell _ _ _).from _), ⟨pre, v, rfl, hn, hc, ?_⟩, (hb.trans (hb3.mono hb.size)).setCell (p := ⟨w.heap.size + 1, 0, none⟩) (by simp) _⟩⟩
      · rcases List.mem_append.1 hu with hu | hu
        · exact hn u hu
        · rw [List.mem_singleton.1 hu]; exact hc
      · rw [heap_setCell_same _ _ 0 _ 3 _ ((hb3.block _ (Array.getElem?_eq_some_iff.1 h1).1).trans h1)]
        rfl
    rw [hcv] at HE
    clear hvf hcv hF hn hb
    have p0 : W.cell? ⟨w.heap.size, 0, none⟩ = some (.int .i64 x) := (cell_of_row W _ 0 _ 24 (0, 0) h0).trans rfl
    have p1 : W.cell? ⟨w.heap.size, 1, none⟩ = some (.int .i64 y) := (cell_of_row W _ 1 _ 24 (0, 0) h0).trans rfl
    have p2 : W.cell? ⟨w.heap.size, 2, none⟩ = some (.int .i64 z) := (cell_of_row W _ 2 _ 24 (0, 0) h0).trans rfl
    dsimp only [VN.val]
    unfold vein at hP ⊢
    generalize vOre v.h = mo at *
    generalize vX v.h v.x = mx at *
    generalize vY v.h v.y = my at *
    generalize vZ v.h v.z = mz at *
    generalize vReach v.h = mr at *
    have v0 : W.cell? ⟨Bx, 0, none⟩ = some (.int .i64 mo) := (cell_of_row W _ 0 _ 55 (0, 0) hP).trans rfl
    have v1 : W.cell? ⟨Bx, 1, none⟩ = some (.int .i64 mx) := (cell_of_row W _ 1 _ 55 (0, 0) hP).trans rfl
    have v2 : W.cell? ⟨Bx, 2, none⟩ = some (.int .i64 my) := (cell_of_row W _ 2 _ 55 (0, 0) hP).trans rfl
    have v3 : W.cell? ⟨Bx, 3, none⟩ = some (.int .i64 mz) := (cell_of_row W _ 3 _ 55 (0, 0) hP).trans rfl
    have v4 : W.cell? ⟨Bx, 4, none⟩ = some (.int .i64 mr) := (cell_of_row W _ 4 _ 55 (0, 0) hP).trans rfl
    gi_wp2_with (fail)
    refine ⟨trivial, (CallsIn.inRound l (callsIn_wide.2 (HC.out _))).mono ?_⟩
    clear HC
    rintro _ w2 ⟨rfl, hb2⟩
    by_cases ha : awayN mx my mz x y z ≤ mr
    · rw [decide_eq_true ha]
      have hR := HE.out.2 w2 hb2 (decide_eq_true ha)
      have HR : Hid _ := hR
      have u0 := cell_below v0 hb2
      have hr1 := (hb2.block _ (Array.getElem?_eq_some_iff.1 h1).1).trans h1
      have r0 : w2.cell? ⟨w.heap.size + 1, 0, none⟩ = some (.int .i64 0) := (cell_of_row w2 _ 0 _ 3 (0, 0) hr1).trans rfl
      have f0 : w2.frozen? ⟨w.heap.size + 1, 0, none⟩ = false := frozen_of_row w2 _ 0 _ 3 hr1
      clear HE hR hb2 hr1 v0 v1 v2 v3 v4 p0 p1 p2 h0 h1 hP
      gi_wp2
      exact ⟨HR.out.1, ⟨rfl, HR.out.2.1⟩, HR.out.2.2⟩
    · rw [decide_eq_false ha]
      have hR := HE.out.1 w2 hb2 (decide_eq_false ha)
      have HR : Hid _ := hR
      clear HE hR hb2 v0 v1 v2 v3 v4 p0 p1 p2 h0 h1 hP
      gi_wp2
      exact HR.out
  case done =>
    rintro D ys W hD hq ⟨⟨hn, hb⟩, h0, h1⟩ hK
    have hof : ofN S x y z = 0 := of_none hq hn.og
    have r0 : W.cell? ⟨w.heap.size + 1, 0, none⟩ = some (.int .i64 0) := (cell_of_row W _ 0 _ 3 (0, 0) h1).trans rfl
    have f0 : W.frozen? ⟨w.heap.size + 1, 0, none⟩ = false := frozen_of_row W _ 0 _ 3 h1
    have h2 : (W.setCell ⟨w.heap.size + 1, 0, none⟩ (.int .i64 0)).heap[w.heap.size + 1]? = some (.cells #[.int .i64 0] 3 (0, 0)) := by rw [heap_setCell_same _ _ 0 _ 3 _ h1]; rfl
    have hD1 : (W.setCell ⟨w.heap.size + 1, 0, none⟩ (.int .i64 0)).heap[D]? = some (.deferred (some [])) := (Below.heap_setCell _ _ _ _ (by simp only; omega)).trans hK
    have hb3 : Below w.heap.size w ((W.setCell ⟨w.heap.size + 1, 0, none⟩ (.int .i64 0)).putObj D (.deferred none)) := (hb.setCell (p := ⟨w.heap.size + 1, 0, none⟩) (by simp) _).trans ⟨rfl, rfl, rfl, by simp, fun k hk => World.putObj_heap_other (by omega)⟩
    have R := HP.out 0 _ hof hb3
    have HR : Hid (Post _ _ ∧ (W.setCell ⟨w.heap.size + 1, 0, none⟩ (.int .i64 0)).heap[w.heap.size + 1]? = some (.cells #[.int .i64 0] 3 (0, 0))) := ⟨R, h2⟩
    clear R HP hof hb3 h2 hb hn hq h0 h1
    gi_wp2
    refine ⟨by simp, .inl ⟨_, _, rfl, run_takeDeferred hD1, ?_⟩⟩
    exact ⟨_, res_one rfl rfl ((World.putObj_heap_other (by omega)).trans HR.out.2), HR.out.1⟩
  case stop =>
    rintro D c pre W hD hp ⟨⟨rfl, K, v, rfl, hn, hc, h1⟩, hb⟩ hK
    rw [og_snoc] at hp
    have hof : ofN S x y z = vOre v.h := (of_first (p := ⟨v.x, v.y, v.z⟩) hp hn.og hc).trans v.ore
    have hb3 : Below w.heap.size w (W.putObj D (.deferred none)) := hb.trans ⟨rfl, rfl, rfl, by simp, fun k hk => World.putObj_heap_other (by omega)⟩
    have R := HP.out _ _ hof hb3
    have HR : Hid (Post _ _ ∧ W.heap[w.heap.size + 1]? = some (.cells #[.int .i64 (vOre v.h)] 3 (0, 0))) := ⟨R, h1⟩
    clear R HP hof hb3 hb hn hp hc h1
    gi_wp2
    refine ⟨by simp, .inl ⟨_, _, rfl, run_takeDeferred hK, ?_⟩⟩
    exact ⟨_, res_one rfl rfl ((World.putObj_heap_other (by omega)).trans HR.out.2), HR.out.1⟩
end Go.Proofs.Ytbcadklodjdokaa
