/-
  The landed veins: about.
-/
import Derived.Test.YtbcadklodjdokaaPab
import Derived.Test.YtbcadklodjdokaaWapplies
set_option maxRecDepth 20000
namespace Go.Proofs.Ytbcadklodjdokaa
open C Go.RowKit Go.Shelf

section
variable {P : Program} {ops : Array Oper} {Q : Exit → Act → World → Prop} {md : Region.Mode} {S : World → Prop} {n : Nat}
theorem two_L {i j : Nat} {oi oj : Oper} {fuel : Nat} {listed : Array Bool} {a : Act} {w : World} (hr : Region.ready md ops listed = [i, j]) (hoi : ops[i]? = some oi) (hoj : ops[j]? = some oj)
    (h1 : ∀ K' : Act → World → Prop, Shut (∀ a w, (i ≠ n → S w) → wpAnyL P md ops Q S n fuel (listed.setIfInBounds i true) a w → K' a w) → if Region.wanted oi (yielded ops a.tmps) = true then Oper.wp P oi a w K' Q else K' (a.put oi.dst undef) w)
    (h2 : ∀ K' : Act → World → Prop, Shut (∀ a w, (j ≠ n → S w) → wpAnyL P md ops Q S n fuel (listed.setIfInBounds j true) a w → K' a w) → if Region.wanted oj (yielded ops a.tmps) = true then Oper.wp P oj a w K' Q else K' (a.put oj.dst undef) w) : wpAnyL P md ops Q S n (fuel + 1) listed a w :=
  ⟨fun h0 => (by rw [hr] at h0; cases h0), fun k hk => (by
    rw [hr] at hk
    rcases List.mem_cons.1 hk with rfl | hk
    · exact wpOp_step hoi (fun K' hK => h1 K' (fun a w hS hW => hK a w ⟨hS, hW⟩))
    · obtain rfl := List.mem_singleton.1 hk
      exact wpOp_step hoj (fun K' hK => h2 K' (fun a w hS hW => hK a w ⟨hS, hW⟩)))⟩
theorem three_L {i j k : Nat} {oi oj ok : Oper} {fuel : Nat} {listed : Array Bool} {a : Act} {w : World} (hr : Region.ready md ops listed = [i, j, k]) (hoi : ops[i]? = some oi) (hoj : ops[j]? = some oj) (hok : ops[k]? = some ok)
    (h1 : ∀ K' : Act → World → Prop, Shut (∀ a w, (i ≠ n → S w) → wpAnyL P md ops Q S n fuel (listed.setIfInBounds i true) a w → K' a w) → if Region.wanted oi (yielded ops a.tmps) = true then Oper.wp P oi a w K' Q else K' (a.put oi.dst undef) w)
    (h2 : ∀ K' : Act → World → Prop, Shut (∀ a w, (j ≠ n → S w) → wpAnyL P md ops Q S n fuel (listed.setIfInBounds j true) a w → K' a w) → if Region.wanted oj (yielded ops a.tmps) = true then Oper.wp P oj a w K' Q else K' (a.put oj.dst undef) w)
    (h3 : ∀ K' : Act → World → Prop, Shut (∀ a w, (k ≠ n → S w) → wpAnyL P md ops Q S n fuel (listed.setIfInBounds k true) a w → K' a w) → if Region.wanted ok (yielded ops a.tmps) = true then Oper.wp P ok a w K' Q else K' (a.put ok.dst undef) w) : wpAnyL P md ops Q S n (fuel + 1) listed a w :=
  ⟨fun h0 => (by rw [hr] at h0; cases h0), fun q hq => (by
    rw [hr] at hq
    rcases List.mem_cons.1 hq with rfl | hq
    · exact wpOp_step hoi (fun K' hK => h1 K' (fun a w hS hW => hK a w ⟨hS, hW⟩))
    · rcases List.mem_cons.1 hq with rfl | hq
      · exact wpOp_step hoj (fun K' hK => h2 K' (fun a w hS hW => hK a w ⟨hS, hW⟩))
      · obtain rfl := List.mem_singleton.1 hq
        exact wpOp_step hok (fun K' hK => h3 K' (fun a w hS hW => hK a w ⟨hS, hW⟩)))⟩
end
def onlyN (R : Act → World → Prop) : Exit → Act → World → Prop
  | .normal, a, w => R a w
  | _, _, _ => False
def I8 (a : Int) : Prop := -9223372036854775808 ≤ a ∧ a ≤ 9223372036854775807
theorem div8_c (a : Int) (h : I8 a) (w : World) : Calls Try.prog 38 #[.int .i64 a, .int .i64 8] w fun e w' => e = .returned (.int .i64 (a / 8)) ∧ w' = w := N.div_hi a 8 w (by decide) (by decide) h.1 h.2
set_option maxRecDepth 100000 in
set_option maxHeartbeats 2000000 in
theorem about_c (S : Nat) (x y z x' y' z' : Int) (w : World) (hx : I8 x) (hy : I8 y) (hz : I8 z) (hx' : I8 x') (hy' : I8 y') (hz' : I8 z') :
    Calls Try.prog 22 #[.int .u64 S, .agg #[.int .i64 x, .int .i64 y, .int .i64 z], .agg #[.int .i64 x', .int .i64 y', .int .i64 z']] w fun e w' => ∃ ga gb gs, e = .returned (.func (.func 39) #[] #[.pointer (some ⟨ga, 0, none⟩), .pointer (some ⟨gb, 0, none⟩), .pointer (some ⟨gs, 0, none⟩)]) ∧ Ab S ga gb gs (x / 8 - 1) (y / 8 - 1) (z / 8 - 1) (x' / 8 + 1) (y' / 8 + 1) (z' / 8 + 1) w' ∧ Below w.heap.size w w' := by
  have dx := fun w => div8_c x hx w
  have dy := fun w => div8_c y hy w
  have dz := fun w => div8_c z hz w
  have dx' := fun w => div8_c x' hx' w
  have dy' := fun w => div8_c y' hy' w
  have dz' := fun w => div8_c z' hz' w
  have r1 : -1152921504606846976 ≤ x / 8 ∧ x / 8 ≤ 1152921504606846975 := by unfold I8 at hx; omega
  have r2 : -1152921504606846976 ≤ y / 8 ∧ y / 8 ≤ 1152921504606846975 := by unfold I8 at hy; omega
  have r3 : -1152921504606846976 ≤ z / 8 ∧ z / 8 ≤ 1152921504606846975 := by unfold I8 at hz; omega
  have r4 : -1152921504606846976 ≤ x' / 8 ∧ x' / 8 ≤ 1152921504606846975 := by unfold I8 at hx'; omega
  have r5 : -1152921504606846976 ≤ y' / 8 ∧ y' / 8 ≤ 1152921504606846975 := by unfold I8 at hy'; omega
  have r6 : -1152921504606846976 ≤ z' / 8 ∧ z' / 8 ≤ 1152921504606846975 := by unfold I8 at hz'; omega
  generalize x / 8 = A at *
  generalize y / 8 = B at *
  generalize z / 8 = D at *
  generalize x' / 8 = A' at *
  generalize y' / 8 = B' at *
  generalize z' / 8 = D' at *
  have wA : IntKind.i64.wrap (A - 1) = A - 1 := by rw [IntKind.wrap_i64]; omega
  have wB : IntKind.i64.wrap (B - 1) = B - 1 := by rw [IntKind.wrap_i64]; omega
  have wD : IntKind.i64.wrap (D - 1) = D - 1 := by rw [IntKind.wrap_i64]; omega
  have wA' : IntKind.i64.wrap (A' + 1) = A' + 1 := by rw [IntKind.wrap_i64]; omega
  have wB' : IntKind.i64.wrap (B' + 1) = B' + 1 := by rw [IntKind.wrap_i64]; omega
  have wD' : IntKind.i64.wrap (D' + 1) = D' + 1 := by rw [IntKind.wrap_i64]; omega
  clear hx hy hz hx' hy' hz' r1 r2 r3 r4 r5 r6
  obtain ⟨Post, hPost⟩ : ∃ Post : Ending → World → Prop, Post = fun e w' => ∃ ga gb gs, e = .returned (.func (.func 39) #[] #[.pointer (some ⟨ga, 0, none⟩), .pointer (some ⟨gb, 0, none⟩), .pointer (some ⟨gs, 0, none⟩)]) ∧ Ab S ga gb gs (A - 1) (B - 1) (D - 1) (A' + 1) (B' + 1) (D' + 1) w' ∧ Below w.heap.size w w' := ⟨_, rfl⟩
  rw [← hPost]
  have HP : Hid (∀ ga gb gs w', Ab S ga gb gs (A - 1) (B - 1) (D - 1) (A' + 1) (B' + 1) (D' + 1) w' → Below w.heap.size w w' → Post (.returned (.func (.func 39) #[] #[.pointer (some ⟨ga, 0, none⟩), .pointer (some ⟨gb, 0, none⟩), .pointer (some ⟨gs, 0, none⟩)])) w') := fun ga gb gs w' h1 h2 => by rw [hPost]; exact ⟨ga, gb, gs, rfl, h1, h2⟩
  clear hPost
  go_enter Try.func22, Try.ntmps22
  go_wp2
  obtain ⟨W, hW⟩ : ∃ W, W = ((w.alloc (.cells #[.int .u64 S] 22)).alloc (.cells #[.int .i64 x, .int .i64 y, .int .i64 z] 24)).alloc (.cells #[.int .i64 x', .int .i64 y', .int .i64 z'] 24) := ⟨_, rfl⟩
  obtain ⟨hsz, hbel, k0, k1, k2⟩ := chain3 w _ _ _ hW
  rw [← hW]
  clear hW
  have HB : Hid (Below w.heap.size w W ∧ W.heap[w.heap.size]? = some (.cells #[.int .u64 S] 22) ∧ W.heap[w.heap.size + 1 + 1]? = some (.cells #[.int .i64 x', .int .i64 y', .int .i64 z'] 24)) := ⟨hbel, k0, k2⟩
  have c0 : W.cell? ⟨w.heap.size + 1, 0, none⟩ = some (.int .i64 x) := (cell_of_row W _ 0 _ 24 (0, 0) k1).trans rfl
  have c1 : W.cell? ⟨w.heap.size + 1, 1, none⟩ = some (.int .i64 y) := (cell_of_row W _ 1 _ 24 (0, 0) k1).trans rfl
  have c2 : W.cell? ⟨w.heap.size + 1, 2, none⟩ = some (.int .i64 z) := (cell_of_row W _ 2 _ 24 (0, 0) k1).trans rfl
  clear hsz hbel k0 k1 k2
  refine wp_mono (Q := onlyN fun a' w' => ∃ ga, W.heap.size ≤ ga ∧ Below W.heap.size W w' ∧ w'.heap[ga]? = some (.cells #[.int .i64 (A - 1), .int .i64 (B - 1), .int .i64 (D - 1)] 24 (0, 0)) ∧ ∃ u9 u10 u11 u12 u13 u14 u15 u16 u17 u18 u19 u20 u21, a' = { tmps := #[.int .u64 (S : Int), .agg #[.int .i64 x, .int .i64 y, .int .i64 z], .agg #[.int .i64 x', .int .i64 y', .int .i64 z'], Value.pointer (some { block := w.heap.size, off := 0 }), Value.pointer (some { block := w.heap.size + 1, off := 0 }), Value.pointer (some { block := w.heap.size + 1 + 1, off := 0 }), Value.nilFunc, Value.pointer (some { block := ga, off := 0 }), undef, u9, u10, u11, u12, u13, u14, u15, u16, u17, u18, u19, u20, u21, undef, undef, undef, undef, undef, undef, undef, undef, undef, undef, undef, undef, undef, undef], defers := [] }) ?_ ?_
  · clear HP HB dx' dy' dz' wA' wB' wD'
    refine region_L (fun w' => Below W.heap.size W w') 20 (by kernel_rfl) ?_
    have h_v0 : (fun w' => Below W.heap.size W w') W.drew := (Below.refl _ W).drew
    generalize W.drew = v0 at *
    have hne : Nonempty (Sub (fun w' => Below W.heap.size W w')) := ⟨⟨_, h_v0⟩⟩
    have k0 : ∀ s : Sub (fun w' => Below W.heap.size W w'), s.w.cell? ⟨w.heap.size + 1, 0, none⟩ = some (.int .i64 x) := fun s => cell_below c0 s.ok
    have k1 : ∀ s : Sub (fun w' => Below W.heap.size W w'), s.w.cell? ⟨w.heap.size + 1, 1, none⟩ = some (.int .i64 y) := fun s => cell_below c1 s.ok
    have k2 : ∀ s : Sub (fun w' => Below W.heap.size W w'), s.w.cell? ⟨w.heap.size + 1, 2, none⟩ = some (.int .i64 z) := fun s => cell_below c2 s.ok
    clear c0 c1 c2
    refine take_L (i := 0) rfl (by kernel_rfl) (by kernel_rfl) (by kernel_rfl) (by kernel_rfl) (fun _ _ _ _ h => h) (by exact h_v0) (fun K hK => ?_)
    go_simp
    refine hK _ ?_
    clear hK K
    refine take_L (i := 1) rfl (by kernel_rfl) (by kernel_rfl) (by kernel_rfl) (by kernel_rfl) (fun _ _ _ _ h => h) (by exact h_v0) (fun K hK => ?_)
    go_simp
    refine hK _ ?_
    clear hK K
    refine take_L (i := 4) rfl (by kernel_rfl) (by kernel_rfl) (by kernel_rfl) (by kernel_rfl) (fun _ _ _ _ h => h) (by exact h_v0) (fun K hK => ?_)
    go_simp
    refine hK _ ?_
    clear hK K
    refine take_L (i := 5) rfl (by kernel_rfl) (by kernel_rfl) (by kernel_rfl) (by kernel_rfl) (fun _ _ _ _ h => h) (by exact h_v0) (fun K hK => ?_)
    go_simp
    refine hK _ ?_
    clear hK K
    refine take_L (i := 8) rfl (by kernel_rfl) (by kernel_rfl) (by kernel_rfl) (by kernel_rfl) (fun _ _ _ _ h => h) (by exact h_v0) (fun K hK => ?_)
    go_simp
    refine hK _ ?_
    clear hK K
    refine take_L (i := 9) rfl (by kernel_rfl) (by kernel_rfl) (by kernel_rfl) (by kernel_rfl) (fun _ _ _ _ h => h) (by exact h_v0) (fun K hK => ?_)
    go_simp
    refine hK _ ?_
    clear hK K
    refine two_L (i := 2) (j := 13) (by kernel_rfl) rfl rfl (fun K hK => ?_) (fun K hK => ?_)
    · go_simp
      refine (dx v0).mono ?_
      rintro _ w' ⟨rfl, hw'⟩
      subst w'
      refine hK.out _ _ (fun _ => h_v0) ?_
      clear hK K
      refine take_L (i := 3) rfl (by kernel_rfl) (by kernel_rfl) (by kernel_rfl) (by kernel_rfl) (fun _ _ _ _ h => h) (by exact h_v0) (fun K hK => ?_)
      go_simp
      refine hK _ ?_
      clear hK K
      refine two_L (i := 6) (j := 13) (by kernel_rfl) rfl rfl (fun K hK => ?_) (fun K hK => ?_)
      · go_simp
        refine (dy v0).mono ?_
        rintro _ w' ⟨rfl, hw'⟩
        subst w'
        refine hK.out _ _ (fun _ => h_v0) ?_
        clear hK K
        refine take_L (i := 7) rfl (by kernel_rfl) (by kernel_rfl) (by kernel_rfl) (by kernel_rfl) (fun _ _ _ _ h => h) (by exact h_v0) (fun K hK => ?_)
        go_simp
        refine hK _ ?_
        clear hK K
        refine two_L (i := 10) (j := 13) (by kernel_rfl) rfl rfl (fun K hK => ?_) (fun K hK => ?_)
        · go_simp
          refine (dz v0).mono ?_
          rintro _ w' ⟨rfl, hw'⟩
          subst w'
          refine hK.out _ _ (fun _ => h_v0) ?_
          clear hK K
          refine take_L (i := 11) rfl (by kernel_rfl) (by kernel_rfl) (by kernel_rfl) (by kernel_rfl) (fun _ _ _ _ h => h) (by exact h_v0) (fun K hK => ?_)
          go_simp
          refine hK _ ?_
          clear hK K
          refine take_L (i := 12) rfl (by kernel_rfl) (by kernel_rfl) (by kernel_rfl) (by kernel_rfl) (fun _ _ _ _ h => h) (by exact h_v0) (fun K hK => ?_)
          go_simp
          refine hK _ ?_
          clear hK K
          refine one_L (i := 13) (by kernel_rfl) rfl (fun K hK => ?_)
          go_simp
          have h_v1 : (fun w' => Below W.heap.size W w') (v0.alloc (.cells #[.int .i64 0, .int .i64 0, .int .i64 0] 24)) := h_v0.alloc h_v0.size _
          have Hz_v1_13 : Hid ((v0.alloc (.cells #[.int .i64 0, .int .i64 0, .int .i64 0] 24)).heap[v0.heap.size]? = some (.cells #[.int .i64 0, .int .i64 0, .int .i64 0] 24 (0, 0))) := heap_alloc_new v0 _
          have Hl_v1_13 : Hid (W.heap.size ≤ v0.heap.size) := h_v0.size
          refine hK.out _ _ (fun _ => h_v1) ?_
          clear hK K
          generalize v0.alloc (.cells #[.int .i64 0, .int .i64 0, .int .i64 0] 24) = v1 at *
          clear h_v0
          generalize v0.heap.size = g1 at *
          refine one_L (i := 14) (by kernel_rfl) rfl (fun K hK => ?_)
          have s2 : v1.cell? ⟨g1, 2, none⟩ = some (.int .i64 0) := (cell_of_row v1 _ 2 _ 24 (0, 0) Hz_v1_13.out).trans rfl
          have f2 : v1.frozen? ⟨g1, 2, none⟩ = false := frozen_of_row v1 _ 2 _ 24 Hz_v1_13.out
          have s1 : v1.cell? ⟨g1, 1, none⟩ = some (.int .i64 0) := (cell_of_row v1 _ 1 _ 24 (0, 0) Hz_v1_13.out).trans rfl
          have f1 : v1.frozen? ⟨g1, 1, none⟩ = false := frozen_of_row v1 _ 1 _ 24 Hz_v1_13.out
          have s0 : v1.cell? ⟨g1, 0, none⟩ = some (.int .i64 0) := (cell_of_row v1 _ 0 _ 24 (0, 0) Hz_v1_13.out).trans rfl
          have f0 : v1.frozen? ⟨g1, 0, none⟩ = false := frozen_of_row v1 _ 0 _ 24 Hz_v1_13.out
          go_simp
          have h_v2 : (fun w' => Below W.heap.size W w') (((v1.setCell ⟨g1, 0, none⟩ (.int .i64 (A - 1))).setCell ⟨g1, 1, none⟩ (.int .i64 (B - 1))).setCell ⟨g1, 2, none⟩ (.int .i64 (D - 1))) := G.below_set3 h_v1 Hl_v1_13.out
          have Hz_v2_13 : Hid ((((v1.setCell ⟨g1, 0, none⟩ (.int .i64 (A - 1))).setCell ⟨g1, 1, none⟩ (.int .i64 (B - 1))).setCell ⟨g1, 2, none⟩ (.int .i64 (D - 1))).heap[g1]? = some (.cells #[.int .i64 (A - 1), .int .i64 (B - 1), .int .i64 (D - 1)] 24 (0, 0))) := G.set_three Hz_v1_13.out
          refine hK.out _ _ (fun _ => h_v2) ?_
          clear hK K s0 s1 s2 f0 f1 f2
          generalize ((v1.setCell ⟨g1, 0, none⟩ (.int .i64 (A - 1))).setCell ⟨g1, 1, none⟩ (.int .i64 (B - 1))).setCell ⟨g1, 2, none⟩ (.int .i64 (D - 1)) = v2 at *
          refine done_L (by kernel_rfl) ?_ _
          exact ⟨_, Hl_v1_13.out, h_v2, Hz_v2_13.out, ⟨_, _, _, _, _, _, _, _, _, _, _, _, _, rfl⟩⟩
        · go_simp
          have h_v3 : (fun w' => Below W.heap.size W w') (v0.alloc (.cells #[.int .i64 0, .int .i64 0, .int .i64 0] 24)) := h_v0.alloc h_v0.size _
          have Hz_v3_13 : Hid ((v0.alloc (.cells #[.int .i64 0, .int .i64 0, .int .i64 0] 24)).heap[v0.heap.size]? = some (.cells #[.int .i64 0, .int .i64 0, .int .i64 0] 24 (0, 0))) := heap_alloc_new v0 _
          have Hl_v3_13 : Hid (W.heap.size ≤ v0.heap.size) := h_v0.size
          refine hK.out _ _ (fun _ => h_v3) ?_
          clear hK K
          generalize v0.alloc (.cells #[.int .i64 0, .int .i64 0, .int .i64 0] 24) = v3 at *
          clear h_v0
          generalize v0.heap.size = g3 at *
          refine one_L (i := 10) (by kernel_rfl) rfl (fun K hK => ?_)
          go_simp
          refine (dz v3).mono ?_
          rintro _ w' ⟨rfl, hw'⟩
          subst w'
          refine hK.out _ _ (fun _ => h_v3) ?_
          clear hK K
          refine take_L (i := 11) rfl (by kernel_rfl) (by kernel_rfl) (by kernel_rfl) (by kernel_rfl) (fun _ _ _ _ h => h) (by exact h_v3) (fun K hK => ?_)
          go_simp
          refine hK _ ?_
          clear hK K
          refine take_L (i := 12) rfl (by kernel_rfl) (by kernel_rfl) (by kernel_rfl) (by kernel_rfl) (fun _ _ _ _ h => h) (by exact h_v3) (fun K hK => ?_)
          go_simp
          refine hK _ ?_
          clear hK K
          refine one_L (i := 14) (by kernel_rfl) rfl (fun K hK => ?_)
          have s2 : v3.cell? ⟨g3, 2, none⟩ = some (.int .i64 0) := (cell_of_row v3 _ 2 _ 24 (0, 0) Hz_v3_13.out).trans rfl
          have f2 : v3.frozen? ⟨g3, 2, none⟩ = false := frozen_of_row v3 _ 2 _ 24 Hz_v3_13.out
          have s1 : v3.cell? ⟨g3, 1, none⟩ = some (.int .i64 0) := (cell_of_row v3 _ 1 _ 24 (0, 0) Hz_v3_13.out).trans rfl
          have f1 : v3.frozen? ⟨g3, 1, none⟩ = false := frozen_of_row v3 _ 1 _ 24 Hz_v3_13.out
          have s0 : v3.cell? ⟨g3, 0, none⟩ = some (.int .i64 0) := (cell_of_row v3 _ 0 _ 24 (0, 0) Hz_v3_13.out).trans rfl
          have f0 : v3.frozen? ⟨g3, 0, none⟩ = false := frozen_of_row v3 _ 0 _ 24 Hz_v3_13.out
          go_simp
          have h_v4 : (fun w' => Below W.heap.size W w') (((v3.setCell ⟨g3, 0, none⟩ (.int .i64 (A - 1))).setCell ⟨g3, 1, none⟩ (.int .i64 (B - 1))).setCell ⟨g3, 2, none⟩ (.int .i64 (D - 1))) := G.below_set3 h_v3 Hl_v3_13.out
          have Hz_v4_13 : Hid ((((v3.setCell ⟨g3, 0, none⟩ (.int .i64 (A - 1))).setCell ⟨g3, 1, none⟩ (.int .i64 (B - 1))).setCell ⟨g3, 2, none⟩ (.int .i64 (D - 1))).heap[g3]? = some (.cells #[.int .i64 (A - 1), .int .i64 (B - 1), .int .i64 (D - 1)] 24 (0, 0))) := G.set_three Hz_v3_13.out
          refine hK.out _ _ (fun _ => h_v4) ?_
          clear hK K s0 s1 s2 f0 f1 f2
          generalize ((v3.setCell ⟨g3, 0, none⟩ (.int .i64 (A - 1))).setCell ⟨g3, 1, none⟩ (.int .i64 (B - 1))).setCell ⟨g3, 2, none⟩ (.int .i64 (D - 1)) = v4 at *
          refine done_L (by kernel_rfl) ?_ _
          exact ⟨_, Hl_v3_13.out, h_v4, Hz_v4_13.out, ⟨_, _, _, _, _, _, _, _, _, _, _, _, _, rfl⟩⟩
      · go_simp
        have h_v5 : (fun w' => Below W.heap.size W w') (v0.alloc (.cells #[.int .i64 0, .int .i64 0, .int .i64 0] 24)) := h_v0.alloc h_v0.size _
        have Hz_v5_13 : Hid ((v0.alloc (.cells #[.int .i64 0, .int .i64 0, .int .i64 0] 24)).heap[v0.heap.size]? = some (.cells #[.int .i64 0, .int .i64 0, .int .i64 0] 24 (0, 0))) := heap_alloc_new v0 _
        have Hl_v5_13 : Hid (W.heap.size ≤ v0.heap.size) := h_v0.size
        refine hK.out _ _ (fun _ => h_v5) ?_
        clear hK K
        generalize v0.alloc (.cells #[.int .i64 0, .int .i64 0, .int .i64 0] 24) = v5 at *
        clear h_v0
        generalize v0.heap.size = g5 at *
        refine one_L (i := 6) (by kernel_rfl) rfl (fun K hK => ?_)
        go_simp
        refine (dy v5).mono ?_
        rintro _ w' ⟨rfl, hw'⟩
        subst w'
        refine hK.out _ _ (fun _ => h_v5) ?_
        clear hK K
        refine take_L (i := 7) rfl (by kernel_rfl) (by kernel_rfl) (by kernel_rfl) (by kernel_rfl) (fun _ _ _ _ h => h) (by exact h_v5) (fun K hK => ?_)
        go_simp
        refine hK _ ?_
        clear hK K
        refine one_L (i := 10) (by kernel_rfl) rfl (fun K hK => ?_)
        go_simp
        refine (dz v5).mono ?_
        rintro _ w' ⟨rfl, hw'⟩
        subst w'
        refine hK.out _ _ (fun _ => h_v5) ?_
        clear hK K
        refine take_L (i := 11) rfl (by kernel_rfl) (by kernel_rfl) (by kernel_rfl) (by kernel_rfl) (fun _ _ _ _ h => h) (by exact h_v5) (fun K hK => ?_)
        go_simp
        refine hK _ ?_
        clear hK K
        refine take_L (i := 12) rfl (by kernel_rfl) (by kernel_rfl) (by kernel_rfl) (by kernel_rfl) (fun _ _ _ _ h => h) (by exact h_v5) (fun K hK => ?_)
        go_simp
        refine hK _ ?_
        clear hK K
        refine one_L (i := 14) (by kernel_rfl) rfl (fun K hK => ?_)
        have s2 : v5.cell? ⟨g5, 2, none⟩ = some (.int .i64 0) := (cell_of_row v5 _ 2 _ 24 (0, 0) Hz_v5_13.out).trans rfl
        have f2 : v5.frozen? ⟨g5, 2, none⟩ = false := frozen_of_row v5 _ 2 _ 24 Hz_v5_13.out
        have s1 : v5.cell? ⟨g5, 1, none⟩ = some (.int .i64 0) := (cell_of_row v5 _ 1 _ 24 (0, 0) Hz_v5_13.out).trans rfl
        have f1 : v5.frozen? ⟨g5, 1, none⟩ = false := frozen_of_row v5 _ 1 _ 24 Hz_v5_13.out
        have s0 : v5.cell? ⟨g5, 0, none⟩ = some (.int .i64 0) := (cell_of_row v5 _ 0 _ 24 (0, 0) Hz_v5_13.out).trans rfl
        have f0 : v5.frozen? ⟨g5, 0, none⟩ = false := frozen_of_row v5 _ 0 _ 24 Hz_v5_13.out
        go_simp
        have h_v6 : (fun w' => Below W.heap.size W w') (((v5.setCell ⟨g5, 0, none⟩ (.int .i64 (A - 1))).setCell ⟨g5, 1, none⟩ (.int .i64 (B - 1))).setCell ⟨g5, 2, none⟩ (.int .i64 (D - 1))) := G.below_set3 h_v5 Hl_v5_13.out
        have Hz_v6_13 : Hid ((((v5.setCell ⟨g5, 0, none⟩ (.int .i64 (A - 1))).setCell ⟨g5, 1, none⟩ (.int .i64 (B - 1))).setCell ⟨g5, 2, none⟩ (.int .i64 (D - 1))).heap[g5]? = some (.cells #[.int .i64 (A - 1), .int .i64 (B - 1), .int .i64 (D - 1)] 24 (0, 0))) := G.set_three Hz_v5_13.out
        refine hK.out _ _ (fun _ => h_v6) ?_
        clear hK K s0 s1 s2 f0 f1 f2
        generalize ((v5.setCell ⟨g5, 0, none⟩ (.int .i64 (A - 1))).setCell ⟨g5, 1, none⟩ (.int .i64 (B - 1))).setCell ⟨g5, 2, none⟩ (.int .i64 (D - 1)) = v6 at *
        refine done_L (by kernel_rfl) ?_ _
        exact ⟨_, Hl_v5_13.out, h_v6, Hz_v6_13.out, ⟨_, _, _, _, _, _, _, _, _, _, _, _, _, rfl⟩⟩
    · go_simp
      have h_v7 : (fun w' => Below W.heap.size W w') (v0.alloc (.cells #[.int .i64 0, .int .i64 0, .int .i64 0] 24)) := h_v0.alloc h_v0.size _
      have Hz_v7_13 : Hid ((v0.alloc (.cells #[.int .i64 0, .int .i64 0, .int .i64 0] 24)).heap[v0.heap.size]? = some (.cells #[.int .i64 0, .int .i64 0, .int .i64 0] 24 (0, 0))) := heap_alloc_new v0 _
      have Hl_v7_13 : Hid (W.heap.size ≤ v0.heap.size) := h_v0.size
      refine hK.out _ _ (fun _ => h_v7) ?_
      clear hK K
      generalize v0.alloc (.cells #[.int .i64 0, .int .i64 0, .int .i64 0] 24) = v7 at *
      clear h_v0
      generalize v0.heap.size = g7 at *
      refine one_L (i := 2) (by kernel_rfl) rfl (fun K hK => ?_)
      go_simp
      refine (dx v7).mono ?_
      rintro _ w' ⟨rfl, hw'⟩
      subst w'
      refine hK.out _ _ (fun _ => h_v7) ?_
      clear hK K
      refine take_L (i := 3) rfl (by kernel_rfl) (by kernel_rfl) (by kernel_rfl) (by kernel_rfl) (fun _ _ _ _ h => h) (by exact h_v7) (fun K hK => ?_)
      go_simp
      refine hK _ ?_
      clear hK K
      refine one_L (i := 6) (by kernel_rfl) rfl (fun K hK => ?_)
      go_simp
      refine (dy v7).mono ?_
      rintro _ w' ⟨rfl, hw'⟩
      subst w'
      refine hK.out _ _ (fun _ => h_v7) ?_
      clear hK K
      refine take_L (i := 7) rfl (by kernel_rfl) (by kernel_rfl) (by kernel_rfl) (by kernel_rfl) (fun _ _ _ _ h => h) (by exact h_v7) (fun K hK => ?_)
      go_simp
      refine hK _ ?_
      clear hK K
      refine one_L (i := 10) (by kernel_rfl) rfl (fun K hK => ?_)
      go_simp
      refine (dz v7).mono ?_
      rintro _ w' ⟨rfl, hw'⟩
      subst w'
      refine hK.out _ _ (fun _ => h_v7) ?_
      clear hK K
      refine take_L (i := 11) rfl (by kernel_rfl) (by kernel_rfl) (by kernel_rfl) (by kernel_rfl) (fun _ _ _ _ h => h) (by exact h_v7) (fun K hK => ?_)
      go_simp
      refine hK _ ?_
      clear hK K
      refine take_L (i := 12) rfl (by kernel_rfl) (by kernel_rfl) (by kernel_rfl) (by kernel_rfl) (fun _ _ _ _ h => h) (by exact h_v7) (fun K hK => ?_)
      go_simp
      refine hK _ ?_
      clear hK K
      refine one_L (i := 14) (by kernel_rfl) rfl (fun K hK => ?_)
      have s2 : v7.cell? ⟨g7, 2, none⟩ = some (.int .i64 0) := (cell_of_row v7 _ 2 _ 24 (0, 0) Hz_v7_13.out).trans rfl
      have f2 : v7.frozen? ⟨g7, 2, none⟩ = false := frozen_of_row v7 _ 2 _ 24 Hz_v7_13.out
      have s1 : v7.cell? ⟨g7, 1, none⟩ = some (.int .i64 0) := (cell_of_row v7 _ 1 _ 24 (0, 0) Hz_v7_13.out).trans rfl
      have f1 : v7.frozen? ⟨g7, 1, none⟩ = false := frozen_of_row v7 _ 1 _ 24 Hz_v7_13.out
      have s0 : v7.cell? ⟨g7, 0, none⟩ = some (.int .i64 0) := (cell_of_row v7 _ 0 _ 24 (0, 0) Hz_v7_13.out).trans rfl
      have f0 : v7.frozen? ⟨g7, 0, none⟩ = false := frozen_of_row v7 _ 0 _ 24 Hz_v7_13.out
      go_simp
      have h_v8 : (fun w' => Below W.heap.size W w') (((v7.setCell ⟨g7, 0, none⟩ (.int .i64 (A - 1))).setCell ⟨g7, 1, none⟩ (.int .i64 (B - 1))).setCell ⟨g7, 2, none⟩ (.int .i64 (D - 1))) := G.below_set3 h_v7 Hl_v7_13.out
      have Hz_v8_13 : Hid ((((v7.setCell ⟨g7, 0, none⟩ (.int .i64 (A - 1))).setCell ⟨g7, 1, none⟩ (.int .i64 (B - 1))).setCell ⟨g7, 2, none⟩ (.int .i64 (D - 1))).heap[g7]? = some (.cells #[.int .i64 (A - 1), .int .i64 (B - 1), .int .i64 (D - 1)] 24 (0, 0))) := G.set_three Hz_v7_13.out
      refine hK.out _ _ (fun _ => h_v8) ?_
      clear hK K s0 s1 s2 f0 f1 f2
      generalize ((v7.setCell ⟨g7, 0, none⟩ (.int .i64 (A - 1))).setCell ⟨g7, 1, none⟩ (.int .i64 (B - 1))).setCell ⟨g7, 2, none⟩ (.int .i64 (D - 1)) = v8 at *
      refine done_L (by kernel_rfl) ?_ _
      exact ⟨_, Hl_v7_13.out, h_v8, Hz_v8_13.out, ⟨_, _, _, _, _, _, _, _, _, _, _, _, _, rfl⟩⟩
  rintro e a' W1 h
  cases e with
  | normal =>
    obtain ⟨ga, hga, hb1, hz1, u9, u10, u11, u12, u13, u14, u15, u16, u17, u18, u19, u20, u21, rfl⟩ := h
    have H1 : Hid (Below w.heap.size w W1 ∧ W1.heap[w.heap.size]? = some (.cells #[.int .u64 S] 22) ∧ W1.heap[ga]? = some (.cells #[.int .i64 (A - 1), .int .i64 (B - 1), .int .i64 (D - 1)] 24)) := ⟨HB.out.1.trans (hb1.mono HB.out.1.size), (hb1.block _ (Array.getElem?_eq_some_iff.1 HB.out.2.1).1).trans HB.out.2.1, hz1⟩
    have k2 : W1.heap[w.heap.size + 1 + 1]? = some (.cells #[.int .i64 x', .int .i64 y', .int .i64 z'] 24) := (hb1.block _ (Array.getElem?_eq_some_iff.1 HB.out.2.2).1).trans HB.out.2.2
    clear c0 c1 c2
    have c0 : W1.cell? ⟨w.heap.size + 1 + 1, 0, none⟩ = some (.int .i64 x') := (cell_of_row W1 _ 0 _ 24 (0, 0) k2).trans rfl
    have c1 : W1.cell? ⟨w.heap.size + 1 + 1, 1, none⟩ = some (.int .i64 y') := (cell_of_row W1 _ 1 _ 24 (0, 0) k2).trans rfl
    have c2 : W1.cell? ⟨w.heap.size + 1 + 1, 2, none⟩ = some (.int .i64 z') := (cell_of_row W1 _ 2 _ 24 (0, 0) k2).trans rfl
    clear HB hga hb1 hz1 k2 dx dy dz
    go_wp2
    refine wp_mono (Q := onlyN fun a' w' => ∃ gb, W1.heap.size ≤ gb ∧ Below W1.heap.size W1 w' ∧ w'.heap[gb]? = some (.cells #[.int .i64 (A' + 1), .int .i64 (B' + 1), .int .i64 (D' + 1)] 24 (0, 0)) ∧ ∃ u9 u10 u11 u12 u13 u14 u15 u16 u17 u18 u19 u20 u21 u22 u23 u24 u25 u26 u27 u28 u29 u30 u31 u32 u33 u34, a' = { tmps := #[.int .u64 (S : Int), .agg #[.int .i64 x, .int .i64 y, .int .i64 z], .agg #[.int .i64 x', .int .i64 y', .int .i64 z'], Value.pointer (some { block := w.heap.size, off := 0 }), Value.pointer (some { block := w.heap.size + 1, off := 0 }), Value.pointer (some { block := w.heap.size + 1 + 1, off := 0 }), Value.nilFunc, Value.pointer (some { block := ga, off := 0 }), Value.pointer (some { block := gb, off := 0 }), u9, u10, u11, u12, u13, u14, u15, u16, u17, u18, u19, u20, u21, u22, u23, u24, u25, u26, u27, u28, u29, u30, u31, u32, u33, u34, undef], defers := [] }) ?_ ?_
    · clear HP H1 wA wB wD
      refine region_L (fun w' => Below W1.heap.size W1 w') 20 (by kernel_rfl) ?_
      have h_v0 : (fun w' => Below W1.heap.size W1 w') W1.drew := (Below.refl _ W1).drew
      generalize W1.drew = v0 at *
      have hne : Nonempty (Sub (fun w' => Below W1.heap.size W1 w')) := ⟨⟨_, h_v0⟩⟩
      have k0 : ∀ s : Sub (fun w' => Below W1.heap.size W1 w'), s.w.cell? ⟨w.heap.size + 1 + 1, 0, none⟩ = some (.int .i64 x') := fun s => cell_below c0 s.ok
      have k1 : ∀ s : Sub (fun w' => Below W1.heap.size W1 w'), s.w.cell? ⟨w.heap.size + 1 + 1, 1, none⟩ = some (.int .i64 y') := fun s => cell_below c1 s.ok
      have k2 : ∀ s : Sub (fun w' => Below W1.heap.size W1 w'), s.w.cell? ⟨w.heap.size + 1 + 1, 2, none⟩ = some (.int .i64 z') := fun s => cell_below c2 s.ok
      clear c0 c1 c2
      refine take_L (i := 0) rfl (by kernel_rfl) (by kernel_rfl) (by kernel_rfl) (by kernel_rfl) (fun _ _ _ _ h => h) (by exact h_v0) (fun K hK => ?_)
      go_simp
      refine hK _ ?_
      clear hK K
      refine take_L (i := 1) rfl (by kernel_rfl) (by kernel_rfl) (by kernel_rfl) (by kernel_rfl) (fun _ _ _ _ h => h) (by exact h_v0) (fun K hK => ?_)
      go_simp
      refine hK _ ?_
      clear hK K
      refine take_L (i := 4) rfl (by kernel_rfl) (by kernel_rfl) (by kernel_rfl) (by kernel_rfl) (fun _ _ _ _ h => h) (by exact h_v0) (fun K hK => ?_)
      go_simp
      refine hK _ ?_
      clear hK K
      refine take_L (i := 5) rfl (by kernel_rfl) (by kernel_rfl) (by kernel_rfl) (by kernel_rfl) (fun _ _ _ _ h => h) (by exact h_v0) (fun K hK => ?_)
      go_simp
      refine hK _ ?_
      clear hK K
      refine take_L (i := 8) rfl (by kernel_rfl) (by kernel_rfl) (by kernel_rfl) (by kernel_rfl) (fun _ _ _ _ h => h) (by exact h_v0) (fun K hK => ?_)
      go_simp
      refine hK _ ?_
      clear hK K
      refine take_L (i := 9) rfl (by kernel_rfl) (by kernel_rfl) (by kernel_rfl) (by kernel_rfl) (fun _ _ _ _ h => h) (by exact h_v0) (fun K hK => ?_)
      go_simp
      refine hK _ ?_
      clear hK K
      refine two_L (i := 2) (j := 13) (by kernel_rfl) rfl rfl (fun K hK => ?_) (fun K hK => ?_)
      · go_simp
        refine (dx' v0).mono ?_
        rintro _ w' ⟨rfl, hw'⟩
        subst w'
        refine hK.out _ _ (fun _ => h_v0) ?_
        clear hK K
        refine take_L (i := 3) rfl (by kernel_rfl) (by kernel_rfl) (by kernel_rfl) (by kernel_rfl) (fun _ _ _ _ h => h) (by exact h_v0) (fun K hK => ?_)
        go_simp
        refine hK _ ?_
        clear hK K
        refine two_L (i := 6) (j := 13) (by kernel_rfl) rfl rfl (fun K hK => ?_) (fun K hK => ?_)
        · go_simp
          refine (dy' v0).mono ?_
          rintro _ w' ⟨rfl, hw'⟩
          subst w'
          refine hK.out _ _ (fun _ => h_v0) ?_
          clear hK K
          refine take_L (i := 7) rfl (by kernel_rfl) (by kernel_rfl) (by kernel_rfl) (by kernel_rfl) (fun _ _ _ _ h => h) (by exact h_v0) (fun K hK => ?_)
          go_simp
          refine hK _ ?_
          clear hK K
          refine two_L (i := 10) (j := 13) (by kernel_rfl) rfl rfl (fun K hK => ?_) (fun K hK => ?_)
          · go_simp
            refine (dz' v0).mono ?_
            rintro _ w' ⟨rfl, hw'⟩
            subst w'
            refine hK.out _ _ (fun _ => h_v0) ?_
            clear hK K
            refine take_L (i := 11) rfl (by kernel_rfl) (by kernel_rfl) (by kernel_rfl) (by kernel_rfl) (fun _ _ _ _ h => h) (by exact h_v0) (fun K hK => ?_)
            go_simp
            refine hK _ ?_
            clear hK K
            refine take_L (i := 12) rfl (by kernel_rfl) (by kernel_rfl) (by kernel_rfl) (by kernel_rfl) (fun _ _ _ _ h => h) (by exact h_v0) (fun K hK => ?_)
            go_simp
            refine hK _ ?_
            clear hK K
            refine one_L (i := 13) (by kernel_rfl) rfl (fun K hK => ?_)
            go_simp
            have h_v1 : (fun w' => Below W1.heap.size W1 w') (v0.alloc (.cells #[.int .i64 0, .int .i64 0, .int .i64 0] 24)) := h_v0.alloc h_v0.size _
            have Hz_v1_13 : Hid ((v0.alloc (.cells #[.int .i64 0, .int .i64 0, .int .i64 0] 24)).heap[v0.heap.size]? = some (.cells #[.int .i64 0, .int .i64 0, .int .i64 0] 24 (0, 0))) := heap_alloc_new v0 _
            have Hl_v1_13 : Hid (W1.heap.size ≤ v0.heap.size) := h_v0.size
            refine hK.out _ _ (fun _ => h_v1) ?_
            clear hK K
            generalize v0.alloc (.cells #[.int .i64 0, .int .i64 0, .int .i64 0] 24) = v1 at *
            clear h_v0
            generalize v0.heap.size = g1 at *
            refine one_L (i := 14) (by kernel_rfl) rfl (fun K hK => ?_)
            have s2 : v1.cell? ⟨g1, 2, none⟩ = some (.int .i64 0) := (cell_of_row v1 _ 2 _ 24 (0, 0) Hz_v1_13.out).trans rfl
            have f2 : v1.frozen? ⟨g1, 2, none⟩ = false := frozen_of_row v1 _ 2 _ 24 Hz_v1_13.out
            have s1 : v1.cell? ⟨g1, 1, none⟩ = some (.int .i64 0) := (cell_of_row v1 _ 1 _ 24 (0, 0) Hz_v1_13.out).trans rfl
            have f1 : v1.frozen? ⟨g1, 1, none⟩ = false := frozen_of_row v1 _ 1 _ 24 Hz_v1_13.out
            have s0 : v1.cell? ⟨g1, 0, none⟩ = some (.int .i64 0) := (cell_of_row v1 _ 0 _ 24 (0, 0) Hz_v1_13.out).trans rfl
            have f0 : v1.frozen? ⟨g1, 0, none⟩ = false := frozen_of_row v1 _ 0 _ 24 Hz_v1_13.out
            go_simp
            have h_v2 : (fun w' => Below W1.heap.size W1 w') (((v1.setCell ⟨g1, 0, none⟩ (.int .i64 (A' + 1))).setCell ⟨g1, 1, none⟩ (.int .i64 (B' + 1))).setCell ⟨g1, 2, none⟩ (.int .i64 (D' + 1))) := G.below_set3 h_v1 Hl_v1_13.out
            have Hz_v2_13 : Hid ((((v1.setCell ⟨g1, 0, none⟩ (.int .i64 (A' + 1))).setCell ⟨g1, 1, none⟩ (.int .i64 (B' + 1))).setCell ⟨g1, 2, none⟩ (.int .i64 (D' + 1))).heap[g1]? = some (.cells #[.int .i64 (A' + 1), .int .i64 (B' + 1), .int .i64 (D' + 1)] 24 (0, 0))) := G.set_three Hz_v1_13.out
            refine hK.out _ _ (fun _ => h_v2) ?_
            clear hK K s0 s1 s2 f0 f1 f2
            generalize ((v1.setCell ⟨g1, 0, none⟩ (.int .i64 (A' + 1))).setCell ⟨g1, 1, none⟩ (.int .i64 (B' + 1))).setCell ⟨g1, 2, none⟩ (.int .i64 (D' + 1)) = v2 at *
            refine done_L (by kernel_rfl) ?_ _
            exact ⟨_, Hl_v1_13.out, h_v2, Hz_v2_13.out, ⟨_, _, _, _, _, _, _, _, _, _, _, _, _, _, _, _, _, _, _, _, _, _, _, _, _, _, rfl⟩⟩
          · go_simp
            have h_v3 : (fun w' => Below W1.heap.size W1 w') (v0.alloc (.cells #[.int .i64 0, .int .i64 0, .int .i64 0] 24)) := h_v0.alloc h_v0.size _
            have Hz_v3_13 : Hid ((v0.alloc (.cells #[.int .i64 0, .int .i64 0, .int .i64 0] 24)).heap[v0.heap.size]? = some (.cells #[.int .i64 0, .int .i64 0, .int .i64 0] 24 (0, 0))) := heap_alloc_new v0 _
            have Hl_v3_13 : Hid (W1.heap.size ≤ v0.heap.size) := h_v0.size
            refine hK.out _ _ (fun _ => h_v3) ?_
            clear hK K
            generalize v0.alloc (.cells #[.int .i64 0, .int .i64 0, .int .i64 0] 24) = v3 at *
            clear h_v0
            generalize v0.heap.size = g3 at *
            refine one_L (i := 10) (by kernel_rfl) rfl (fun K hK => ?_)
            go_simp
            refine (dz' v3).mono ?_
            rintro _ w' ⟨rfl, hw'⟩
            subst w'
            refine hK.out _ _ (fun _ => h_v3) ?_
            clear hK K
            refine take_L (i := 11) rfl (by kernel_rfl) (by kernel_rfl) (by kernel_rfl) (by kernel_rfl) (fun _ _ _ _ h => h) (by exact h_v3) (fun K hK => ?_)
            go_simp
            refine hK _ ?_
            clear hK K
            refine take_L (i := 12) rfl (by kernel_rfl) (by kernel_rfl) (by kernel_rfl) (by kernel_rfl) (fun _ _ _ _ h => h) (by exact h_v3) (fun K hK => ?_)
            go_simp
            refine hK _ ?_
            clear hK K
            refine one_L (i := 14) (by kernel_rfl) rfl (fun K hK => ?_)
            have s2 : v3.cell? ⟨g3, 2, none⟩ = some (.int .i64 0) := (cell_of_row v3 _ 2 _ 24 (0, 0) Hz_v3_13.out).trans rfl
            have f2 : v3.frozen? ⟨g3, 2, none⟩ = false := frozen_of_row v3 _ 2 _ 24 Hz_v3_13.out
            have s1 : v3.cell? ⟨g3, 1, none⟩ = some (.int .i64 0) := (cell_of_row v3 _ 1 _ 24 (0, 0) Hz_v3_13.out).trans rfl
            have f1 : v3.frozen? ⟨g3, 1, none⟩ = false := frozen_of_row v3 _ 1 _ 24 Hz_v3_13.out
            have s0 : v3.cell? ⟨g3, 0, none⟩ = some (.int .i64 0) := (cell_of_row v3 _ 0 _ 24 (0, 0) Hz_v3_13.out).trans rfl
            have f0 : v3.frozen? ⟨g3, 0, none⟩ = false := frozen_of_row v3 _ 0 _ 24 Hz_v3_13.out
            go_simp
            have h_v4 : (fun w' => Below W1.heap.size W1 w') (((v3.setCell ⟨g3, 0, none⟩ (.int .i64 (A' + 1))).setCell ⟨g3, 1, none⟩ (.int .i64 (B' + 1))).setCell ⟨g3, 2, none⟩ (.int .i64 (D' + 1))) := G.below_set3 h_v3 Hl_v3_13.out
            have Hz_v4_13 : Hid ((((v3.setCell ⟨g3, 0, none⟩ (.int .i64 (A' + 1))).setCell ⟨g3, 1, none⟩ (.int .i64 (B' + 1))).setCell ⟨g3, 2, none⟩ (.int .i64 (D' + 1))).heap[g3]? = some (.cells #[.int .i64 (A' + 1), .int .i64 (B' + 1), .int .i64 (D' + 1)] 24 (0, 0))) := G.set_three Hz_v3_13.out
            refine hK.out _ _ (fun _ => h_v4) ?_
            clear hK K s0 s1 s2 f0 f1 f2
            generalize ((v3.setCell ⟨g3, 0, none⟩ (.int .i64 (A' + 1))).setCell ⟨g3, 1, none⟩ (.int .i64 (B' + 1))).setCell ⟨g3, 2, none⟩ (.int .i64 (D' + 1)) = v4 at *
            refine done_L (by kernel_rfl) ?_ _
            exact ⟨_, Hl_v3_13.out, h_v4, Hz_v4_13.out, ⟨_, _, _, _, _, _, _, _, _, _, _, _, _, _, _, _, _, _, _, _, _, _, _, _, _, _, rfl⟩⟩
        · go_simp
          have h_v5 : (fun w' => Below W1.heap.size W1 w') (v0.alloc (.cells #[.int .i64 0, .int .i64 0, .int .i64 0] 24)) := h_v0.alloc h_v0.size _
          have Hz_v5_13 : Hid ((v0.alloc (.cells #[.int .i64 0, .int .i64 0, .int .i64 0] 24)).heap[v0.heap.size]? = some (.cells #[.int .i64 0, .int .i64 0, .int .i64 0] 24 (0, 0))) := heap_alloc_new v0 _
          have Hl_v5_13 : Hid (W1.heap.size ≤ v0.heap.size) := h_v0.size
          refine hK.out _ _ (fun _ => h_v5) ?_
          clear hK K
          generalize v0.alloc (.cells #[.int .i64 0, .int .i64 0, .int .i64 0] 24) = v5 at *
          clear h_v0
          generalize v0.heap.size = g5 at *
          refine one_L (i := 6) (by kernel_rfl) rfl (fun K hK => ?_)
          go_simp
          refine (dy' v5).mono ?_
          rintro _ w' ⟨rfl, hw'⟩
          subst w'
          refine hK.out _ _ (fun _ => h_v5) ?_
          clear hK K
          refine take_L (i := 7) rfl (by kernel_rfl) (by kernel_rfl) (by kernel_rfl) (by kernel_rfl) (fun _ _ _ _ h => h) (by exact h_v5) (fun K hK => ?_)
          go_simp
          refine hK _ ?_
          clear hK K
          refine one_L (i := 10) (by kernel_rfl) rfl (fun K hK => ?_)
          go_simp
          refine (dz' v5).mono ?_
          rintro _ w' ⟨rfl, hw'⟩
          subst w'
          refine hK.out _ _ (fun _ => h_v5) ?_
          clear hK K
          refine take_L (i := 11) rfl (by kernel_rfl) (by kernel_rfl) (by kernel_rfl) (by kernel_rfl) (fun _ _ _ _ h => h) (by exact h_v5) (fun K hK => ?_)
          go_simp
          refine hK _ ?_
          clear hK K
          refine take_L (i := 12) rfl (by kernel_rfl) (by kernel_rfl) (by kernel_rfl) (by kernel_rfl) (fun _ _ _ _ h => h) (by exact h_v5) (fun K hK => ?_)
          go_simp
          refine hK _ ?_
          clear hK K
          refine one_L (i := 14) (by kernel_rfl) rfl (fun K hK => ?_)
          have s2 : v5.cell? ⟨g5, 2, none⟩ = some (.int .i64 0) := (cell_of_row v5 _ 2 _ 24 (0, 0) Hz_v5_13.out).trans rfl
          have f2 : v5.frozen? ⟨g5, 2, none⟩ = false := frozen_of_row v5 _ 2 _ 24 Hz_v5_13.out
          have s1 : v5.cell? ⟨g5, 1, none⟩ = some (.int .i64 0) := (cell_of_row v5 _ 1 _ 24 (0, 0) Hz_v5_13.out).trans rfl
          have f1 : v5.frozen? ⟨g5, 1, none⟩ = false := frozen_of_row v5 _ 1 _ 24 Hz_v5_13.out
          have s0 : v5.cell? ⟨g5, 0, none⟩ = some (.int .i64 0) := (cell_of_row v5 _ 0 _ 24 (0, 0) Hz_v5_13.out).trans rfl
          have f0 : v5.frozen? ⟨g5, 0, none⟩ = false := frozen_of_row v5 _ 0 _ 24 Hz_v5_13.out
          go_simp
          have h_v6 : (fun w' => Below W1.heap.size W1 w') (((v5.setCell ⟨g5, 0, none⟩ (.int .i64 (A' + 1))).setCell ⟨g5, 1, none⟩ (.int .i64 (B' + 1))).setCell ⟨g5, 2, none⟩ (.int .i64 (D' + 1))) := G.below_set3 h_v5 Hl_v5_13.out
          have Hz_v6_13 : Hid ((((v5.setCell ⟨g5, 0, none⟩ (.int .i64 (A' + 1))).setCell ⟨g5, 1, none⟩ (.int .i64 (B' + 1))).setCell ⟨g5, 2, none⟩ (.int .i64 (D' + 1))).heap[g5]? = some (.cells #[.int .i64 (A' + 1), .int .i64 (B' + 1), .int .i64 (D' + 1)] 24 (0, 0))) := G.set_three Hz_v5_13.out
          refine hK.out _ _ (fun _ => h_v6) ?_
          clear hK K s0 s1 s2 f0 f1 f2
          generalize ((v5.setCell ⟨g5, 0, none⟩ (.int .i64 (A' + 1))).setCell ⟨g5, 1, none⟩ (.int .i64 (B' + 1))).setCell ⟨g5, 2, none⟩ (.int .i64 (D' + 1)) = v6 at *
          refine done_L (by kernel_rfl) ?_ _
          exact ⟨_, Hl_v5_13.out, h_v6, Hz_v6_13.out, ⟨_, _, _, _, _, _, _, _, _, _, _, _, _, _, _, _, _, _, _, _, _, _, _, _, _, _, rfl⟩⟩
      · go_simp
        have h_v7 : (fun w' => Below W1.heap.size W1 w') (v0.alloc (.cells #[.int .i64 0, .int .i64 0, .int .i64 0] 24)) := h_v0.alloc h_v0.size _
        have Hz_v7_13 : Hid ((v0.alloc (.cells #[.int .i64 0, .int .i64 0, .int .i64 0] 24)).heap[v0.heap.size]? = some (.cells #[.int .i64 0, .int .i64 0, .int .i64 0] 24 (0, 0))) := heap_alloc_new v0 _
        have Hl_v7_13 : Hid (W1.heap.size ≤ v0.heap.size) := h_v0.size
        refine hK.out _ _ (fun _ => h_v7) ?_
        clear hK K
        generalize v0.alloc (.cells #[.int .i64 0, .int .i64 0, .int .i64 0] 24) = v7 at *
        clear h_v0
        generalize v0.heap.size = g7 at *
        refine one_L (i := 2) (by kernel_rfl) rfl (fun K hK => ?_)
        go_simp
        refine (dx' v7).mono ?_
        rintro _ w' ⟨rfl, hw'⟩
        subst w'
        refine hK.out _ _ (fun _ => h_v7) ?_
        clear hK K
        refine take_L (i := 3) rfl (by kernel_rfl) (by kernel_rfl) (by kernel_rfl) (by kernel_rfl) (fun _ _ _ _ h => h) (by exact h_v7) (fun K hK => ?_)
        go_simp
        refine hK _ ?_
        clear hK K
        refine one_L (i := 6) (by kernel_rfl) rfl (fun K hK => ?_)
        go_simp
        refine (dy' v7).mono ?_
        rintro _ w' ⟨rfl, hw'⟩
        subst w'
        refine hK.out _ _ (fun _ => h_v7) ?_
        clear hK K
        refine take_L (i := 7) rfl (by kernel_rfl) (by kernel_rfl) (by kernel_rfl) (by kernel_rfl) (fun _ _ _ _ h => h) (by exact h_v7) (fun K hK => ?_)
        go_simp
        refine hK _ ?_
        clear hK K
        refine one_L (i := 10) (by kernel_rfl) rfl (fun K hK => ?_)
        go_simp
        refine (dz' v7).mono ?_
        rintro _ w' ⟨rfl, hw'⟩
        subst w'
        refine hK.out _ _ (fun _ => h_v7) ?_
        clear hK K
        refine take_L (i := 11) rfl (by kernel_rfl) (by kernel_rfl) (by kernel_rfl) (by kernel_rfl) (fun _ _ _ _ h => h) (by exact h_v7) (fun K hK => ?_)
        go_simp
        refine hK _ ?_
        clear hK K
        refine take_L (i := 12) rfl (by kernel_rfl) (by kernel_rfl) (by kernel_rfl) (by kernel_rfl) (fun _ _ _ _ h => h) (by exact h_v7) (fun K hK => ?_)
        go_simp
        refine hK _ ?_
        clear hK K
        refine one_L (i := 14) (by kernel_rfl) rfl (fun K hK => ?_)
        have s2 : v7.cell? ⟨g7, 2, none⟩ = some (.int .i64 0) := (cell_of_row v7 _ 2 _ 24 (0, 0) Hz_v7_13.out).trans rfl
        have f2 : v7.frozen? ⟨g7, 2, none⟩ = false := frozen_of_row v7 _ 2 _ 24 Hz_v7_13.out
        have s1 : v7.cell? ⟨g7, 1, none⟩ = some (.int .i64 0) := (cell_of_row v7 _ 1 _ 24 (0, 0) Hz_v7_13.out).trans rfl
        have f1 : v7.frozen? ⟨g7, 1, none⟩ = false := frozen_of_row v7 _ 1 _ 24 Hz_v7_13.out
        have s0 : v7.cell? ⟨g7, 0, none⟩ = some (.int .i64 0) := (cell_of_row v7 _ 0 _ 24 (0, 0) Hz_v7_13.out).trans rfl
        have f0 : v7.frozen? ⟨g7, 0, none⟩ = false := frozen_of_row v7 _ 0 _ 24 Hz_v7_13.out
        go_simp
        have h_v8 : (fun w' => Below W1.heap.size W1 w') (((v7.setCell ⟨g7, 0, none⟩ (.int .i64 (A' + 1))).setCell ⟨g7, 1, none⟩ (.int .i64 (B' + 1))).setCell ⟨g7, 2, none⟩ (.int .i64 (D' + 1))) := G.below_set3 h_v7 Hl_v7_13.out
        have Hz_v8_13 : Hid ((((v7.setCell ⟨g7, 0, none⟩ (.int .i64 (A' + 1))).setCell ⟨g7, 1, none⟩ (.int .i64 (B' + 1))).setCell ⟨g7, 2, none⟩ (.int .i64 (D' + 1))).heap[g7]? = some (.cells #[.int .i64 (A' + 1), .int .i64 (B' + 1), .int .i64 (D' + 1)] 24 (0, 0))) := G.set_three Hz_v7_13.out
        refine hK.out _ _ (fun _ => h_v8) ?_
        clear hK K s0 s1 s2 f0 f1 f2
        generalize ((v7.setCell ⟨g7, 0, none⟩ (.int .i64 (A' + 1))).setCell ⟨g7, 1, none⟩ (.int .i64 (B' + 1))).setCell ⟨g7, 2, none⟩ (.int .i64 (D' + 1)) = v8 at *
        refine done_L (by kernel_rfl) ?_ _
        exact ⟨_, Hl_v7_13.out, h_v8, Hz_v8_13.out, ⟨_, _, _, _, _, _, _, _, _, _, _, _, _, _, _, _, _, _, _, _, _, _, _, _, _, _, rfl⟩⟩
    rintro e a' W2 h
    cases e with
    | normal =>
      obtain ⟨gb, hgb, hb2, hz2, u9, u10, u11, u12, u13, u14, u15, u16, u17, u18, u19, u20, u21, u22, u23, u24, u25, u26, u27, u28, u29, u30, u31, u32, u33, u34, rfl⟩ := h
      have R := HP.out ga gb w.heap.size W2 ⟨(hb2.block _ (Array.getElem?_eq_some_iff.1 H1.out.2.2).1).trans H1.out.2.2, hz2, (hb2.block _ (Array.getElem?_eq_some_iff.1 H1.out.2.1).1).trans H1.out.2.1⟩ (H1.out.1.trans (hb2.mono H1.out.1.size))
      clear HP H1 hgb hb2 hz2 c0 c1 c2 dx' dy' dz'
      go_wp2
      exact R
    | ret => exact h.elim
    | exit id => exact h.elim
    | goto t => exact h.elim
    | panic ch => exact h.elim
    | outgrown => exact h.elim
  | ret => exact h.elim
  | exit id => exact h.elim
  | goto t => exact h.elim
  | panic ch => exact h.elim
  | outgrown => exact h.elim
end Go.Proofs.Ytbcadklodjdokaa
