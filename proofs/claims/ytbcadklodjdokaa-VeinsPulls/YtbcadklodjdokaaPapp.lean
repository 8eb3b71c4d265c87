/-
  The landed veins: Apply.
-/
import Derived.Test.YtbcadklodjdokaaPof
set_option maxRecDepth 20000
namespace Go.Proofs.Ytbcadklodjdokaa
open C G Go.RowKit Go.Shelf

attribute [local go_sem] Oper.semAt_some

set_option maxHeartbeats 1000000 in
theorem apply_no (S : Nat) (cx cz : Int) (w : World) : Calls Try.prog 13 #[.int .u64 S, .agg #[.int .i64 cx, .int .i64 cz], .pointer none] w fun e w' => e = .returned (.tuple #[.pointer none, .int .i64 1]) ∧ Below w.heap.size w w' := by
  have R : Below w.heap.size w (w.alloc (.cells #[.int .i64 cx, .int .i64 cz] 30)) := (Below.refl _ _).alloc (Nat.le_refl _) _
  go_enter Try.func13, Try.ntmps13
  go_wp2
  exact bodyPost_ret (results_tmp2 (t := 6) (u := 7) rfl _ _ _) rfl ⟨rfl, R⟩
theorem wrap_id {a : Int} (h0 : -9223372036854775808 ≤ a) (h1 : a ≤ 9223372036854775807) : wrap64 a = a := by unfold wrap64; omega
theorem low_c (cx cz : Int) (hx : Far 1073741824 cx) (hz : Far 1073741824 cz) (w : World) : Calls Try.prog 29 #[.agg #[.int .i64 cx, .int .i64 cz], .int .i64 0] w fun e w' => e = .returned (.agg #[.int .i64 (cx * 16), .int .i64 0, .int .i64 (cz * 16)]) ∧ Below w.heap.size w w' := by
  have h := cell_c cx cz 0 w
  unfold Far at hx hz
  rw [show cellX cx 0 = cx * 16 by unfold cellX; rw [if_pos (by omega), wrap_id (a := cx * 16) (by omega) (by omega), wrap_id (by omega) (by omega)]; omega, show cellY 0 = 0 by unfold cellY; rw [if_pos (by omega)]; rfl, show cellZ cz 0 = cz * 16 by unfold cellZ; rw [if_pos (by omega), wrap_id (a := cz * 16) (by omega) (by omega), wrap_id (by omega) (by omega)]; omega] at h
  exact h
theorem high_c (cx cz : Int) (hx : Far 1073741824 cx) (hz : Far 1073741824 cz) (w : World) : Calls Try.prog 29 #[.agg #[.int .i64 cx, .int .i64 cz], .int .i64 32767] w fun e w' => e = .returned (.agg #[.int .i64 (cx * 16 + 15), .int .i64 127, .int .i64 (cz * 16 + 15)]) ∧ Below w.heap.size w w' := by
  have h := cell_c cx cz 32767 w
  unfold Far at hx hz
  rw [show cellX cx 32767 = cx * 16 + 15 by unfold cellX; rw [if_pos (by omega), wrap_id (a := cx * 16) (by omega) (by omega), wrap_id (by omega) (by omega)]; omega, show cellY 32767 = 127 by unfold cellY; rw [if_pos (by omega)]; rfl, show cellZ cz 32767 = cz * 16 + 15 by unfold cellZ; rw [if_pos (by omega), wrap_id (a := cz * 16) (by omega) (by omega), wrap_id (by omega) (by omega)]; omega] at h
  exact h
theorem rows_apart {W : World} {a b : Nat} {ca cb : Array Value} {t u : TypeId} {fa fb : Nat × Nat} (ha : W.heap[a]? = some (.cells ca t fa)) (hb : W.heap[b]? = some (.cells cb u fb)) (h : t ≠ u) : a ≠ b := fun e => by
  subst e
  rw [ha] at hb
  cases hb
  exact h rfl
set_option maxRecDepth 100000 in
set_option maxHeartbeats 2000000 in
theorem apply_c (S : Nat) (cx cz : Int) (g : Nat) (cs : List Int) (w : World) (hS : S < 18446744073709551616) (hx : Far 1073741824 cx) (hz : Far 1073741824 cz) (hG : Blk w g 68 cs) (hl : cs.length = 32768) (hk : Kinds cs) :
    Calls Try.prog 13 #[.int .u64 S, .agg #[.int .i64 cx, .int .i64 cz], .pointer (some ⟨g, 0, none⟩)] w fun e w' => Below w.heap.size w w' ∧ ∃ g', e = .returned (.tuple #[.pointer (some ⟨g', 0, none⟩), .int .i64 0]) ∧ Blk w' g' 68 (applyN S cx cz cs) := by
  obtain ⟨Post, hPost⟩ : ∃ Post : Ending → World → Prop, Post = fun e w' => Below w.heap.size w w' ∧ ∃ g', e = .returned (.tuple #[.pointer (some ⟨g', 0, none⟩), .int .i64 0]) ∧ Blk w' g' 68 (applyN S cx cz cs) := ⟨_, rfl⟩
  rw [← hPost]
  have HP : Hid (∀ g' w', Below w.heap.size w w' → Blk w' g' 68 (applyN S cx cz cs) → Post (.returned (.tuple #[.pointer (some ⟨g', 0, none⟩), .int .i64 0])) w') := fun g' w' h1 h2 => by rw [hPost]; exact ⟨h1, g', rfl, h2⟩
  clear hPost
  have HG : Hid (Blk w g 68 cs ∧ cs.length = 32768 ∧ Kinds cs ∧ g < w.heap.size) := ⟨hG, hl, hk, hG.lt⟩
  have HC0 : Hid (∀ w, Calls Try.prog 29 #[.agg #[.int .i64 cx, .int .i64 cz], .int .i64 0] w fun e w' => e = .returned (.agg #[.int .i64 (cx * 16), .int .i64 0, .int .i64 (cz * 16)]) ∧ Below w.heap.size w w') := low_c cx cz hx hz
  have HC1 : Hid (∀ w, Calls Try.prog 29 #[.agg #[.int .i64 cx, .int .i64 cz], .int .i64 32767] w fun e w' => e = .returned (.agg #[.int .i64 (cx * 16 + 15), .int .i64 127, .int .i64 (cz * 16 + 15)]) ∧ Below w.heap.size w w') := high_c cx cz hx hz
  have HAb : Hid (∀ w, Calls Try.prog 22 #[.int .u64 S, .agg #[.int .i64 (cx * 16), .int .i64 0, .int .i64 (cz * 16)], .agg #[.int .i64 (cx * 16 + 15), .int .i64 127, .int .i64 (cz * 16 + 15)]] w fun e w' => ∃ ga gb gs, e = .returned (.func (.func 39) #[] #[.pointer (some ⟨ga, 0, none⟩), .pointer (some ⟨gb, 0, none⟩), .pointer (some ⟨gs, 0, none⟩)]) ∧ Ab S ga gb gs (cx * 2 - 1) (-1) (cz * 2 - 1) (cx * 2 + 2) 16 (cz * 2 + 2) w' ∧ Below w.heap.size w w') := fun w => by
    unfold Far at hx hz
    have h := about_c S (cx * 16) 0 (cz * 16) (cx * 16 + 15) 127 (cz * 16 + 15) w (by unfold I8; omega) (by unfold I8; omega) (by unfold I8; omega) (by unfold I8; omega) (by unfold I8; omega) (by unfold I8; omega)
    rw [show cx * 16 / 8 - 1 = cx * 2 - 1 by omega, show (0 : Int) / 8 - 1 = -1 by omega, show cz * 16 / 8 - 1 = cz * 2 - 1 by omega, show (cx * 16 + 15) / 8 + 1 = cx * 2 + 2 by omega, show (127 : Int) / 8 + 1 = 16 by omega, show (cz * 16 + 15) / 8 + 1 = cz * 2 + 2 by omega] at h
    exact h
  have HCh : Hid (∀ w, Calls Try.prog 32 #[.agg #[.int .i64 (cx * 16), .int .i64 0, .int .i64 (cz * 16)]] w fun e w' => e = .returned (.agg #[.int .i64 cx, .int .i64 cz]) ∧ Below w.heap.size w w') := fun w => by
    unfold Far at hx hz
    have h := chunk_c (cx * 16) 0 (cz * 16) (by omega) (by omega) (by omega) (by omega) w
    rw [show cx * 16 / 16 = cx by omega, show cz * 16 / 16 = cz by omega] at h
    exact h
  have HQ : Hid ((-140737488355328 ≤ cx * 2 - 1 ∧ cx * 2 + 2 ≤ 140737488355328) ∧ (-140737488355328 ≤ cz * 2 - 1 ∧ cz * 2 + 2 ≤ 140737488355328)) := by
    show _ ∧ _
    unfold Far at *
    omega
  have hlt := hG.lt
  clear hG hl hk hx hz
  refine (callsIn_wide (n := 9)).1 ?_
  refine callsIn_of_wp_marks Try.func13 rfl trivial ?_ rfl
  simp only [Try.ntmps13, List.size_toArray, List.length_cons, List.length_nil, Nat.reduceAdd, Nat.reduceSub, Array.replicate_succ, Array.replicate_zero, List.push_toArray, List.append_toArray, List.nil_append, List.cons_append]
  gi_wp2_with (fail)
  obtain ⟨W, hW⟩ : ∃ W, W = w.alloc (.cells #[.int .i64 cx, .int .i64 cz] 30) := ⟨_, rfl⟩
  have hbW : Below w.heap.size w W := by rw [hW]; exact (Below.refl _ _).alloc (Nat.le_refl _) _
  have hrW : W.heap[w.heap.size]? = some (.cells #[.int .i64 cx, .int .i64 cz] 30 (0, 0)) := by rw [hW]; exact heap_alloc_new w _
  rw [← hW]
  clear hW
  have HBW : Hid (Below w.heap.size w W) := hbW
  have c0 : W.cell? ⟨w.heap.size, 0, none⟩ = some (.int .i64 cx) := (cell_of_row W _ 0 _ 30 (0, 0) hrW).trans rfl
  have c1 : W.cell? ⟨w.heap.size, 1, none⟩ = some (.int .i64 cz) := (cell_of_row W _ 1 _ 30 (0, 0) hrW).trans rfl
  clear hbW hrW
  refine wpIn_mono (Q := onlyN fun a' w' => ∃ g8 g9, Below W.heap.size W w' ∧ w'.heap[g8]? = some (.cells #[.int .i64 (cx * 16), .int .i64 0, .int .i64 (cz * 16)] 24 (0, 0)) ∧ w'.heap[g9]? = some (.cells #[.int .i64 (cx * 16 + 15), .int .i64 127, .int .i64 (cz * 16 + 15)] 24 (0, 0)) ∧ a' = { tmps := #[.int .u64 (S : Int), .agg #[.int .i64 cx, .int .i64 cz], .pointer (some ⟨g, 0, none⟩), undef, Value.pointer (some { block := w.heap.size, off := 0 }), undef, .pointer none, .int .i64 0, .pointer (some ⟨g8, 0, none⟩), .pointer (some ⟨g9, 0, none⟩), undef, undef, .pointer (some ⟨g, 0, none⟩), .bool false, .agg #[.int .i64 cx, .int .i64 cz], .agg #[.int .i64 (cx * 16), .int .i64 0, .int .i64 (cz * 16)], .agg #[.int .i64 cx, .int .i64 cz], .agg #[.int .i64 (cx * 16 + 15), .int .i64 127, .int .i64 (cz * 16 + 15)], undef, undef, undef, undef, undef, undef, undef, undef, undef, undef, undef, undef, undef], defers := [] }) (wpIn_wide.2 ?_) ?_
  · clear HP HG HAb HCh HQ HBW
    refine region_L (fun w' => Below W.heap.size W w') 20 (by kernel_rfl) ?_
    have h_v0 : (fun w' => Below W.heap.size W w') W.drew := (Below.refl _ W).drew
    generalize W.drew = v0 at *
    have hne : Nonempty (Sub (fun w' => Below W.heap.size W w')) := ⟨⟨_, h_v0⟩⟩
    have k0 : ∀ s : Sub (fun w' => Below W.heap.size W w'), s.w.cell? ⟨w.heap.size, 0, none⟩ = some (.int .i64 cx) := fun s => cell_below c0 s.ok
    have k1 : ∀ s : Sub (fun w' => Below W.heap.size W w'), s.w.cell? ⟨w.heap.size, 1, none⟩ = some (.int .i64 cz) := fun s => cell_below c1 s.ok
    clear c0 c1
    refine take_L (i := 0) rfl (by kernel_rfl) (by kernel_rfl) (by kernel_rfl) (by kernel_rfl) (fun _ _ _ _ h => h) (by exact h_v0) (fun K hK => ?_)
    go_simp
    refine hK _ ?_
    clear hK K
    refine take_L (i := 2) rfl (by kernel_rfl) (by kernel_rfl) (by kernel_rfl) (by kernel_rfl) (fun _ _ _ _ h => h) (by exact h_v0) (fun K hK => ?_)
    go_simp
    refine hK _ ?_
    clear hK K
    refine three_L (i := 1) (j := 4) (k := 5) (by kernel_rfl) rfl rfl rfl (fun K hK => ?_) (fun K hK => ?_) (fun K hK => ?_)
    · go_simp
      refine (HC0.out v0).mono ?_
      rintro _ v1 ⟨rfl, hb⟩
      have h_v1 : (fun w' => Below W.heap.size W w') v1 := h_v0.trans (hb.mono h_v0.size)
      refine hK.out _ _ (fun _ => h_v1) ?_
      clear hK K hb h_v0
      refine three_L (i := 3) (j := 4) (k := 5) (by kernel_rfl) rfl rfl rfl (fun K hK => ?_) (fun K hK => ?_) (fun K hK => ?_)
      · go_simp
        refine (HC1.out v1).mono ?_
        rintro _ v2 ⟨rfl, hb⟩
        have h_v2 : (fun w' => Below W.heap.size W w') v2 := h_v1.trans (hb.mono h_v1.size)
        refine hK.out _ _ (fun _ => h_v2) ?_
        clear hK K hb h_v1
        refine two_L (i := 4) (j := 5) (by kernel_rfl) rfl rfl (fun K hK => ?_) (fun K hK => ?_)
        · go_simp
          have h_v3 : (fun w' => Below W.heap.size W w') (v2.alloc (.cells #[.int .i64 0, .int .i64 0, .int .i64 0] 24)) := h_v2.alloc h_v2.size _
          have Hz_v3_4 : Hid ((v2.alloc (.cells #[.int .i64 0, .int .i64 0, .int .i64 0] 24)).heap[v2.heap.size]? = some (.cells #[.int .i64 0, .int .i64 0, .int .i64 0] 24 (0, 0))) := heap_alloc_new v2 _
          have Hl_v3_4 : Hid (W.heap.size ≤ v2.heap.size) := h_v2.size
          refine hK.out _ _ (fun _ => h_v3) ?_
          clear hK K
          generalize v2.alloc (.cells #[.int .i64 0, .int .i64 0, .int .i64 0] 24) = v3 at *
          clear h_v2
          generalize v2.heap.size = g3 at *
          refine one_L (i := 5) (by kernel_rfl) rfl (fun K hK => ?_)
          go_simp
          have h_v4 : (fun w' => Below W.heap.size W w') (v3.alloc (.cells #[.int .i64 0, .int .i64 0, .int .i64 0] 24)) := h_v3.alloc h_v3.size _
          have Hz_v4_5 : Hid ((v3.alloc (.cells #[.int .i64 0, .int .i64 0, .int .i64 0] 24)).heap[v3.heap.size]? = some (.cells #[.int .i64 0, .int .i64 0, .int .i64 0] 24 (0, 0))) := heap_alloc_new v3 _
          have Hz_v4_4 : Hid ((v3.alloc (.cells #[.int .i64 0, .int .i64 0, .int .i64 0] 24)).heap[g3]? = some (.cells #[.int .i64 0, .int .i64 0, .int .i64 0] 24 (0, 0))) := (heap_alloc_old v3 _ (Array.getElem?_eq_some_iff.1 Hz_v3_4.out).1).trans Hz_v3_4.out
          have Hn_v4_4_5 : Hid (g3 ≠ v3.heap.size) := Nat.ne_of_lt (Array.getElem?_eq_some_iff.1 Hz_v3_4.out).1
          have Hl_v4_5 : Hid (W.heap.size ≤ v3.heap.size) := h_v3.size
          refine hK.out _ _ (fun _ => h_v4) ?_
          clear hK K Hz_v3_4
          generalize v3.alloc (.cells #[.int .i64 0, .int .i64 0, .int .i64 0] 24) = v4 at *
          clear h_v3
          generalize v3.heap.size = g4 at *
          refine one_L (i := 6) (by kernel_rfl) rfl (fun K hK => ?_)
          have s2 : v4.cell? ⟨g3, 2, none⟩ = some (.int .i64 0) := (cell_of_row v4 _ 2 _ 24 (0, 0) Hz_v4_4.out).trans rfl
          have f2 : v4.frozen? ⟨g3, 2, none⟩ = false := frozen_of_row v4 _ 2 _ 24 Hz_v4_4.out
          have s1 : v4.cell? ⟨g3, 1, none⟩ = some (.int .i64 0) := (cell_of_row v4 _ 1 _ 24 (0, 0) Hz_v4_4.out).trans rfl
          have f1 : v4.frozen? ⟨g3, 1, none⟩ = false := frozen_of_row v4 _ 1 _ 24 Hz_v4_4.out
          have s0 : v4.cell? ⟨g3, 0, none⟩ = some (.int .i64 0) := (cell_of_row v4 _ 0 _ 24 (0, 0) Hz_v4_4.out).trans rfl
          have f0 : v4.frozen? ⟨g3, 0, none⟩ = false := frozen_of_row v4 _ 0 _ 24 Hz_v4_4.out
          go_simp
          have h_v5 : (fun w' => Below W.heap.size W w') (((v4.setCell ⟨g3, 0, none⟩ (.int .i64 (cx * 16))).setCell ⟨g3, 1, none⟩ (.int .i64 0)).setCell ⟨g3, 2, none⟩ (.int .i64 (cz * 16))) := G.below_set3 h_v4 Hl_v3_4.out
          have Hz_v5_4 : Hid ((((v4.setCell ⟨g3, 0, none⟩ (.int .i64 (cx * 16))).setCell ⟨g3, 1, none⟩ (.int .i64 0)).setCell ⟨g3, 2, none⟩ (.int .i64 (cz * 16))).heap[g3]? = some (.cells #[.int .i64 (cx * 16), .int .i64 0, .int .i64 (cz * 16)] 24 (0, 0))) := G.set_three Hz_v4_4.out
          have Hz_v5_5 : Hid ((((v4.setCell ⟨g3, 0, none⟩ (.int .i64 (cx * 16))).setCell ⟨g3, 1, none⟩ (.int .i64 0)).setCell ⟨g3, 2, none⟩ (.int .i64 (cz * 16))).heap[g4]? = some (.cells #[.int .i64 0, .int .i64 0, .int .i64 0] 24 (0, 0))) := (Below.heap_setCell _ _ _ _ (Ne.symm Hn_v4_4_5.out)).trans ((Below.heap_setCell _ _ _ _ (Ne.symm Hn_v4_4_5.out)).trans ((Below.heap_setCell _ _ _ _ (Ne.symm Hn_v4_4_5.out)).trans (Hz_v4_5.out)))
          refine hK.out _ _ (fun _ => h_v5) ?_
          clear hK K s0 s1 s2 f0 f1 f2
          generalize ((v4.setCell ⟨g3, 0, none⟩ (.int .i64 (cx * 16))).setCell ⟨g3, 1, none⟩ (.int .i64 0)).setCell ⟨g3, 2, none⟩ (.int .i64 (cz * 16)) = v5 at *
          refine one_L (i := 7) (by kernel_rfl) rfl (fun K hK => ?_)
          have s2 : v5.cell? ⟨g4, 2, none⟩ = some (.int .i64 0) := (cell_of_row v5 _ 2 _ 24 (0, 0) Hz_v5_5.out).trans rfl
          have f2 : v5.frozen? ⟨g4, 2, none⟩ = false := frozen_of_row v5 _ 2 _ 24 Hz_v5_5.out
          have s1 : v5.cell? ⟨g4, 1, none⟩ = some (.int .i64 0) := (cell_of_row v5 _ 1 _ 24 (0, 0) Hz_v5_5.out).trans rfl
          have f1 : v5.frozen? ⟨g4, 1, none⟩ = false := frozen_of_row v5 _ 1 _ 24 Hz_v5_5.out
          have s0 : v5.cell? ⟨g4, 0, none⟩ = some (.int .i64 0) := (cell_of_row v5 _ 0 _ 24 (0, 0) Hz_v5_5.out).trans rfl
          have f0 : v5.frozen? ⟨g4, 0, none⟩ = false := frozen_of_row v5 _ 0 _ 24 Hz_v5_5.out
          go_simp
          have h_v6 : (fun w' => Below W.heap.size W w') (((v5.setCell ⟨g4, 0, none⟩ (.int .i64 (cx * 16 + 15))).setCell ⟨g4, 1, none⟩ (.int .i64 127)).setCell ⟨g4, 2, none⟩ (.int .i64 (cz * 16 + 15))) := G.below_set3 h_v5 Hl_v4_5.out
          have Hz_v6_5 : Hid ((((v5.setCell ⟨g4, 0, none⟩ (.int .i64 (cx * 16 + 15))).setCell ⟨g4, 1, none⟩ (.int .i64 127)).setCell ⟨g4, 2, none⟩ (.int .i64 (cz * 16 + 15))).heap[g4]? = some (.cells #[.int .i64 (cx * 16 + 15), .int .i64 127, .int .i64 (cz * 16 + 15)] 24 (0, 0))) := G.set_three Hz_v5_5.out
          have Hz_v6_4 : Hid ((((v5.setCell ⟨g4, 0, none⟩ (.int .i64 (cx * 16 + 15))).setCell ⟨g4, 1, none⟩ (.int .i64 127)).setCell ⟨g4, 2, none⟩ (.int .i64 (cz * 16 + 15))).heap[g3]? = some (.cells #[.int .i64 (cx * 16), .int .i64 0, .int .i64 (cz * 16)] 24 (0, 0))) := (Below.heap_setCell _ _ _ _ Hn_v4_4_5.out).trans ((Below.heap_setCell _ _ _ _ Hn_v4_4_5.out).trans ((Below.heap_setCell _ _ _ _ Hn_v4_4_5.out).trans (Hz_v5_4.out)))
          refine hK.out _ _ (fun _ => h_v6) ?_
          clear hK K s0 s1 s2 f0 f1 f2
          generalize ((v5.setCell ⟨g4, 0, none⟩ (.int .i64 (cx * 16 + 15))).setCell ⟨g4, 1, none⟩ (.int .i64 127)).setCell ⟨g4, 2, none⟩ (.int .i64 (cz * 16 + 15)) = v6 at *
          refine done_L (by kernel_rfl) ?_ _
          exact ⟨_, _, h_v6, Hz_v6_4.out, Hz_v6_5.out, rfl⟩
        · go_simp
          have h_v7 : (fun w' => Below W.heap.size W w') (v2.alloc (.cells #[.int .i64 0, .int .i64 0, .int .i64 0] 24)) := h_v2.alloc h_v2.size _
          have Hz_v7_5 : Hid ((v2.alloc (.cells #[.int .i64 0, .int .i64 0, .int .i64 0] 24)).heap[v2.heap.size]? = some (.cells #[.int .i64 0, .int .i64 0, .int .i64 0] 24 (0, 0))) := heap_alloc_new v2 _
          have Hl_v7_5 : Hid (W.heap.size ≤ v2.heap.size) := h_v2.size
          refine hK.out _ _ (fun _ => h_v7) ?_
          clear hK K
          generalize v2.alloc (.cells #[.int .i64 0, .int .i64 0, .int .i64 0] 24) = v7 at *
          clear h_v2
          generalize v2.heap.size = g7 at *
          refine one_L (i := 4) (by kernel_rfl) rfl (fun K hK => ?_)
          go_simp
          have h_v8 : (fun w' => Below W.heap.size W w') (v7.alloc (.cells #[.int .i64 0, .int .i64 0, .int .i64 0] 24)) := h_v7.alloc h_v7.size _
          have Hz_v8_4 : Hid ((v7.alloc (.cells #[.int .i64 0, .int .i64 0, .int .i64 0] 24)).heap[v7.heap.size]? = some (.cells #[.int .i64 0, .int .i64 0, .int .i64 0] 24 (0, 0))) := heap_alloc_new v7 _
          have Hz_v8_5 : Hid ((v7.alloc (.cells #[.int .i64 0, .int .i64 0, .int .i64 0] 24)).heap[g7]? = some (.cells #[.int .i64 0, .int .i64 0, .int .i64 0] 24 (0, 0))) := (heap_alloc_old v7 _ (Array.getElem?_eq_some_iff.1 Hz_v7_5.out).1).trans Hz_v7_5.out
          have Hn_v8_5_4 : Hid (g7 ≠ v7.heap.size) := Nat.ne_of_lt (Array.getElem?_eq_some_iff.1 Hz_v7_5.out).1
          have Hl_v8_4 : Hid (W.heap.size ≤ v7.heap.size) := h_v7.size
          refine hK.out _ _ (fun _ => h_v8) ?_
          clear hK K Hz_v7_5
          generalize v7.alloc (.cells #[.int .i64 0, .int .i64 0, .int .i64 0] 24) = v8 at *
          clear h_v7
          generalize v7.heap.size = g8 at *
          refine one_L (i := 6) (by kernel_rfl) rfl (fun K hK => ?_)
          have s2 : v8.cell? ⟨g8, 2, none⟩ = some (.int .i64 0) := (cell_of_row v8 _ 2 _ 24 (0, 0) Hz_v8_4.out).trans rfl
          have f2 : v8.frozen? ⟨g8, 2, none⟩ = false := frozen_of_row v8 _ 2 _ 24 Hz_v8_4.out
          have s1 : v8.cell? ⟨g8, 1, none⟩ = some (.int .i64 0) := (cell_of_row v8 _ 1 _ 24 (0, 0) Hz_v8_4.out).trans rfl
          have f1 : v8.frozen? ⟨g8, 1, none⟩ = false := frozen_of_row v8 _ 1 _ 24 Hz_v8_4.out
          have s0 : v8.cell? ⟨g8, 0, none⟩ = some (.int .i64 0) := (cell_of_row v8 _ 0 _ 24 (0, 0) Hz_v8_4.out).trans rfl
          have f0 : v8.frozen? ⟨g8, 0, none⟩ = false := frozen_of_row v8 _ 0 _ 24 Hz_v8_4.out
          go_simp
          have h_v9 : (fun w' => Below W.heap.size W w') (((v8.setCell ⟨g8, 0, none⟩ (.int .i64 (cx * 16))).setCell ⟨g8, 1, none⟩ (.int .i64 0)).setCell ⟨g8, 2, none⟩ (.int .i64 (cz * 16))) := G.below_set3 h_v8 Hl_v8_4.out
          have Hz_v9_4 : Hid ((((v8.setCell ⟨g8, 0, none⟩ (.int .i64 (cx * 16))).setCell ⟨g8, 1, none⟩ (.int .i64 0)).setCell ⟨g8, 2, none⟩ (.int .i64 (cz * 16))).heap[g8]? = some (.cells #[.int .i64 (cx * 16), .int .i64 0, .int .i64 (cz * 16)] 24 (0, 0))) := G.set_three Hz_v8_4.out
          have Hz_v9_5 : Hid ((((v8.setCell ⟨g8, 0, none⟩ (.int .i64 (cx * 16))).setCell ⟨g8, 1, none⟩ (.int .i64 0)).setCell ⟨g8, 2, none⟩ (.int .i64 (cz * 16))).heap[g7]? = some (.cells #[.int .i64 0, .int .i64 0, .int .i64 0] 24 (0, 0))) := (Below.heap_setCell _ _ _ _ Hn_v8_5_4.out).trans ((Below.heap_setCell _ _ _ _ Hn_v8_5_4.out).trans ((Below.heap_setCell _ _ _ _ Hn_v8_5_4.out).trans (Hz_v8_5.out)))
          refine hK.out _ _ (fun _ => h_v9) ?_
          clear hK K s0 s1 s2 f0 f1 f2
          generalize ((v8.setCell ⟨g8, 0, none⟩ (.int .i64 (cx * 16))).setCell ⟨g8, 1, none⟩ (.int .i64 0)).setCell ⟨g8, 2, none⟩ (.int .i64 (cz * 16)) = v9 at *
          refine one_L (i := 7) (by kernel_rfl) rfl (fun K hK => ?_)
          have s2 : v9.cell? ⟨g7, 2, none⟩ = some (.int .i64 0) := (cell_of_row v9 _ 2 _ 24 (0, 0) Hz_v9_5.out).trans rfl
          have f2 : v9.frozen? ⟨g7, 2, none⟩ = false := frozen_of_row v9 _ 2 _ 24 Hz_v9_5.out
          have s1 : v9.cell? ⟨g7, 1, none⟩ = some (.int .i64 0) := (cell_of_row v9 _ 1 _ 24 (0, 0) Hz_v9_5.out).trans rfl
          have f1 : v9.frozen? ⟨g7, 1, none⟩ = false := frozen_of_row v9 _ 1 _ 24 Hz_v9_5.out
          have s0 : v9.cell? ⟨g7, 0, none⟩ = some (.int .i64 0) := (cell_of_row v9 _ 0 _ 24 (0, 0) Hz_v9_5.out).trans rfl
          have f0 : v9.frozen? ⟨g7, 0, none⟩ = false := frozen_of_row v9 _ 0 _ 24 Hz_v9_5.out
          go_simp
          have h_v10 : (fun w' => Below W.heap.size W w') (((v9.setCell ⟨g7, 0, none⟩ (.int .i64 (cx * 16 + 15))).setCell ⟨g7, 1, none⟩ (.int .i64 127)).setCell ⟨g7, 2, none⟩ (.int .i64 (cz * 16 + 15))) := G.below_set3 h_v9 Hl_v7_5.out
          have Hz_v10_5 : Hid ((((v9.setCell ⟨g7, 0, none⟩ (.int .i64 (cx * 16 + 15))).setCell ⟨g7, 1, none⟩ (.int .i64 127)).setCell ⟨g7, 2, none⟩ (.int .i64 (cz * 16 + 15))).heap[g7]? = some (.cells #[.int .i64 (cx * 16 + 15), .int .i64 127, .int .i64 (cz * 16 + 15)] 24 (0, 0))) := G.set_three Hz_v9_5.out
          have Hz_v10_4 : Hid ((((v9.setCell ⟨g7, 0, none⟩ (.int .i64 (cx * 16 + 15))).setCell ⟨g7, 1, none⟩ (.int .i64 127)).setCell ⟨g7, 2, none⟩ (.int .i64 (cz * 16 + 15))).heap[g8]? = some (.cells #[.int .i64 (cx * 16), .int .i64 0, .int .i64 (cz * 16)] 24 (0, 0))) := (Below.heap_setCell _ _ _ _ (Ne.symm Hn_v8_5_4.out)).trans ((Below.heap_setCell _ _ _ _ (Ne.symm Hn_v8_5_4.out)).trans ((Below.heap_setCell _ _ _ _ (Ne.symm Hn_v8_5_4.out)).trans (Hz_v9_4.out)))
          refine hK.out _ _ (fun _ => h_v10) ?_
          clear hK K s0 s1 s2 f0 f1 f2
          generalize ((v9.setCell ⟨g7, 0, none⟩ (.int .i64 (cx * 16 + 15))).setCell ⟨g7, 1, none⟩ (.int .i64 127)).setCell ⟨g7, 2, none⟩ (.int .i64 (cz * 16 + 15)) = v10 at *
          refine done_L (by kernel_rfl) ?_ _
          exact ⟨_, _, h_v10, Hz_v10_4.out, Hz_v10_5.out, rfl⟩
      · go_simp
        have h_v11 : (fun w' => Below W.heap.size W w') (v1.alloc (.cells #[.int .i64 0, .int .i64 0, .int .i64 0] 24)) := h_v1.alloc h_v1.size _
        have Hz_v11_4 : Hid ((v1.alloc (.cells #[.int .i64 0, .int .i64 0, .int .i64 0] 24)).heap[v1.heap.size]? = some (.cells #[.int .i64 0, .int .i64 0, .int .i64 0] 24 (0, 0))) := heap_alloc_new v1 _
        have Hl_v11_4 : Hid (W.heap.size ≤ v1.heap.size) := h_v1.size
        refine hK.out _ _ (fun _ => h_v11) ?_
        clear hK K
        generalize v1.alloc (.cells #[.int .i64 0, .int .i64 0, .int .i64 0] 24) = v11 at *
        clear h_v1
        generalize v1.heap.size = g11 at *
        refine two_L (i := 3) (j := 5) (by kernel_rfl) rfl rfl (fun K hK => ?_) (fun K hK => ?_)
        · go_simp
          refine (HC1.out v11).mono ?_
          rintro _ v12 ⟨rfl, hb⟩
          have h_v12 : (fun w' => Below W.heap.size W w') v12 := h_v11.trans (hb.mono h_v11.size)
          have Hz_v12_4 : Hid (v12.heap[g11]? = some (.cells #[.int .i64 0, .int .i64 0, .int .i64 0] 24 (0, 0))) := (hb.block _ (Array.getElem?_eq_some_iff.1 Hz_v11_4.out).1).trans Hz_v11_4.out
          refine hK.out _ _ (fun _ => h_v12) ?_
          clear hK K hb h_v11 Hz_v11_4
          refine one_L (i := 5) (by kernel_rfl) rfl (fun K hK => ?_)
          go_simp
          have h_v13 : (fun w' => Below W.heap.size W w') (v12.alloc (.cells #[.int .i64 0, .int .i64 0, .int .i64 0] 24)) := h_v12.alloc h_v12.size _
          have Hz_v13_5 : Hid ((v12.alloc (.cells #[.int .i64 0, .int .i64 0, .int .i64 0] 24)).heap[v12.heap.size]? = some (.cells #[.int .i64 0, .int .i64 0, .int .i64 0] 24 (0, 0))) := heap_alloc_new v12 _
          have Hz_v13_4 : Hid ((v12.alloc (.cells #[.int .i64 0, .int .i64 0, .int .i64 0] 24)).heap[g11]? = some (.cells #[.int .i64 0, .int .i64 0, .int .i64 0] 24 (0, 0))) := (heap_alloc_old v12 _ (Array.getElem?_eq_some_iff.1 Hz_v12_4.out).1).trans Hz_v12_4.out
          have Hn_v13_4_5 : Hid (g11 ≠ v12.heap.size) := Nat.ne_of_lt (Array.getElem?_eq_some_iff.1 Hz_v12_4.out).1
          have Hl_v13_5 : Hid (W.heap.size ≤ v12.heap.size) := h_v12.size
          refine hK.out _ _ (fun _ => h_v13) ?_
          clear hK K Hz_v12_4
          generalize v12.alloc (.cells #[.int .i64 0, .int .i64 0, .int .i64 0] 24) = v13 at *
          clear h_v12
          generalize v12.heap.size = g13 at *
          refine one_L (i := 6) (by kernel_rfl) rfl (fun K hK => ?_)
          have s2 : v13.cell? ⟨g11, 2, none⟩ = some (.int .i64 0) := (cell_of_row v13 _ 2 _ 24 (0, 0) Hz_v13_4.out).trans rfl
          have f2 : v13.frozen? ⟨g11, 2, none⟩ = false := frozen_of_row v13 _ 2 _ 24 Hz_v13_4.out
          have s1 : v13.cell? ⟨g11, 1, none⟩ = some (.int .i64 0) := (cell_of_row v13 _ 1 _ 24 (0, 0) Hz_v13_4.out).trans rfl
          have f1 : v13.frozen? ⟨g11, 1, none⟩ = false := frozen_of_row v13 _ 1 _ 24 Hz_v13_4.out
          have s0 : v13.cell? ⟨g11, 0, none⟩ = some (.int .i64 0) := (cell_of_row v13 _ 0 _ 24 (0, 0) Hz_v13_4.out).trans rfl
          have f0 : v13.frozen? ⟨g11, 0, none⟩ = false := frozen_of_row v13 _ 0 _ 24 Hz_v13_4.out
          go_simp
          have h_v14 : (fun w' => Below W.heap.size W w') (((v13.setCell ⟨g11, 0, none⟩ (.int .i64 (cx * 16))).setCell ⟨g11, 1, none⟩ (.int .i64 0)).setCell ⟨g11, 2, none⟩ (.int .i64 (cz * 16))) := G.below_set3 h_v13 Hl_v11_4.out
          have Hz_v14_4 : Hid ((((v13.setCell ⟨g11, 0, none⟩ (.int .i64 (cx * 16))).setCell ⟨g11, 1, none⟩ (.int .i64 0)).setCell ⟨g11, 2, none⟩ (.int .i64 (cz * 16))).heap[g11]? = some (.cells #[.int .i64 (cx * 16), .int .i64 0, .int .i64 (cz * 16)] 24 (0, 0))) := G.set_three Hz_v13_4.out
          have Hz_v14_5 : Hid ((((v13.setCell ⟨g11, 0, none⟩ (.int .i64 (cx * 16))).setCell ⟨g11, 1, none⟩ (.int .i64 0)).setCell ⟨g11, 2, none⟩ (.int .i64 (cz * 16))).heap[g13]? = some (.cells #[.int .i64 0, .int .i64 0, .int .i64 0] 24 (0, 0))) := (Below.heap_setCell _ _ _ _ (Ne.symm Hn_v13_4_5.out)).trans ((Below.heap_setCell _ _ _ _ (Ne.symm Hn_v13_4_5.out)).trans ((Below.heap_setCell _ _ _ _ (Ne.symm Hn_v13_4_5.out)).trans (Hz_v13_5.out)))
          refine hK.out _ _ (fun _ => h_v14) ?_
          clear hK K s0 s1 s2 f0 f1 f2
          generalize ((v13.setCell ⟨g11, 0, none⟩ (.int .i64 (cx * 16))).setCell ⟨g11, 1, none⟩ (.int .i64 0)).setCell ⟨g11, 2, none⟩ (.int .i64 (cz * 16)) = v14 at *
          refine one_L (i := 7) (by kernel_rfl) rfl (fun K hK => ?_)
          have s2 : v14.cell? ⟨g13, 2, none⟩ = some (.int .i64 0) := (cell_of_row v14 _ 2 _ 24 (0, 0) Hz_v14_5.out).trans rfl
          have f2 : v14.frozen? ⟨g13, 2, none⟩ = false := frozen_of_row v14 _ 2 _ 24 Hz_v14_5.out
          have s1 : v14.cell? ⟨g13, 1, none⟩ = some (.int .i64 0) := (cell_of_row v14 _ 1 _ 24 (0, 0) Hz_v14_5.out).trans rfl
          have f1 : v14.frozen? ⟨g13, 1, none⟩ = false := frozen_of_row v14 _ 1 _ 24 Hz_v14_5.out
          have s0 : v14.cell? ⟨g13, 0, none⟩ = some (.int .i64 0) := (cell_of_row v14 _ 0 _ 24 (0, 0) Hz_v14_5.out).trans rfl
          have f0 : v14.frozen? ⟨g13, 0, none⟩ = false := frozen_of_row v14 _ 0 _ 24 Hz_v14_5.out
          go_simp
          have h_v15 : (fun w' => Below W.heap.size W w') (((v14.setCell ⟨g13, 0, none⟩ (.int .i64 (cx * 16 + 15))).setCell ⟨g13, 1, none⟩ (.int .i64 127)).setCell ⟨g13, 2, none⟩ (.int .i64 (cz * 16 + 15))) := G.below_set3 h_v14 Hl_v13_5.out
          have Hz_v15_5 : Hid ((((v14.setCell ⟨g13, 0, none⟩ (.int .i64 (cx * 16 + 15))).setCell ⟨g13, 1, none⟩ (.int .i64 127)).setCell ⟨g13, 2, none⟩ (.int .i64 (cz * 16 + 15))).heap[g13]? = some (.cells #[.int .i64 (cx * 16 + 15), .int .i64 127, .int .i64 (cz * 16 + 15)] 24 (0, 0))) := G.set_three Hz_v14_5.out
          have Hz_v15_4 : Hid ((((v14.setCell ⟨g13, 0, none⟩ (.int .i64 (cx * 16 + 15))).setCell ⟨g13, 1, none⟩ (.int .i64 127)).setCell ⟨g13, 2, none⟩ (.int .i64 (cz * 16 + 15))).heap[g11]? = some (.cells #[.int .i64 (cx * 16), .int .i64 0, .int .i64 (cz * 16)] 24 (0, 0))) := (Below.heap_setCell _ _ _ _ Hn_v13_4_5.out).trans ((Below.heap_setCell _ _ _ _ Hn_v13_4_5.out).trans ((Below.heap_setCell _ _ _ _ Hn_v13_4_5.out).trans (Hz_v14_4.out)))
          refine hK.out _ _ (fun _ => h_v15) ?_
          clear hK K s0 s1 s2 f0 f1 f2
          generalize ((v14.setCell ⟨g13, 0, none⟩ (.int .i64 (cx * 16 + 15))).setCell ⟨g13, 1, none⟩ (.int .i64 127)).setCell ⟨g13, 2, none⟩ (.int .i64 (cz * 16 + 15)) = v15 at *
          refine done_L (by kernel_rfl) ?_ _
          exact ⟨_, _, h_v15, Hz_v15_4.out, Hz_v15_5.out, rfl⟩
        · go_simp
          have h_v16 : (fun w' => Below W.heap.size W w') (v11.alloc (.cells #[.int .i64 0, .int .i64 0, .int .i64 0] 24)) := h_v11.alloc h_v11.size _
          have Hz_v16_5 : Hid ((v11.alloc (.cells #[.int .i64 0, .int .i64 0, .int .i64 0] 24)).heap[v11.heap.size]? = some (.cells #[.int .i64 0, .int .i64 0, .int .i64 0] 24 (0, 0))) := heap_alloc_new v11 _
          have Hz_v16_4 : Hid ((v11.alloc (.cells #[.int .i64 0, .int .i64 0, .int .i64 0] 24)).heap[g11]? = some (.cells #[.int .i64 0, .int .i64 0, .int .i64 0] 24 (0, 0))) := (heap_alloc_old v11 _ (Array.getElem?_eq_some_iff.1 Hz_v11_4.out).1).trans Hz_v11_4.out
          have Hn_v16_4_5 : Hid (g11 ≠ v11.heap.size) := Nat.ne_of_lt (Array.getElem?_eq_some_iff.1 Hz_v11_4.out).1
          have Hl_v16_5 : Hid (W.heap.size ≤ v11.heap.size) := h_v11.size
          refine hK.out _ _ (fun _ => h_v16) ?_
          clear hK K Hz_v11_4
          generalize v11.alloc (.cells #[.int .i64 0, .int .i64 0, .int .i64 0] 24) = v16 at *
          clear h_v11
          generalize v11.heap.size = g16 at *
          refine one_L (i := 3) (by kernel_rfl) rfl (fun K hK => ?_)
          go_simp
          refine (HC1.out v16).mono ?_
          rintro _ v17 ⟨rfl, hb⟩
          have h_v17 : (fun w' => Below W.heap.size W w') v17 := h_v16.trans (hb.mono h_v16.size)
          have Hz_v17_4 : Hid (v17.heap[g11]? = some (.cells #[.int .i64 0, .int .i64 0, .int .i64 0] 24 (0, 0))) := (hb.block _ (Array.getElem?_eq_some_iff.1 Hz_v16_4.out).1).trans Hz_v16_4.out
          have Hz_v17_5 : Hid (v17.heap[g16]? = some (.cells #[.int .i64 0, .int .i64 0, .int .i64 0] 24 (0, 0))) := (hb.block _ (Array.getElem?_eq_some_iff.1 Hz_v16_5.out).1).trans Hz_v16_5.out
          refine hK.out _ _ (fun _ => h_v17) ?_
          clear hK K hb h_v16 Hz_v16_4 Hz_v16_5
          refine one_L (i := 6) (by kernel_rfl) rfl (fun K hK => ?_)
          have s2 : v17.cell? ⟨g11, 2, none⟩ = some (.int .i64 0) := (cell_of_row v17 _ 2 _ 24 (0, 0) Hz_v17_4.out).trans rfl
          have f2 : v17.frozen? ⟨g11, 2, none⟩ = false := frozen_of_row v17 _ 2 _ 24 Hz_v17_4.out
          have s1 : v17.cell? ⟨g11, 1, none⟩ = some (.int .i64 0) := (cell_of_row v17 _ 1 _ 24 (0, 0) Hz_v17_4.out).trans rfl
          have f1 : v17.frozen? ⟨g11, 1, none⟩ = false := frozen_of_row v17 _ 1 _ 24 Hz_v17_4.out
          have s0 : v17.cell? ⟨g11, 0, none⟩ = some (.int .i64 0) := (cell_of_row v17 _ 0 _ 24 (0, 0) Hz_v17_4.out).trans rfl
          have f0 : v17.frozen? ⟨g11, 0, none⟩ = false := frozen_of_row v17 _ 0 _ 24 Hz_v17_4.out
          go_simp
          have h_v18 : (fun w' => Below W.heap.size W w') (((v17.setCell ⟨g11, 0, none⟩ (.int .i64 (cx * 16))).setCell ⟨g11, 1, none⟩ (.int .i64 0)).setCell ⟨g11, 2, none⟩ (.int .i64 (cz * 16))) := G.below_set3 h_v17 Hl_v11_4.out
          have Hz_v18_4 : Hid ((((v17.setCell ⟨g11, 0, none⟩ (.int .i64 (cx * 16))).setCell ⟨g11, 1, none⟩ (.int .i64 0)).setCell ⟨g11, 2, none⟩ (.int .i64 (cz * 16))).heap[g11]? = some (.cells #[.int .i64 (cx * 16), .int .i64 0, .int .i64 (cz * 16)] 24 (0, 0))) := G.set_three Hz_v17_4.out
          have Hz_v18_5 : Hid ((((v17.setCell ⟨g11, 0, none⟩ (.int .i64 (cx * 16))).setCell ⟨g11, 1, none⟩ (.int .i64 0)).setCell ⟨g11, 2, none⟩ (.int .i64 (cz * 16))).heap[g16]? = some (.cells #[.int .i64 0, .int .i64 0, .int .i64 0] 24 (0, 0))) := (Below.heap_setCell _ _ _ _ (Ne.symm Hn_v16_4_5.out)).trans ((Below.heap_setCell _ _ _ _ (Ne.symm Hn_v16_4_5.out)).trans ((Below.heap_setCell _ _ _ _ (Ne.symm Hn_v16_4_5.out)).trans (Hz_v17_5.out)))
          refine hK.out _ _ (fun _ => h_v18) ?_
          clear hK K s0 s1 s2 f0 f1 f2
          generalize ((v17.setCell ⟨g11, 0, none⟩ (.int .i64 (cx * 16))).setCell ⟨g11, 1, none⟩ (.int .i64 0)).setCell ⟨g11, 2, none⟩ (.int .i64 (cz * 16)) = v18 at *
          refine one_L (i := 7) (by kernel_rfl) rfl (fun K hK => ?_)
          have s2 : v18.cell? ⟨g16, 2, none⟩ = some (.int .i64 0) := (cell_of_row v18 _ 2 _ 24 (0, 0) Hz_v18_5.out).trans rfl
          have f2 : v18.frozen? ⟨g16, 2, none⟩ = false := frozen_of_row v18 _ 2 _ 24 Hz_v18_5.out
          have s1 : v18.cell? ⟨g16, 1, none⟩ = some (.int .i64 0) := (cell_of_row v18 _ 1 _ 24 (0, 0) Hz_v18_5.out).trans rfl
          have f1 : v18.frozen? ⟨g16, 1, none⟩ = false := frozen_of_row v18 _ 1 _ 24 Hz_v18_5.out
          have s0 : v18.cell? ⟨g16, 0, none⟩ = some (.int .i64 0) := (cell_of_row v18 _ 0 _ 24 (0, 0) Hz_v18_5.out).trans rfl
          have f0 : v18.frozen? ⟨g16, 0, none⟩ = false := frozen_of_row v18 _ 0 _ 24 Hz_v18_5.out
          go_simp
          have h_v19 : (fun w' => Below W.heap.size W w') (((v18.setCell ⟨g16, 0, none⟩ (.int .i64 (cx * 16 + 15))).setCell ⟨g16, 1, none⟩ (.int .i64 127)).setCell ⟨g16, 2, none⟩ (.int .i64 (cz * 16 + 15))) := G.below_set3 h_v18 Hl_v16_5.out
          have Hz_v19_5 : Hid ((((v18.setCell ⟨g16, 0, none⟩ (.int .i64 (cx * 16 + 15))).setCell ⟨g16, 1, none⟩ (.int .i64 127)).setCell ⟨g16, 2, none⟩ (.int .i64 (cz * 16 + 15))).heap[g16]? = some (.cells #[.int .i64 (cx * 16 + 15), .int .i64 127, .int .i64 (cz * 16 + 15)] 24 (0, 0))) := G.set_three Hz_v18_5.out
          have Hz_v19_4 : Hid ((((v18.setCell ⟨g16, 0, none⟩ (.int .i64 (cx * 16 + 15))).setCell ⟨g16, 1, none⟩ (.int .i64 127)).setCell ⟨g16, 2, none⟩ (.int .i64 (cz * 16 + 15))).heap[g11]? = some (.cells #[.int .i64 (cx * 16), .int .i64 0, .int .i64 (cz * 16)] 24 (0, 0))) := (Below.heap_setCell _ _ _ _ Hn_v16_4_5.out).trans ((Below.heap_setCell _ _ _ _ Hn_v16_4_5.out).trans ((Below.heap_setCell _ _ _ _ Hn_v16_4_5.out).trans (Hz_v18_4.out)))
          refine hK.out _ _ (fun _ => h_v19) ?_
          clear hK K s0 s1 s2 f0 f1 f2
          generalize ((v18.setCell ⟨g16, 0, none⟩ (.int .i64 (cx * 16 + 15))).setCell ⟨g16, 1, none⟩ (.int .i64 127)).setCell ⟨g16, 2, none⟩ (.int .i64 (cz * 16 + 15)) = v19 at *
          refine done_L (by kernel_rfl) ?_ _
          exact ⟨_, _, h_v19, Hz_v19_4.out, Hz_v19_5.out, rfl⟩
      · go_simp
        have h_v20 : (fun w' => Below W.heap.size W w') (v1.alloc (.cells #[.int .i64 0, .int .i64 0, .int .i64 0] 24)) := h_v1.alloc h_v1.size _
        have Hz_v20_5 : Hid ((v1.alloc (.cells #[.int .i64 0, .int .i64 0, .int .i64 0] 24)).heap[v1.heap.size]? = some (.cells #[.int .i64 0, .int .i64 0, .int .i64 0] 24 (0, 0))) := heap_alloc_new v1 _
        have Hl_v20_5 : Hid (W.heap.size ≤ v1.heap.size) := h_v1.size
        refine hK.out _ _ (fun _ => h_v20) ?_
        clear hK K
        generalize v1.alloc (.cells #[.int .i64 0, .int .i64 0, .int .i64 0] 24) = v20 at *
        clear h_v1
        generalize v1.heap.size = g20 at *
        refine two_L (i := 3) (j := 4) (by kernel_rfl) rfl rfl (fun K hK => ?_) (fun K hK => ?_)
        · go_simp
          refine (HC1.out v20).mono ?_
          rintro _ v21 ⟨rfl, hb⟩
          have h_v21 : (fun w' => Below W.heap.size W w') v21 := h_v20.trans (hb.mono h_v20.size)
          have Hz_v21_5 : Hid (v21.heap[g20]? = some (.cells #[.int .i64 0, .int .i64 0, .int .i64 0] 24 (0, 0))) := (hb.block _ (Array.getElem?_eq_some_iff.1 Hz_v20_5.out).1).trans Hz_v20_5.out
          refine hK.out _ _ (fun _ => h_v21) ?_
          clear hK K hb h_v20 Hz_v20_5
          refine one_L (i := 4) (by kernel_rfl) rfl (fun K hK => ?_)
          go_simp
          have h_v22 : (fun w' => Below W.heap.size W w') (v21.alloc (.cells #[.int .i64 0, .int .i64 0, .int .i64 0] 24)) := h_v21.alloc h_v21.size _
          have Hz_v22_4 : Hid ((v21.alloc (.cells #[.int .i64 0, .int .i64 0, .int .i64 0] 24)).heap[v21.heap.size]? = some (.cells #[.int .i64 0, .int .i64 0, .int .i64 0] 24 (0, 0))) := heap_alloc_new v21 _
          have Hz_v22_5 : Hid ((v21.alloc (.cells #[.int .i64 0, .int .i64 0, .int .i64 0] 24)).heap[g20]? = some (.cells #[.int .i64 0, .int .i64 0, .int .i64 0] 24 (0, 0))) := (heap_alloc_old v21 _ (Array.getElem?_eq_some_iff.1 Hz_v21_5.out).1).trans Hz_v21_5.out
          have Hn_v22_5_4 : Hid (g20 ≠ v21.heap.size) := Nat.ne_of_lt (Array.getElem?_eq_some_iff.1 Hz_v21_5.out).1
          have Hl_v22_4 : Hid (W.heap.size ≤ v21.heap.size) := h_v21.size
          refine hK.out _ _ (fun _ => h_v22) ?_
          clear hK K Hz_v21_5
          generalize v21.alloc (.cells #[.int .i64 0, .int .i64 0, .int .i64 0] 24) = v22 at *
          clear h_v21
          generalize v21.heap.size = g22 at *
          refine one_L (i := 6) (by kernel_rfl) rfl (fun K hK => ?_)
          have s2 : v22.cell? ⟨g22, 2, none⟩ = some (.int .i64 0) := (cell_of_row v22 _ 2 _ 24 (0, 0) Hz_v22_4.out).trans rfl
          have f2 : v22.frozen? ⟨g22, 2, none⟩ = false := frozen_of_row v22 _ 2 _ 24 Hz_v22_4.out
          have s1 : v22.cell? ⟨g22, 1, none⟩ = some (.int .i64 0) := (cell_of_row v22 _ 1 _ 24 (0, 0) Hz_v22_4.out).trans rfl
          have f1 : v22.frozen? ⟨g22, 1, none⟩ = false := frozen_of_row v22 _ 1 _ 24 Hz_v22_4.out
          have s0 : v22.cell? ⟨g22, 0, none⟩ = some (.int .i64 0) := (cell_of_row v22 _ 0 _ 24 (0, 0) Hz_v22_4.out).trans rfl
          have f0 : v22.frozen? ⟨g22, 0, none⟩ = false := frozen_of_row v22 _ 0 _ 24 Hz_v22_4.out
          go_simp
          have h_v23 : (fun w' => Below W.heap.size W w') (((v22.setCell ⟨g22, 0, none⟩ (.int .i64 (cx * 16))).setCell ⟨g22, 1, none⟩ (.int .i64 0)).setCell ⟨g22, 2, none⟩ (.int .i64 (cz * 16))) := G.below_set3 h_v22 Hl_v22_4.out
          have Hz_v23_4 : Hid ((((v22.setCell ⟨g22, 0, none⟩ (.int .i64 (cx * 16))).setCell ⟨g22, 1, none⟩ (.int .i64 0)).setCell ⟨g22, 2, none⟩ (.int .i64 (cz * 16))).heap[g22]? = some (.cells #[.int .i64 (cx * 16), .int .i64 0, .int .i64 (cz * 16)] 24 (0, 0))) := G.set_three Hz_v22_4.out
          have Hz_v23_5 : Hid ((((v22.setCell ⟨g22, 0, none⟩ (.int .i64 (cx * 16))).setCell ⟨g22, 1, none⟩ (.int .i64 0)).setCell ⟨g22, 2, none⟩ (.int .i64 (cz * 16))).heap[g20]? = some (.cells #[.int .i64 0, .int .i64 0, .int .i64 0] 24 (0, 0))) := (Below.heap_setCell _ _ _ _ Hn_v22_5_4.out).trans ((Below.heap_setCell _ _ _ _ Hn_v22_5_4.out).trans ((Below.heap_setCell _ _ _ _ Hn_v22_5_4.out).trans (Hz_v22_5.out)))
          refine hK.out _ _ (fun _ => h_v23) ?_
          clear hK K s0 s1 s2 f0 f1 f2
          generalize ((v22.setCell ⟨g22, 0, none⟩ (.int .i64 (cx * 16))).setCell ⟨g22, 1, none⟩ (.int .i64 0)).setCell ⟨g22, 2, none⟩ (.int .i64 (cz * 16)) = v23 at *
          refine one_L (i := 7) (by kernel_rfl) rfl (fun K hK => ?_)
          have s2 : v23.cell? ⟨g20, 2, none⟩ = some (.int .i64 0) := (cell_of_row v23 _ 2 _ 24 (0, 0) Hz_v23_5.out).trans rfl
          have f2 : v23.frozen? ⟨g20, 2, none⟩ = false := frozen_of_row v23 _ 2 _ 24 Hz_v23_5.out
          have s1 : v23.cell? ⟨g20, 1, none⟩ = some (.int .i64 0) := (cell_of_row v23 _ 1 _ 24 (0, 0) Hz_v23_5.out).trans rfl
          have f1 : v23.frozen? ⟨g20, 1, none⟩ = false := frozen_of_row v23 _ 1 _ 24 Hz_v23_5.out
          have s0 : v23.cell? ⟨g20, 0, none⟩ = some (.int .i64 0) := (cell_of_row v23 _ 0 _ 24 (0, 0) Hz_v23_5.out).trans rfl
          have f0 : v23.frozen? ⟨g20, 0, none⟩ = false := frozen_of_row v23 _ 0 _ 24 Hz_v23_5.out
          go_simp
          have h_v24 : (fun w' => Below W.heap.size W w') (((v23.setCell ⟨g20, 0, none⟩ (.int .i64 (cx * 16 + 15))).setCell ⟨g20, 1, none⟩ (.int .i64 127)).setCell ⟨g20, 2, none⟩ (.int .i64 (cz * 16 + 15))) := G.below_set3 h_v23 Hl_v20_5.out
          have Hz_v24_5 : Hid ((((v23.setCell ⟨g20, 0, none⟩ (.int .i64 (cx * 16 + 15))).setCell ⟨g20, 1, none⟩ (.int .i64 127)).setCell ⟨g20, 2, none⟩ (.int .i64 (cz * 16 + 15))).heap[g20]? = some (.cells #[.int .i64 (cx * 16 + 15), .int .i64 127, .int .i64 (cz * 16 + 15)] 24 (0, 0))) := G.set_three Hz_v23_5.out
          have Hz_v24_4 : Hid ((((v23.setCell ⟨g20, 0, none⟩ (.int .i64 (cx * 16 + 15))).setCell ⟨g20, 1, none⟩ (.int .i64 127)).setCell ⟨g20, 2, none⟩ (.int .i64 (cz * 16 + 15))).heap[g22]? = some (.cells #[.int .i64 (cx * 16), .int .i64 0, .int .i64 (cz * 16)] 24 (0, 0))) := (Below.heap_setCell _ _ _ _ (Ne.symm Hn_v22_5_4.out)).trans ((Below.heap_setCell _ _ _ _ (Ne.symm Hn_v22_5_4.out)).trans ((Below.heap_setCell _ _ _ _ (Ne.symm Hn_v22_5_4.out)).trans (Hz_v23_4.out)))
          refine hK.out _ _ (fun _ => h_v24) ?_
          clear hK K s0 s1 s2 f0 f1 f2
          generalize ((v23.setCell ⟨g20, 0, none⟩ (.int .i64 (cx * 16 + 15))).setCell ⟨g20, 1, none⟩ (.int .i64 127)).setCell ⟨g20, 2, none⟩ (.int .i64 (cz * 16 + 15)) = v24 at *
          refine done_L (by kernel_rfl) ?_ _
          exact ⟨_, _, h_v24, Hz_v24_4.out, Hz_v24_5.out, rfl⟩
        · go_simp
          have h_v25 : (fun w' => Below W.heap.size W w') (v20.alloc (.cells #[.int .i64 0, .int .i64 0, .int .i64 0] 24)) := h_v20.alloc h_v20.size _
          have Hz_v25_4 : Hid ((v20.alloc (.cells #[.int .i64 0, .int .i64 0, .int .i64 0] 24)).heap[v20.heap.size]? = some (.cells #[.int .i64 0, .int .i64 0, .int .i64 0] 24 (0, 0))) := heap_alloc_new v20 _
          have Hz_v25_5 : Hid ((v20.alloc (.cells #[.int .i64 0, .int .i64 0, .int .i64 0] 24)).heap[g20]? = some (.cells #[.int .i64 0, .int .i64 0, .int .i64 0] 24 (0, 0))) := (heap_alloc_old v20 _ (Array.getElem?_eq_some_iff.1 Hz_v20_5.out).1).trans Hz_v20_5.out
          have Hn_v25_5_4 : Hid (g20 ≠ v20.heap.size) := Nat.ne_of_lt (Array.getElem?_eq_some_iff.1 Hz_v20_5.out).1
          have Hl_v25_4 : Hid (W.heap.size ≤ v20.heap.size) := h_v20.size
          refine hK.out _ _ (fun _ => h_v25) ?_
          clear hK K Hz_v20_5
          generalize v20.alloc (.cells #[.int .i64 0, .int .i64 0, .int .i64 0] 24) = v25 at *
          clear h_v20
          generalize v20.heap.size = g25 at *
          refine one_L (i := 3) (by kernel_rfl) rfl (fun K hK => ?_)
          go_simp
          refine (HC1.out v25).mono ?_
          rintro _ v26 ⟨rfl, hb⟩
          have h_v26 : (fun w' => Below W.heap.size W w') v26 := h_v25.trans (hb.mono h_v25.size)
          have Hz_v26_5 : Hid (v26.heap[g20]? = some (.cells #[.int .i64 0, .int .i64 0, .int .i64 0] 24 (0, 0))) := (hb.block _ (Array.getElem?_eq_some_iff.1 Hz_v25_5.out).1).trans Hz_v25_5.out
          have Hz_v26_4 : Hid (v26.heap[g25]? = some (.cells #[.int .i64 0, .int .i64 0, .int .i64 0] 24 (0, 0))) := (hb.block _ (Array.getElem?_eq_some_iff.1 Hz_v25_4.out).1).trans Hz_v25_4.out
          refine hK.out _ _ (fun _ => h_v26) ?_
          clear hK K hb h_v25 Hz_v25_5 Hz_v25_4
          refine one_L (i := 6) (by kernel_rfl) rfl (fun K hK => ?_)
          have s2 : v26.cell? ⟨g25, 2, none⟩ = some (.int .i64 0) := (cell_of_row v26 _ 2 _ 24 (0, 0) Hz_v26_4.out).trans rfl
          have f2 : v26.frozen? ⟨g25, 2, none⟩ = false := frozen_of_row v26 _ 2 _ 24 Hz_v26_4.out
          have s1 : v26.cell? ⟨g25, 1, none⟩ = some (.int .i64 0) := (cell_of_row v26 _ 1 _ 24 (0, 0) Hz_v26_4.out).trans rfl
          have f1 : v26.frozen? ⟨g25, 1, none⟩ = false := frozen_of_row v26 _ 1 _ 24 Hz_v26_4.out
          have s0 : v26.cell? ⟨g25, 0, none⟩ = some (.int .i64 0) := (cell_of_row v26 _ 0 _ 24 (0, 0) Hz_v26_4.out).trans rfl
          have f0 : v26.frozen? ⟨g25, 0, none⟩ = false := frozen_of_row v26 _ 0 _ 24 Hz_v26_4.out
          go_simp
          have h_v27 : (fun w' => Below W.heap.size W w') (((v26.setCell ⟨g25, 0, none⟩ (.int .i64 (cx * 16))).setCell ⟨g25, 1, none⟩ (.int .i64 0)).setCell ⟨g25, 2, none⟩ (.int .i64 (cz * 16))) := G.below_set3 h_v26 Hl_v25_4.out
          have Hz_v27_4 : Hid ((((v26.setCell ⟨g25, 0, none⟩ (.int .i64 (cx * 16))).setCell ⟨g25, 1, none⟩ (.int .i64 0)).setCell ⟨g25, 2, none⟩ (.int .i64 (cz * 16))).heap[g25]? = some (.cells #[.int .i64 (cx * 16), .int .i64 0, .int .i64 (cz * 16)] 24 (0, 0))) := G.set_three Hz_v26_4.out
          have Hz_v27_5 : Hid ((((v26.setCell ⟨g25, 0, none⟩ (.int .i64 (cx * 16))).setCell ⟨g25, 1, none⟩ (.int .i64 0)).setCell ⟨g25, 2, none⟩ (.int .i64 (cz * 16))).heap[g20]? = some (.cells #[.int .i64 0, .int .i64 0, .int .i64 0] 24 (0, 0))) := (Below.heap_setCell _ _ _ _ Hn_v25_5_4.out).trans ((Below.heap_setCell _ _ _ _ Hn_v25_5_4.out).trans ((Below.heap_setCell _ _ _ _ Hn_v25_5_4.out).trans (Hz_v26_5.out)))
          refine hK.out _ _ (fun _ => h_v27) ?_
          clear hK K s0 s1 s2 f0 f1 f2
          generalize ((v26.setCell ⟨g25, 0, none⟩ (.int .i64 (cx * 16))).setCell ⟨g25, 1, none⟩ (.int .i64 0)).setCell ⟨g25, 2, none⟩ (.int .i64 (cz * 16)) = v27 at *
          refine one_L (i := 7) (by kernel_rfl) rfl (fun K hK => ?_)
          have s2 : v27.cell? ⟨g20, 2, none⟩ = some (.int .i64 0) := (cell_of_row v27 _ 2 _ 24 (0, 0) Hz_v27_5.out).trans rfl
          have f2 : v27.frozen? ⟨g20, 2, none⟩ = false := frozen_of_row v27 _ 2 _ 24 Hz_v27_5.out
          have s1 : v27.cell? ⟨g20, 1, none⟩ = some (.int .i64 0) := (cell_of_row v27 _ 1 _ 24 (0, 0) Hz_v27_5.out).trans rfl
          have f1 : v27.frozen? ⟨g20, 1, none⟩ = false := frozen_of_row v27 _ 1 _ 24 Hz_v27_5.out
          have s0 : v27.cell? ⟨g20, 0, none⟩ = some (.int .i64 0) := (cell_of_row v27 _ 0 _ 24 (0, 0) Hz_v27_5.out).trans rfl
          have f0 : v27.frozen? ⟨g20, 0, none⟩ = false := frozen_of_row v27 _ 0 _ 24 Hz_v27_5.out
          go_simp
          have h_v28 : (fun w' => Below W.heap.size W w') (((v27.setCell ⟨g20, 0, none⟩ (.int .i64 (cx * 16 + 15))).setCell ⟨g20, 1, none⟩ (.int .i64 127)).setCell ⟨g20, 2, none⟩ (.int .i64 (cz * 16 + 15))) := G.below_set3 h_v27 Hl_v20_5.out
          have Hz_v28_5 : Hid ((((v27.setCell ⟨g20, 0, none⟩ (.int .i64 (cx * 16 + 15))).setCell ⟨g20, 1, none⟩ (.int .i64 127)).setCell ⟨g20, 2, none⟩ (.int .i64 (cz * 16 + 15))).heap[g20]? = some (.cells #[.int .i64 (cx * 16 + 15), .int .i64 127, .int .i64 (cz * 16 + 15)] 24 (0, 0))) := G.set_three Hz_v27_5.out
          have Hz_v28_4 : Hid ((((v27.setCell ⟨g20, 0, none⟩ (.int .i64 (cx * 16 + 15))).setCell ⟨g20, 1, none⟩ (.int .i64 127)).setCell ⟨g20, 2, none⟩ (.int .i64 (cz * 16 + 15))).heap[g25]? = some (.cells #[.int .i64 (cx * 16), .int .i64 0, .int .i64 (cz * 16)] 24 (0, 0))) := (Below.heap_setCell _ _ _ _ (Ne.symm Hn_v25_5_4.out)).trans ((Below.heap_setCell _ _ _ _ (Ne.symm Hn_v25_5_4.out)).trans ((Below.heap_setCell _ _ _ _ (Ne.symm Hn_v25_5_4.out)).trans (Hz_v27_4.out)))
          refine hK.out _ _ (fun _ => h_v28) ?_
          clear hK K s0 s1 s2 f0 f1 f2
          generalize ((v27.setCell ⟨g20, 0, none⟩ (.int .i64 (cx * 16 + 15))).setCell ⟨g20, 1, none⟩ (.int .i64 127)).setCell ⟨g20, 2, none⟩ (.int .i64 (cz * 16 + 15)) = v28 at *
          refine done_L (by kernel_rfl) ?_ _
          exact ⟨_, _, h_v28, Hz_v28_4.out, Hz_v28_5.out, rfl⟩
    · go_simp
      have h_v29 : (fun w' => Below W.heap.size W w') (v0.alloc (.cells #[.int .i64 0, .int .i64 0, .int .i64 0] 24)) := h_v0.alloc h_v0.size _
      have Hz_v29_4 : Hid ((v0.alloc (.cells #[.int .i64 0, .int .i64 0, .int .i64 0] 24)).heap[v0.heap.size]? = some (.cells #[.int .i64 0, .int .i64 0, .int .i64 0] 24 (0, 0))) := heap_alloc_new v0 _
      have Hl_v29_4 : Hid (W.heap.size ≤ v0.heap.size) := h_v0.size
      refine hK.out _ _ (fun _ => h_v29) ?_
      clear hK K
      generalize v0.alloc (.cells #[.int .i64 0, .int .i64 0, .int .i64 0] 24) = v29 at *
      clear h_v0
      generalize v0.heap.size = g29 at *
      refine two_L (i := 1) (j := 5) (by kernel_rfl) rfl rfl (fun K hK => ?_) (fun K hK => ?_)
      · go_simp
        refine (HC0.out v29).mono ?_
        rintro _ v30 ⟨rfl, hb⟩
        have h_v30 : (fun w' => Below W.heap.size W w') v30 := h_v29.trans (hb.mono h_v29.size)
        have Hz_v30_4 : Hid (v30.heap[g29]? = some (.cells #[.int .i64 0, .int .i64 0, .int .i64 0] 24 (0, 0))) := (hb.block _ (Array.getElem?_eq_some_iff.1 Hz_v29_4.out).1).trans Hz_v29_4.out
        refine hK.out _ _ (fun _ => h_v30) ?_
        clear hK K hb h_v29 Hz_v29_4
        refine two_L (i := 3) (j := 5) (by kernel_rfl) rfl rfl (fun K hK => ?_) (fun K hK => ?_)
        · go_simp
          refine (HC1.out v30).mono ?_
          rintro _ v31 ⟨rfl, hb⟩
          have h_v31 : (fun w' => Below W.heap.size W w') v31 := h_v30.trans (hb.mono h_v30.size)
          have Hz_v31_4 : Hid (v31.heap[g29]? = some (.cells #[.int .i64 0, .int .i64 0, .int .i64 0] 24 (0, 0))) := (hb.block _ (Array.getElem?_eq_some_iff.1 Hz_v30_4.out).1).trans Hz_v30_4.out
          refine hK.out _ _ (fun _ => h_v31) ?_
          clear hK K hb h_v30 Hz_v30_4
          refine one_L (i := 5) (by kernel_rfl) rfl (fun K hK => ?_)
          go_simp
          have h_v32 : (fun w' => Below W.heap.size W w') (v31.alloc (.cells #[.int .i64 0, .int .i64 0, .int .i64 0] 24)) := h_v31.alloc h_v31.size _
          have Hz_v32_5 : Hid ((v31.alloc (.cells #[.int .i64 0, .int .i64 0, .int .i64 0] 24)).heap[v31.heap.size]? = some (.cells #[.int .i64 0, .int .i64 0, .int .i64 0] 24 (0, 0))) := heap_alloc_new v31 _
          have Hz_v32_4 : Hid ((v31.alloc (.cells #[.int .i64 0, .int .i64 0, .int .i64 0] 24)).heap[g29]? = some (.cells #[.int .i64 0, .int .i64 0, .int .i64 0] 24 (0, 0))) := (heap_alloc_old v31 _ (Array.getElem?_eq_some_iff.1 Hz_v31_4.out).1).trans Hz_v31_4.out
          have Hn_v32_4_5 : Hid (g29 ≠ v31.heap.size) := Nat.ne_of_lt (Array.getElem?_eq_some_iff.1 Hz_v31_4.out).1
          have Hl_v32_5 : Hid (W.heap.size ≤ v31.heap.size) := h_v31.size
          refine hK.out _ _ (fun _ => h_v32) ?_
          clear hK K Hz_v31_4
          generalize v31.alloc (.cells #[.int .i64 0, .int .i64 0, .int .i64 0] 24) = v32 at *
          clear h_v31
          generalize v31.heap.size = g32 at *
          refine one_L (i := 6) (by kernel_rfl) rfl (fun K hK => ?_)
          have s2 : v32.cell? ⟨g29, 2, none⟩ = some (.int .i64 0) := (cell_of_row v32 _ 2 _ 24 (0, 0) Hz_v32_4.out).trans rfl
          have f2 : v32.frozen? ⟨g29, 2, none⟩ = false := frozen_of_row v32 _ 2 _ 24 Hz_v32_4.out
          have s1 : v32.cell? ⟨g29, 1, none⟩ = some (.int .i64 0) := (cell_of_row v32 _ 1 _ 24 (0, 0) Hz_v32_4.out).trans rfl
          have f1 : v32.frozen? ⟨g29, 1, none⟩ = false := frozen_of_row v32 _ 1 _ 24 Hz_v32_4.out
          have s0 : v32.cell? ⟨g29, 0, none⟩ = some (.int .i64 0) := (cell_of_row v32 _ 0 _ 24 (0, 0) Hz_v32_4.out).trans rfl
          have f0 : v32.frozen? ⟨g29, 0, none⟩ = false := frozen_of_row v32 _ 0 _ 24 Hz_v32_4.out
          go_simp
          have h_v33 : (fun w' => Below W.heap.size W w') (((v32.setCell ⟨g29, 0, none⟩ (.int .i64 (cx * 16))).setCell ⟨g29, 1, none⟩ (.int .i64 0)).setCell ⟨g29, 2, none⟩ (.int .i64 (cz * 16))) := G.below_set3 h_v32 Hl_v29_4.out
          have Hz_v33_4 : Hid ((((v32.setCell ⟨g29, 0, none⟩ (.int .i64 (cx * 16))).setCell ⟨g29, 1, none⟩ (.int .i64 0)).setCell ⟨g29, 2, none⟩ (.int .i64 (cz * 16))).heap[g29]? = some (.cells #[.int .i64 (cx * 16), .int .i64 0, .int .i64 (cz * 16)] 24 (0, 0))) := G.set_three Hz_v32_4.out
          have Hz_v33_5 : Hid ((((v32.setCell ⟨g29, 0, none⟩ (.int .i64 (cx * 16))).setCell ⟨g29, 1, none⟩ (.int .i64 0)).setCell ⟨g29, 2, none⟩ (.int .i64 (cz * 16))).heap[g32]? = some (.cells #[.int .i64 0, .int .i64 0, .int .i64 0] 24 (0, 0))) := (Below.heap_setCell _ _ _ _ (Ne.symm Hn_v32_4_5.out)).trans ((Below.heap_setCell _ _ _ _ (Ne.symm Hn_v32_4_5.out)).trans ((Below.heap_setCell _ _ _ _ (Ne.symm Hn_v32_4_5.out)).trans (Hz_v32_5.out)))
          refine hK.out _ _ (fun _ => h_v33) ?_
          clear hK K s0 s1 s2 f0 f1 f2
          generalize ((v32.setCell ⟨g29, 0, none⟩ (.int .i64 (cx * 16))).setCell ⟨g29, 1, none⟩ (.int .i64 0)).setCell ⟨g29, 2, none⟩ (.int .i64 (cz * 16)) = v33 at *
          refine one_L (i := 7) (by kernel_rfl) rfl (fun K hK => ?_)
          have s2 : v33.cell? ⟨g32, 2, none⟩ = some (.int .i64 0) := (cell_of_row v33 _ 2 _ 24 (0, 0) Hz_v33_5.out).trans rfl
          have f2 : v33.frozen? ⟨g32, 2, none⟩ = false := frozen_of_row v33 _ 2 _ 24 Hz_v33_5.out
          have s1 : v33.cell? ⟨g32, 1, none⟩ = some (.int .i64 0) := (cell_of_row v33 _ 1 _ 24 (0, 0) Hz_v33_5.out).trans rfl
          have f1 : v33.frozen? ⟨g32, 1, none⟩ = false := frozen_of_row v33 _ 1 _ 24 Hz_v33_5.out
          have s0 : v33.cell? ⟨g32, 0, none⟩ = some (.int .i64 0) := (cell_of_row v33 _ 0 _ 24 (0, 0) Hz_v33_5.out).trans rfl
          have f0 : v33.frozen? ⟨g32, 0, none⟩ = false := frozen_of_row v33 _ 0 _ 24 Hz_v33_5.out
          go_simp
          have h_v34 : (fun w' => Below W.heap.size W w') (((v33.setCell ⟨g32, 0, none⟩ (.int .i64 (cx * 16 + 15))).setCell ⟨g32, 1, none⟩ (.int .i64 127)).setCell ⟨g32, 2, none⟩ (.int .i64 (cz * 16 + 15))) := G.below_set3 h_v33 Hl_v32_5.out
          have Hz_v34_5 : Hid ((((v33.setCell ⟨g32, 0, none⟩ (.int .i64 (cx * 16 + 15))).setCell ⟨g32, 1, none⟩ (.int .i64 127)).setCell ⟨g32, 2, none⟩ (.int .i64 (cz * 16 + 15))).heap[g32]? = some (.cells #[.int .i64 (cx * 16 + 15), .int .i64 127, .int .i64 (cz * 16 + 15)] 24 (0, 0))) := G.set_three Hz_v33_5.out
          have Hz_v34_4 : Hid ((((v33.setCell ⟨g32, 0, none⟩ (.int .i64 (cx * 16 + 15))).setCell ⟨g32, 1, none⟩ (.int .i64 127)).setCell ⟨g32, 2, none⟩ (.int .i64 (cz * 16 + 15))).heap[g29]? = some (.cells #[.int .i64 (cx * 16), .int .i64 0, .int .i64 (cz * 16)] 24 (0, 0))) := (Below.heap_setCell _ _ _ _ Hn_v32_4_5.out).trans ((Below.heap_setCell _ _ _ _ Hn_v32_4_5.out).trans ((Below.heap_setCell _ _ _ _ Hn_v32_4_5.out).trans (Hz_v33_4.out)))
          refine hK.out _ _ (fun _ => h_v34) ?_
          clear hK K s0 s1 s2 f0 f1 f2
          generalize ((v33.setCell ⟨g32, 0, none⟩ (.int .i64 (cx * 16 + 15))).setCell ⟨g32, 1, none⟩ (.int .i64 127)).setCell ⟨g32, 2, none⟩ (.int .i64 (cz * 16 + 15)) = v34 at *
          refine done_L (by kernel_rfl) ?_ _
          exact ⟨_, _, h_v34, Hz_v34_4.out, Hz_v34_5.out, rfl⟩
        · go_simp
          have h_v35 : (fun w' => Below W.heap.size W w') (v30.alloc (.cells #[.int .i64 0, .int .i64 0, .int .i64 0] 24)) := h_v30.alloc h_v30.size _
          have Hz_v35_5 : Hid ((v30.alloc (.cells #[.int .i64 0, .int .i64 0, .int .i64 0] 24)).heap[v30.heap.size]? = some (.cells #[.int .i64 0, .int .i64 0, .int .i64 0] 24 (0, 0))) := heap_alloc_new v30 _
          have Hz_v35_4 : Hid ((v30.alloc (.cells #[.int .i64 0, .int .i64 0, .int .i64 0] 24)).heap[g29]? = some (.cells #[.int .i64 0, .int .i64 0, .int .i64 0] 24 (0, 0))) := (heap_alloc_old v30 _ (Array.getElem?_eq_some_iff.1 Hz_v30_4.out).1).trans Hz_v30_4.out
          have Hn_v35_4_5 : Hid (g29 ≠ v30.heap.size) := Nat.ne_of_lt (Array.getElem?_eq_some_iff.1 Hz_v30_4.out).1
          have Hl_v35_5 : Hid (W.heap.size ≤ v30.heap.size) := h_v30.size
          refine hK.out _ _ (fun _ => h_v35) ?_
          clear hK K Hz_v30_4
          generalize v30.alloc (.cells #[.int .i64 0, .int .i64 0, .int .i64 0] 24) = v35 at *
          clear h_v30
          generalize v30.heap.size = g35 at *
          refine one_L (i := 3) (by kernel_rfl) rfl (fun K hK => ?_)
          go_simp
          refine (HC1.out v35).mono ?_
          rintro _ v36 ⟨rfl, hb⟩
          have h_v36 : (fun w' => Below W.heap.size W w') v36 := h_v35.trans (hb.mono h_v35.size)
          have Hz_v36_4 : Hid (v36.heap[g29]? = some (.cells #[.int .i64 0, .int .i64 0, .int .i64 0] 24 (0, 0))) := (hb.block _ (Array.getElem?_eq_some_iff.1 Hz_v35_4.out).1).trans Hz_v35_4.out
          have Hz_v36_5 : Hid (v36.heap[g35]? = some (.cells #[.int .i64 0, .int .i64 0, .int .i64 0] 24 (0, 0))) := (hb.block _ (Array.getElem?_eq_some_iff.1 Hz_v35_5.out).1).trans Hz_v35_5.out
          refine hK.out _ _ (fun _ => h_v36) ?_
          clear hK K hb h_v35 Hz_v35_4 Hz_v35_5
          refine one_L (i := 6) (by kernel_rfl) rfl (fun K hK => ?_)
          have s2 : v36.cell? ⟨g29, 2, none⟩ = some (.int .i64 0) := (cell_of_row v36 _ 2 _ 24 (0, 0) Hz_v36_4.out).trans rfl
          have f2 : v36.frozen? ⟨g29, 2, none⟩ = false := frozen_of_row v36 _ 2 _ 24 Hz_v36_4.out
          have s1 : v36.cell? ⟨g29, 1, none⟩ = some (.int .i64 0) := (cell_of_row v36 _ 1 _ 24 (0, 0) Hz_v36_4.out).trans rfl
          have f1 : v36.frozen? ⟨g29, 1, none⟩ = false := frozen_of_row v36 _ 1 _ 24 Hz_v36_4.out
          have s0 : v36.cell? ⟨g29, 0, none⟩ = some (.int .i64 0) := (cell_of_row v36 _ 0 _ 24 (0, 0) Hz_v36_4.out).trans rfl
          have f0 : v36.frozen? ⟨g29, 0, none⟩ = false := frozen_of_row v36 _ 0 _ 24 Hz_v36_4.out
          go_simp
          have h_v37 : (fun w' => Below W.heap.size W w') (((v36.setCell ⟨g29, 0, none⟩ (.int .i64 (cx * 16))).setCell ⟨g29, 1, none⟩ (.int .i64 0)).setCell ⟨g29, 2, none⟩ (.int .i64 (cz * 16))) := G.below_set3 h_v36 Hl_v29_4.out
          have Hz_v37_4 : Hid ((((v36.setCell ⟨g29, 0, none⟩ (.int .i64 (cx * 16))).setCell ⟨g29, 1, none⟩ (.int .i64 0)).setCell ⟨g29, 2, none⟩ (.int .i64 (cz * 16))).heap[g29]? = some (.cells #[.int .i64 (cx * 16), .int .i64 0, .int .i64 (cz * 16)] 24 (0, 0))) := G.set_three Hz_v36_4.out
          have Hz_v37_5 : Hid ((((v36.setCell ⟨g29, 0, none⟩ (.int .i64 (cx * 16))).setCell ⟨g29, 1, none⟩ (.int .i64 0)).setCell ⟨g29, 2, none⟩ (.int .i64 (cz * 16))).heap[g35]? = some (.cells #[.int .i64 0, .int .i64 0, .int .i64 0] 24 (0, 0))) := (Below.heap_setCell _ _ _ _ (Ne.symm Hn_v35_4_5.out)).trans ((Below.heap_setCell _ _ _ _ (Ne.symm Hn_v35_4_5.out)).trans ((Below.heap_setCell _ _ _ _ (Ne.symm Hn_v35_4_5.out)).trans (Hz_v36_5.out)))
          refine hK.out _ _ (fun _ => h_v37) ?_
          clear hK K s0 s1 s2 f0 f1 f2
          generalize ((v36.setCell ⟨g29, 0, none⟩ (.int .i64 (cx * 16))).setCell ⟨g29, 1, none⟩ (.int .i64 0)).setCell ⟨g29, 2, none⟩ (.int .i64 (cz * 16)) = v37 at *
          refine one_L (i := 7) (by kernel_rfl) rfl (fun K hK => ?_)
          have s2 : v37.cell? ⟨g35, 2, none⟩ = some (.int .i64 0) := (cell_of_row v37 _ 2 _ 24 (0, 0) Hz_v37_5.out).trans rfl
          have f2 : v37.frozen? ⟨g35, 2, none⟩ = false := frozen_of_row v37 _ 2 _ 24 Hz_v37_5.out
          have s1 : v37.cell? ⟨g35, 1, none⟩ = some (.int .i64 0) := (cell_of_row v37 _ 1 _ 24 (0, 0) Hz_v37_5.out).trans rfl
          have f1 : v37.frozen? ⟨g35, 1, none⟩ = false := frozen_of_row v37 _ 1 _ 24 Hz_v37_5.out
          have s0 : v37.cell? ⟨g35, 0, none⟩ = some (.int .i64 0) := (cell_of_row v37 _ 0 _ 24 (0, 0) Hz_v37_5.out).trans rfl
          have f0 : v37.frozen? ⟨g35, 0, none⟩ = false := frozen_of_row v37 _ 0 _ 24 Hz_v37_5.out
          go_simp
          have h_v38 : (fun w' => Below W.heap.size W w') (((v37.setCell ⟨g35, 0, none⟩ (.int .i64 (cx * 16 + 15))).setCell ⟨g35, 1, none⟩ (.int .i64 127)).setCell ⟨g35, 2, none⟩ (.int .i64 (cz * 16 + 15))) := G.below_set3 h_v37 Hl_v35_5.out
          have Hz_v38_5 : Hid ((((v37.setCell ⟨g35, 0, none⟩ (.int .i64 (cx * 16 + 15))).setCell ⟨g35, 1, none⟩ (.int .i64 127)).setCell ⟨g35, 2, none⟩ (.int .i64 (cz * 16 + 15))).heap[g35]? = some (.cells #[.int .i64 (cx * 16 + 15), .int .i64 127, .int .i64 (cz * 16 + 15)] 24 (0, 0))) := G.set_three Hz_v37_5.out
          have Hz_v38_4 : Hid ((((v37.setCell ⟨g35, 0, none⟩ (.int .i64 (cx * 16 + 15))).setCell ⟨g35, 1, none⟩ (.int .i64 127)).setCell ⟨g35, 2, none⟩ (.int .i64 (cz * 16 + 15))).heap[g29]? = some (.cells #[.int .i64 (cx * 16), .int .i64 0, .int .i64 (cz * 16)] 24 (0, 0))) := (Below.heap_setCell _ _ _ _ Hn_v35_4_5.out).trans ((Below.heap_setCell _ _ _ _ Hn_v35_4_5.out).trans ((Below.heap_setCell _ _ _ _ Hn_v35_4_5.out).trans (Hz_v37_4.out)))
          refine hK.out _ _ (fun _ => h_v38) ?_
          clear hK K s0 s1 s2 f0 f1 f2
          generalize ((v37.setCell ⟨g35, 0, none⟩ (.int .i64 (cx * 16 + 15))).setCell ⟨g35, 1, none⟩ (.int .i64 127)).setCell ⟨g35, 2, none⟩ (.int .i64 (cz * 16 + 15)) = v38 at *
          refine done_L (by kernel_rfl) ?_ _
          exact ⟨_, _, h_v38, Hz_v38_4.out, Hz_v38_5.out, rfl⟩
      · go_simp
        have h_v39 : (fun w' => Below W.heap.size W w') (v29.alloc (.cells #[.int .i64 0, .int .i64 0, .int .i64 0] 24)) := h_v29.alloc h_v29.size _
        have Hz_v39_5 : Hid ((v29.alloc (.cells #[.int .i64 0, .int .i64 0, .int .i64 0] 24)).heap[v29.heap.size]? = some (.cells #[.int .i64 0, .int .i64 0, .int .i64 0] 24 (0, 0))) := heap_alloc_new v29 _
        have Hz_v39_4 : Hid ((v29.alloc (.cells #[.int .i64 0, .int .i64 0, .int .i64 0] 24)).heap[g29]? = some (.cells #[.int .i64 0, .int .i64 0, .int .i64 0] 24 (0, 0))) := (heap_alloc_old v29 _ (Array.getElem?_eq_some_iff.1 Hz_v29_4.out).1).trans Hz_v29_4.out
        have Hn_v39_4_5 : Hid (g29 ≠ v29.heap.size) := Nat.ne_of_lt (Array.getElem?_eq_some_iff.1 Hz_v29_4.out).1
        have Hl_v39_5 : Hid (W.heap.size ≤ v29.heap.size) := h_v29.size
        refine hK.out _ _ (fun _ => h_v39) ?_
        clear hK K Hz_v29_4
        generalize v29.alloc (.cells #[.int .i64 0, .int .i64 0, .int .i64 0] 24) = v39 at *
        clear h_v29
        generalize v29.heap.size = g39 at *
        refine one_L (i := 1) (by kernel_rfl) rfl (fun K hK => ?_)
        go_simp
        refine (HC0.out v39).mono ?_
        rintro _ v40 ⟨rfl, hb⟩
        have h_v40 : (fun w' => Below W.heap.size W w') v40 := h_v39.trans (hb.mono h_v39.size)
        have Hz_v40_4 : Hid (v40.heap[g29]? = some (.cells #[.int .i64 0, .int .i64 0, .int .i64 0] 24 (0, 0))) := (hb.block _ (Array.getElem?_eq_some_iff.1 Hz_v39_4.out).1).trans Hz_v39_4.out
        have Hz_v40_5 : Hid (v40.heap[g39]? = some (.cells #[.int .i64 0, .int .i64 0, .int .i64 0] 24 (0, 0))) := (hb.block _ (Array.getElem?_eq_some_iff.1 Hz_v39_5.out).1).trans Hz_v39_5.out
        refine hK.out _ _ (fun _ => h_v40) ?_
        clear hK K hb h_v39 Hz_v39_4 Hz_v39_5
        refine one_L (i := 3) (by kernel_rfl) rfl (fun K hK => ?_)
        go_simp
        refine (HC1.out v40).mono ?_
        rintro _ v41 ⟨rfl, hb⟩
        have h_v41 : (fun w' => Below W.heap.size W w') v41 := h_v40.trans (hb.mono h_v40.size)
        have Hz_v41_4 : Hid (v41.heap[g29]? = some (.cells #[.int .i64 0, .int .i64 0, .int .i64 0] 24 (0, 0))) := (hb.block _ (Array.getElem?_eq_some_iff.1 Hz_v40_4.out).1).trans Hz_v40_4.out
        have Hz_v41_5 : Hid (v41.heap[g39]? = some (.cells #[.int .i64 0, .int .i64 0, .int .i64 0] 24 (0, 0))) := (hb.block _ (Array.getElem?_eq_some_iff.1 Hz_v40_5.out).1).trans Hz_v40_5.out
        refine hK.out _ _ (fun _ => h_v41) ?_
        clear hK K hb h_v40 Hz_v40_4 Hz_v40_5
        refine one_L (i := 6) (by kernel_rfl) rfl (fun K hK => ?_)
        have s2 : v41.cell? ⟨g29, 2, none⟩ = some (.int .i64 0) := (cell_of_row v41 _ 2 _ 24 (0, 0) Hz_v41_4.out).trans rfl
        have f2 : v41.frozen? ⟨g29, 2, none⟩ = false := frozen_of_row v41 _ 2 _ 24 Hz_v41_4.out
        have s1 : v41.cell? ⟨g29, 1, none⟩ = some (.int .i64 0) := (cell_of_row v41 _ 1 _ 24 (0, 0) Hz_v41_4.out).trans rfl
        have f1 : v41.frozen? ⟨g29, 1, none⟩ = false := frozen_of_row v41 _ 1 _ 24 Hz_v41_4.out
        have s0 : v41.cell? ⟨g29, 0, none⟩ = some (.int .i64 0) := (cell_of_row v41 _ 0 _ 24 (0, 0) Hz_v41_4.out).trans rfl
        have f0 : v41.frozen? ⟨g29, 0, none⟩ = false := frozen_of_row v41 _ 0 _ 24 Hz_v41_4.out
        go_simp
        have h_v42 : (fun w' => Below W.heap.size W w') (((v41.setCell ⟨g29, 0, none⟩ (.int .i64 (cx * 16))).setCell ⟨g29, 1, none⟩ (.int .i64 0)).setCell ⟨g29, 2, none⟩ (.int .i64 (cz * 16))) := G.below_set3 h_v41 Hl_v29_4.out
        have Hz_v42_4 : Hid ((((v41.setCell ⟨g29, 0, none⟩ (.int .i64 (cx * 16))).setCell ⟨g29, 1, none⟩ (.int .i64 0)).setCell ⟨g29, 2, none⟩ (.int .i64 (cz * 16))).heap[g29]? = some (.cells #[.int .i64 (cx * 16), .int .i64 0, .int .i64 (cz * 16)] 24 (0, 0))) := G.set_three Hz_v41_4.out
        have Hz_v42_5 : Hid ((((v41.setCell ⟨g29, 0, none⟩ (.int .i64 (cx * 16))).setCell ⟨g29, 1, none⟩ (.int .i64 0)).setCell ⟨g29, 2, none⟩ (.int .i64 (cz * 16))).heap[g39]? = some (.cells #[.int .i64 0, .int .i64 0, .int .i64 0] 24 (0, 0))) := (Below.heap_setCell _ _ _ _ (Ne.symm Hn_v39_4_5.out)).trans ((Below.heap_setCell _ _ _ _ (Ne.symm Hn_v39_4_5.out)).trans ((Below.heap_setCell _ _ _ _ (Ne.symm Hn_v39_4_5.out)).trans (Hz_v41_5.out)))
        refine hK.out _ _ (fun _ => h_v42) ?_
        clear hK K s0 s1 s2 f0 f1 f2
        generalize ((v41.setCell ⟨g29, 0, none⟩ (.int .i64 (cx * 16))).setCell ⟨g29, 1, none⟩ (.int .i64 0)).setCell ⟨g29, 2, none⟩ (.int .i64 (cz * 16)) = v42 at *
        refine one_L (i := 7) (by kernel_rfl) rfl (fun K hK => ?_)
        have s2 : v42.cell? ⟨g39, 2, none⟩ = some (.int .i64 0) := (cell_of_row v42 _ 2 _ 24 (0, 0) Hz_v42_5.out).trans rfl
        have f2 : v42.frozen? ⟨g39, 2, none⟩ = false := frozen_of_row v42 _ 2 _ 24 Hz_v42_5.out
        have s1 : v42.cell? ⟨g39, 1, none⟩ = some (.int .i64 0) := (cell_of_row v42 _ 1 _ 24 (0, 0) Hz_v42_5.out).trans rfl
        have f1 : v42.frozen? ⟨g39, 1, none⟩ = false := frozen_of_row v42 _ 1 _ 24 Hz_v42_5.out
        have s0 : v42.cell? ⟨g39, 0, none⟩ = some (.int .i64 0) := (cell_of_row v42 _ 0 _ 24 (0, 0) Hz_v42_5.out).trans rfl
        have f0 : v42.frozen? ⟨g39, 0, none⟩ = false := frozen_of_row v42 _ 0 _ 24 Hz_v42_5.out
        go_simp
        have h_v43 : (fun w' => Below W.heap.size W w') (((v42.setCell ⟨g39, 0, none⟩ (.int .i64 (cx * 16 + 15))).setCell ⟨g39, 1, none⟩ (.int .i64 127)).setCell ⟨g39, 2, none⟩ (.int .i64 (cz * 16 + 15))) := G.below_set3 h_v42 Hl_v39_5.out
        have Hz_v43_5 : Hid ((((v42.setCell ⟨g39, 0, none⟩ (.int .i64 (cx * 16 + 15))).setCell ⟨g39, 1, none⟩ (.int .i64 127)).setCell ⟨g39, 2, none⟩ (.int .i64 (cz * 16 + 15))).heap[g39]? = some (.cells #[.int .i64 (cx * 16 + 15), .int .i64 127, .int .i64 (cz * 16 + 15)] 24 (0, 0))) := G.set_three Hz_v42_5.out
        have Hz_v43_4 : Hid ((((v42.setCell ⟨g39, 0, none⟩ (.int .i64 (cx * 16 + 15))).setCell ⟨g39, 1, none⟩ (.int .i64 127)).setCell ⟨g39, 2, none⟩ (.int .i64 (cz * 16 + 15))).heap[g29]? = some (.cells #[.int .i64 (cx * 16), .int .i64 0, .int .i64 (cz * 16)] 24 (0, 0))) := (Below.heap_setCell _ _ _ _ Hn_v39_4_5.out).trans ((Below.heap_setCell _ _ _ _ Hn_v39_4_5.out).trans ((Below.heap_setCell _ _ _ _ Hn_v39_4_5.out).trans (Hz_v42_4.out)))
        refine hK.out _ _ (fun _ => h_v43) ?_
        clear hK K s0 s1 s2 f0 f1 f2
        generalize ((v42.setCell ⟨g39, 0, none⟩ (.int .i64 (cx * 16 + 15))).setCell ⟨g39, 1, none⟩ (.int .i64 127)).setCell ⟨g39, 2, none⟩ (.int .i64 (cz * 16 + 15)) = v43 at *
        refine done_L (by kernel_rfl) ?_ _
        exact ⟨_, _, h_v43, Hz_v43_4.out, Hz_v43_5.out, rfl⟩
    · go_simp
      have h_v44 : (fun w' => Below W.heap.size W w') (v0.alloc (.cells #[.int .i64 0, .int .i64 0, .int .i64 0] 24)) := h_v0.alloc h_v0.size _
      have Hz_v44_5 : Hid ((v0.alloc (.cells #[.int .i64 0, .int .i64 0, .int .i64 0] 24)).heap[v0.heap.size]? = some (.cells #[.int .i64 0, .int .i64 0, .int .i64 0] 24 (0, 0))) := heap_alloc_new v0 _
      have Hl_v44_5 : Hid (W.heap.size ≤ v0.heap.size) := h_v0.size
      refine hK.out _ _ (fun _ => h_v44) ?_
      clear hK K
      generalize v0.alloc (.cells #[.int .i64 0, .int .i64 0, .int .i64 0] 24) = v44 at *
      clear h_v0
      generalize v0.heap.size = g44 at *
      refine two_L (i := 1) (j := 4) (by kernel_rfl) rfl rfl (fun K hK => ?_) (fun K hK => ?_)
      · go_simp
        refine (HC0.out v44).mono ?_
        rintro _ v45 ⟨rfl, hb⟩
        have h_v45 : (fun w' => Below W.heap.size W w') v45 := h_v44.trans (hb.mono h_v44.size)
        have Hz_v45_5 : Hid (v45.heap[g44]? = some (.cells #[.int .i64 0, .int .i64 0, .int .i64 0] 24 (0, 0))) := (hb.block _ (Array.getElem?_eq_some_iff.1 Hz_v44_5.out).1).trans Hz_v44_5.out
        refine hK.out _ _ (fun _ => h_v45) ?_
        clear hK K hb h_v44 Hz_v44_5
        refine two_L (i := 3) (j := 4) (by kernel_rfl) rfl rfl (fun K hK => ?_) (fun K hK => ?_)
        · go_simp
          refine (HC1.out v45).mono ?_
          rintro _ v46 ⟨rfl, hb⟩
          have h_v46 : (fun w' => Below W.heap.size W w') v46 := h_v45.trans (hb.mono h_v45.size)
          have Hz_v46_5 : Hid (v46.heap[g44]? = some (.cells #[.int .i64 0, .int .i64 0, .int .i64 0] 24 (0, 0))) := (hb.block _ (Array.getElem?_eq_some_iff.1 Hz_v45_5.out).1).trans Hz_v45_5.out
          refine hK.out _ _ (fun _ => h_v46) ?_
          clear hK K hb h_v45 Hz_v45_5
          refine one_L (i := 4) (by kernel_rfl) rfl (fun K hK => ?_)
          go_simp
          have h_v47 : (fun w' => Below W.heap.size W w') (v46.alloc (.cells #[.int .i64 0, .int .i64 0, .int .i64 0] 24)) := h_v46.alloc h_v46.size _
          have Hz_v47_4 : Hid ((v46.alloc (.cells #[.int .i64 0, .int .i64 0, .int .i64 0] 24)).heap[v46.heap.size]? = some (.cells #[.int .i64 0, .int .i64 0, .int .i64 0] 24 (0, 0))) := heap_alloc_new v46 _
          have Hz_v47_5 : Hid ((v46.alloc (.cells #[.int .i64 0, .int .i64 0, .int .i64 0] 24)).heap[g44]? = some (.cells #[.int .i64 0, .int .i64 0, .int .i64 0] 24 (0, 0))) := (heap_alloc_old v46 _ (Array.getElem?_eq_some_iff.1 Hz_v46_5.out).1).trans Hz_v46_5.out
          have Hn_v47_5_4 : Hid (g44 ≠ v46.heap.size) := Nat.ne_of_lt (Array.getElem?_eq_some_iff.1 Hz_v46_5.out).1
          have Hl_v47_4 : Hid (W.heap.size ≤ v46.heap.size) := h_v46.size
          refine hK.out _ _ (fun _ => h_v47) ?_
          clear hK K Hz_v46_5
          generalize v46.alloc (.cells #[.int .i64 0, .int .i64 0, .int .i64 0] 24) = v47 at *
          clear h_v46
          generalize v46.heap.size = g47 at *
          refine one_L (i := 6) (by kernel_rfl) rfl (fun K hK => ?_)
          have s2 : v47.cell? ⟨g47, 2, none⟩ = some (.int .i64 0) := (cell_of_row v47 _ 2 _ 24 (0, 0) Hz_v47_4.out).trans rfl
          have f2 : v47.frozen? ⟨g47, 2, none⟩ = false := frozen_of_row v47 _ 2 _ 24 Hz_v47_4.out
          have s1 : v47.cell? ⟨g47, 1, none⟩ = some (.int .i64 0) := (cell_of_row v47 _ 1 _ 24 (0, 0) Hz_v47_4.out).trans rfl
          have f1 : v47.frozen? ⟨g47, 1, none⟩ = false := frozen_of_row v47 _ 1 _ 24 Hz_v47_4.out
          have s0 : v47.cell? ⟨g47, 0, none⟩ = some (.int .i64 0) := (cell_of_row v47 _ 0 _ 24 (0, 0) Hz_v47_4.out).trans rfl
          have f0 : v47.frozen? ⟨g47, 0, none⟩ = false := frozen_of_row v47 _ 0 _ 24 Hz_v47_4.out
          go_simp
          have h_v48 : (fun w' => Below W.heap.size W w') (((v47.setCell ⟨g47, 0, none⟩ (.int .i64 (cx * 16))).setCell ⟨g47, 1, none⟩ (.int .i64 0)).setCell ⟨g47, 2, none⟩ (.int .i64 (cz * 16))) := G.below_set3 h_v47 Hl_v47_4.out
          have Hz_v48_4 : Hid ((((v47.setCell ⟨g47, 0, none⟩ (.int .i64 (cx * 16))).setCell ⟨g47, 1, none⟩ (.int .i64 0)).setCell ⟨g47, 2, none⟩ (.int .i64 (cz * 16))).heap[g47]? = some (.cells #[.int .i64 (cx * 16), .int .i64 0, .int .i64 (cz * 16)] 24 (0, 0))) := G.set_three Hz_v47_4.out
          have Hz_v48_5 : Hid ((((v47.setCell ⟨g47, 0, none⟩ (.int .i64 (cx * 16))).setCell ⟨g47, 1, none⟩ (.int .i64 0)).setCell ⟨g47, 2, none⟩ (.int .i64 (cz * 16))).heap[g44]? = some (.cells #[.int .i64 0, .int .i64 0, .int .i64 0] 24 (0, 0))) := (Below.heap_setCell _ _ _ _ Hn_v47_5_4.out).trans ((Below.heap_setCell _ _ _ _ Hn_v47_5_4.out).trans ((Below.heap_setCell _ _ _ _ Hn_v47_5_4.out).trans (Hz_v47_5.out)))
          refine hK.out _ _ (fun _ => h_v48) ?_
          clear hK K s0 s1 s2 f0 f1 f2
          generalize ((v47.setCell ⟨g47, 0, none⟩ (.int .i64 (cx * 16))).setCell ⟨g47, 1, none⟩ (.int .i64 0)).setCell ⟨g47, 2, none⟩ (.int .i64 (cz * 16)) = v48 at *
          refine one_L (i := 7) (by kernel_rfl) rfl (fun K hK => ?_)
          have s2 : v48.cell? ⟨g44, 2, none⟩ = some (.int .i64 0) := (cell_of_row v48 _ 2 _ 24 (0, 0) Hz_v48_5.out).trans rfl
          have f2 : v48.frozen? ⟨g44, 2, none⟩ = false := frozen_of_row v48 _ 2 _ 24 Hz_v48_5.out
          have s1 : v48.cell? ⟨g44, 1, none⟩ = some (.int .i64 0) := (cell_of_row v48 _ 1 _ 24 (0, 0) Hz_v48_5.out).trans rfl
          have f1 : v48.frozen? ⟨g44, 1, none⟩ = false := frozen_of_row v48 _ 1 _ 24 Hz_v48_5.out
          have s0 : v48.cell? ⟨g44, 0, none⟩ = some (.int .i64 0) := (cell_of_row v48 _ 0 _ 24 (0, 0) Hz_v48_5.out).trans rfl
          have f0 : v48.frozen? ⟨g44, 0, none⟩ = false := frozen_of_row v48 _ 0 _ 24 Hz_v48_5.out
          go_simp
          have h_v49 : (fun w' => Below W.heap.size W w') (((v48.setCell ⟨g44, 0, none⟩ (.int .i64 (cx * 16 + 15))).setCell ⟨g44, 1, none⟩ (.int .i64 127)).setCell ⟨g44, 2, none⟩ (.int .i64 (cz * 16 + 15))) := G.below_set3 h_v48 Hl_v44_5.out
          have Hz_v49_5 : Hid ((((v48.setCell ⟨g44, 0, none⟩ (.int .i64 (cx * 16 + 15))).setCell ⟨g44, 1, none⟩ (.int .i64 127)).setCell ⟨g44, 2, none⟩ (.int .i64 (cz * 16 + 15))).heap[g44]? = some (.cells #[.int .i64 (cx * 16 + 15), .int .i64 127, .int .i64 (cz * 16 + 15)] 24 (0, 0))) := G.set_three Hz_v48_5.out
          have Hz_v49_4 : Hid ((((v48.setCell ⟨g44, 0, none⟩ (.int .i64 (cx * 16 + 15))).setCell ⟨g44, 1, none⟩ (.int .i64 127)).setCell ⟨g44, 2, none⟩ (.int .i64 (cz * 16 + 15))).heap[g47]? = some (.cells #[.int .i64 (cx * 16), .int .i64 0, .int .i64 (cz * 16)] 24 (0, 0))) := (Below.heap_setCell _ _ _ _ (Ne.symm Hn_v47_5_4.out)).trans ((Below.heap_setCell _ _ _ _ (Ne.symm Hn_v47_5_4.out)).trans ((Below.heap_setCell _ _ _ _ (Ne.symm Hn_v47_5_4.out)).trans (Hz_v48_4.out)))
          refine hK.out _ _ (fun _ => h_v49) ?_
          clear hK K s0 s1 s2 f0 f1 f2
          generalize ((v48.setCell ⟨g44, 0, none⟩ (.int .i64 (cx * 16 + 15))).setCell ⟨g44, 1, none⟩ (.int .i64 127)).setCell ⟨g44, 2, none⟩ (.int .i64 (cz * 16 + 15)) = v49 at *
          refine done_L (by kernel_rfl) ?_ _
          exact ⟨_, _, h_v49, Hz_v49_4.out, Hz_v49_5.out, rfl⟩
        · go_simp
          have h_v50 : (fun w' => Below W.heap.size W w') (v45.alloc (.cells #[.int .i64 0, .int .i64 0, .int .i64 0] 24)) := h_v45.alloc h_v45.size _
          have Hz_v50_4 : Hid ((v45.alloc (.cells #[.int .i64 0, .int .i64 0, .int .i64 0] 24)).heap[v45.heap.size]? = some (.cells #[.int .i64 0, .int .i64 0, .int .i64 0] 24 (0, 0))) := heap_alloc_new v45 _
          have Hz_v50_5 : Hid ((v45.alloc (.cells #[.int .i64 0, .int .i64 0, .int .i64 0] 24)).heap[g44]? = some (.cells #[.int .i64 0, .int .i64 0, .int .i64 0] 24 (0, 0))) := (heap_alloc_old v45 _ (Array.getElem?_eq_some_iff.1 Hz_v45_5.out).1).trans Hz_v45_5.out
          have Hn_v50_5_4 : Hid (g44 ≠ v45.heap.size) := Nat.ne_of_lt (Array.getElem?_eq_some_iff.1 Hz_v45_5.out).1
          have Hl_v50_4 : Hid (W.heap.size ≤ v45.heap.size) := h_v45.size
          refine hK.out _ _ (fun _ => h_v50) ?_
          clear hK K Hz_v45_5
          generalize v45.alloc (.cells #[.int .i64 0, .int .i64 0, .int .i64 0] 24) = v50 at *
          clear h_v45
          generalize v45.heap.size = g50 at *
          refine one_L (i := 3) (by kernel_rfl) rfl (fun K hK => ?_)
          go_simp
          refine (HC1.out v50).mono ?_
          rintro _ v51 ⟨rfl, hb⟩
          have h_v51 : (fun w' => Below W.heap.size W w') v51 := h_v50.trans (hb.mono h_v50.size)
          have Hz_v51_5 : Hid (v51.heap[g44]? = some (.cells #[.int .i64 0, .int .i64 0, .int .i64 0] 24 (0, 0))) := (hb.block _ (Array.getElem?_eq_some_iff.1 Hz_v50_5.out).1).trans Hz_v50_5.out
          have Hz_v51_4 : Hid (v51.heap[g50]? = some (.cells #[.int .i64 0, .int .i64 0, .int .i64 0] 24 (0, 0))) := (hb.block _ (Array.getElem?_eq_some_iff.1 Hz_v50_4.out).1).trans Hz_v50_4.out
          refine hK.out _ _ (fun _ => h_v51) ?_
          clear hK K hb h_v50 Hz_v50_5 Hz_v50_4
          refine one_L (i := 6) (by kernel_rfl) rfl (fun K hK => ?_)
          have s2 : v51.cell? ⟨g50, 2, none⟩ = some (.int .i64 0) := (cell_of_row v51 _ 2 _ 24 (0, 0) Hz_v51_4.out).trans rfl
          have f2 : v51.frozen? ⟨g50, 2, none⟩ = false := frozen_of_row v51 _ 2 _ 24 Hz_v51_4.out
          have s1 : v51.cell? ⟨g50, 1, none⟩ = some (.int .i64 0) := (cell_of_row v51 _ 1 _ 24 (0, 0) Hz_v51_4.out).trans rfl
          have f1 : v51.frozen? ⟨g50, 1, none⟩ = false := frozen_of_row v51 _ 1 _ 24 Hz_v51_4.out
          have s0 : v51.cell? ⟨g50, 0, none⟩ = some (.int .i64 0) := (cell_of_row v51 _ 0 _ 24 (0, 0) Hz_v51_4.out).trans rfl
          have f0 : v51.frozen? ⟨g50, 0, none⟩ = false := frozen_of_row v51 _ 0 _ 24 Hz_v51_4.out
          go_simp
          have h_v52 : (fun w' => Below W.heap.size W w') (((v51.setCell ⟨g50, 0, none⟩ (.int .i64 (cx * 16))).setCell ⟨g50, 1, none⟩ (.int .i64 0)).setCell ⟨g50, 2, none⟩ (.int .i64 (cz * 16))) := G.below_set3 h_v51 Hl_v50_4.out
          have Hz_v52_4 : Hid ((((v51.setCell ⟨g50, 0, none⟩ (.int .i64 (cx * 16))).setCell ⟨g50, 1, none⟩ (.int .i64 0)).setCell ⟨g50, 2, none⟩ (.int .i64 (cz * 16))).heap[g50]? = some (.cells #[.int .i64 (cx * 16), .int .i64 0, .int .i64 (cz * 16)] 24 (0, 0))) := G.set_three Hz_v51_4.out
          have Hz_v52_5 : Hid ((((v51.setCell ⟨g50, 0, none⟩ (.int .i64 (cx * 16))).setCell ⟨g50, 1, none⟩ (.int .i64 0)).setCell ⟨g50, 2, none⟩ (.int .i64 (cz * 16))).heap[g44]? = some (.cells #[.int .i64 0, .int .i64 0, .int .i64 0] 24 (0, 0))) := (Below.heap_setCell _ _ _ _ Hn_v50_5_4.out).trans ((Below.heap_setCell _ _ _ _ Hn_v50_5_4.out).trans ((Below.heap_setCell _ _ _ _ Hn_v50_5_4.out).trans (Hz_v51_5.out)))
          refine hK.out _ _ (fun _ => h_v52) ?_
          clear hK K s0 s1 s2 f0 f1 f2
          generalize ((v51.setCell ⟨g50, 0, none⟩ (.int .i64 (cx * 16))).setCell ⟨g50, 1, none⟩ (.int .i64 0)).setCell ⟨g50, 2, none⟩ (.int .i64 (cz * 16)) = v52 at *
          refine one_L (i := 7) (by kernel_rfl) rfl (fun K hK => ?_)
          have s2 : v52.cell? ⟨g44, 2, none⟩ = some (.int .i64 0) := (cell_of_row v52 _ 2 _ 24 (0, 0) Hz_v52_5.out).trans rfl
          have f2 : v52.frozen? ⟨g44, 2, none⟩ = false := frozen_of_row v52 _ 2 _ 24 Hz_v52_5.out
          have s1 : v52.cell? ⟨g44, 1, none⟩ = some (.int .i64 0) := (cell_of_row v52 _ 1 _ 24 (0, 0) Hz_v52_5.out).trans rfl
          have f1 : v52.frozen? ⟨g44, 1, none⟩ = false := frozen_of_row v52 _ 1 _ 24 Hz_v52_5.out
          have s0 : v52.cell? ⟨g44, 0, none⟩ = some (.int .i64 0) := (cell_of_row v52 _ 0 _ 24 (0, 0) Hz_v52_5.out).trans rfl
          have f0 : v52.frozen? ⟨g44, 0, none⟩ = false := frozen_of_row v52 _ 0 _ 24 Hz_v52_5.out
          go_simp
          have h_v53 : (fun w' => Below W.heap.size W w') (((v52.setCell ⟨g44, 0, none⟩ (.int .i64 (cx * 16 + 15))).setCell ⟨g44, 1, none⟩ (.int .i64 127)).setCell ⟨g44, 2, none⟩ (.int .i64 (cz * 16 + 15))) := G.below_set3 h_v52 Hl_v44_5.out
          have Hz_v53_5 : Hid ((((v52.setCell ⟨g44, 0, none⟩ (.int .i64 (cx * 16 + 15))).setCell ⟨g44, 1, none⟩ (.int .i64 127)).setCell ⟨g44, 2, none⟩ (.int .i64 (cz * 16 + 15))).heap[g44]? = some (.cells #[.int .i64 (cx * 16 + 15), .int .i64 127, .int .i64 (cz * 16 + 15)] 24 (0, 0))) := G.set_three Hz_v52_5.out
          have Hz_v53_4 : Hid ((((v52.setCell ⟨g44, 0, none⟩ (.int .i64 (cx * 16 + 15))).setCell ⟨g44, 1, none⟩ (.int .i64 127)).setCell ⟨g44, 2, none⟩ (.int .i64 (cz * 16 + 15))).heap[g50]? = some (.cells #[.int .i64 (cx * 16), .int .i64 0, .int .i64 (cz * 16)] 24 (0, 0))) := (Below.heap_setCell _ _ _ _ (Ne.symm Hn_v50_5_4.out)).trans ((Below.heap_setCell _ _ _ _ (Ne.symm Hn_v50_5_4.out)).trans ((Below.heap_setCell _ _ _ _ (Ne.symm Hn_v50_5_4.out)).trans (Hz_v52_4.out)))
          refine hK.out _ _ (fun _ => h_v53) ?_
          clear hK K s0 s1 s2 f0 f1 f2
          generalize ((v52.setCell ⟨g44, 0, none⟩ (.int .i64 (cx * 16 + 15))).setCell ⟨g44, 1, none⟩ (.int .i64 127)).setCell ⟨g44, 2, none⟩ (.int .i64 (cz * 16 + 15)) = v53 at *
          refine done_L (by kernel_rfl) ?_ _
          exact ⟨_, _, h_v53, Hz_v53_4.out, Hz_v53_5.out, rfl⟩
      · go_simp
        have h_v54 : (fun w' => Below W.heap.size W w') (v44.alloc (.cells #[.int .i64 0, .int .i64 0, .int .i64 0] 24)) := h_v44.alloc h_v44.size _
        have Hz_v54_4 : Hid ((v44.alloc (.cells #[.int .i64 0, .int .i64 0, .int .i64 0] 24)).heap[v44.heap.size]? = some (.cells #[.int .i64 0, .int .i64 0, .int .i64 0] 24 (0, 0))) := heap_alloc_new v44 _
        have Hz_v54_5 : Hid ((v44.alloc (.cells #[.int .i64 0, .int .i64 0, .int .i64 0] 24)).heap[g44]? = some (.cells #[.int .i64 0, .int .i64 0, .int .i64 0] 24 (0, 0))) := (heap_alloc_old v44 _ (Array.getElem?_eq_some_iff.1 Hz_v44_5.out).1).trans Hz_v44_5.out
        have Hn_v54_5_4 : Hid (g44 ≠ v44.heap.size) := Nat.ne_of_lt (Array.getElem?_eq_some_iff.1 Hz_v44_5.out).1
        have Hl_v54_4 : Hid (W.heap.size ≤ v44.heap.size) := h_v44.size
        refine hK.out _ _ (fun _ => h_v54) ?_
        clear hK K Hz_v44_5
        generalize v44.alloc (.cells #[.int .i64 0, .int .i64 0, .int .i64 0] 24) = v54 at *
        clear h_v44
        generalize v44.heap.size = g54 at *
        refine one_L (i := 1) (by kernel_rfl) rfl (fun K hK => ?_)
        go_simp
        refine (HC0.out v54).mono ?_
        rintro _ v55 ⟨rfl, hb⟩
        have h_v55 : (fun w' => Below W.heap.size W w') v55 := h_v54.trans (hb.mono h_v54.size)
        have Hz_v55_5 : Hid (v55.heap[g44]? = some (.cells #[.int .i64 0, .int .i64 0, .int .i64 0] 24 (0, 0))) := (hb.block _ (Array.getElem?_eq_some_iff.1 Hz_v54_5.out).1).trans Hz_v54_5.out
        have Hz_v55_4 : Hid (v55.heap[g54]? = some (.cells #[.int .i64 0, .int .i64 0, .int .i64 0] 24 (0, 0))) := (hb.block _ (Array.getElem?_eq_some_iff.1 Hz_v54_4.out).1).trans Hz_v54_4.out
        refine hK.out _ _ (fun _ => h_v55) ?_
        clear hK K hb h_v54 Hz_v54_5 Hz_v54_4
        refine one_L (i := 3) (by kernel_rfl) rfl (fun K hK => ?_)
        go_simp
        refine (HC1.out v55).mono ?_
        rintro _ v56 ⟨rfl, hb⟩
        have h_v56 : (fun w' => Below W.heap.size W w') v56 := h_v55.trans (hb.mono h_v55.size)
        have Hz_v56_5 : Hid (v56.heap[g44]? = some (.cells #[.int .i64 0, .int .i64 0, .int .i64 0] 24 (0, 0))) := (hb.block _ (Array.getElem?_eq_some_iff.1 Hz_v55_5.out).1).trans Hz_v55_5.out
        have Hz_v56_4 : Hid (v56.heap[g54]? = some (.cells #[.int .i64 0, .int .i64 0, .int .i64 0] 24 (0, 0))) := (hb.block _ (Array.getElem?_eq_some_iff.1 Hz_v55_4.out).1).trans Hz_v55_4.out
        refine hK.out _ _ (fun _ => h_v56) ?_
        clear hK K hb h_v55 Hz_v55_5 Hz_v55_4
        refine one_L (i := 6) (by kernel_rfl) rfl (fun K hK => ?_)
        have s2 : v56.cell? ⟨g54, 2, none⟩ = some (.int .i64 0) := (cell_of_row v56 _ 2 _ 24 (0, 0) Hz_v56_4.out).trans rfl
        have f2 : v56.frozen? ⟨g54, 2, none⟩ = false := frozen_of_row v56 _ 2 _ 24 Hz_v56_4.out
        have s1 : v56.cell? ⟨g54, 1, none⟩ = some (.int .i64 0) := (cell_of_row v56 _ 1 _ 24 (0, 0) Hz_v56_4.out).trans rfl
        have f1 : v56.frozen? ⟨g54, 1, none⟩ = false := frozen_of_row v56 _ 1 _ 24 Hz_v56_4.out
        have s0 : v56.cell? ⟨g54, 0, none⟩ = some (.int .i64 0) := (cell_of_row v56 _ 0 _ 24 (0, 0) Hz_v56_4.out).trans rfl
        have f0 : v56.frozen? ⟨g54, 0, none⟩ = false := frozen_of_row v56 _ 0 _ 24 Hz_v56_4.out
        go_simp
        have h_v57 : (fun w' => Below W.heap.size W w') (((v56.setCell ⟨g54, 0, none⟩ (.int .i64 (cx * 16))).setCell ⟨g54, 1, none⟩ (.int .i64 0)).setCell ⟨g54, 2, none⟩ (.int .i64 (cz * 16))) := G.below_set3 h_v56 Hl_v54_4.out
        have Hz_v57_4 : Hid ((((v56.setCell ⟨g54, 0, none⟩ (.int .i64 (cx * 16))).setCell ⟨g54, 1, none⟩ (.int .i64 0)).setCell ⟨g54, 2, none⟩ (.int .i64 (cz * 16))).heap[g54]? = some (.cells #[.int .i64 (cx * 16), .int .i64 0, .int .i64 (cz * 16)] 24 (0, 0))) := G.set_three Hz_v56_4.out
        have Hz_v57_5 : Hid ((((v56.setCell ⟨g54, 0, none⟩ (.int .i64 (cx * 16))).setCell ⟨g54, 1, none⟩ (.int .i64 0)).setCell ⟨g54, 2, none⟩ (.int .i64 (cz * 16))).heap[g44]? = some (.cells #[.int .i64 0, .int .i64 0, .int .i64 0] 24 (0, 0))) := (Below.heap_setCell _ _ _ _ Hn_v54_5_4.out).trans ((Below.heap_setCell _ _ _ _ Hn_v54_5_4.out).trans ((Below.heap_setCell _ _ _ _ Hn_v54_5_4.out).trans (Hz_v56_5.out)))
        refine hK.out _ _ (fun _ => h_v57) ?_
        clear hK K s0 s1 s2 f0 f1 f2
        generalize ((v56.setCell ⟨g54, 0, none⟩ (.int .i64 (cx * 16))).setCell ⟨g54, 1, none⟩ (.int .i64 0)).setCell ⟨g54, 2, none⟩ (.int .i64 (cz * 16)) = v57 at *
        refine one_L (i := 7) (by kernel_rfl) rfl (fun K hK => ?_)
        have s2 : v57.cell? ⟨g44, 2, none⟩ = some (.int .i64 0) := (cell_of_row v57 _ 2 _ 24 (0, 0) Hz_v57_5.out).trans rfl
        have f2 : v57.frozen? ⟨g44, 2, none⟩ = false := frozen_of_row v57 _ 2 _ 24 Hz_v57_5.out
        have s1 : v57.cell? ⟨g44, 1, none⟩ = some (.int .i64 0) := (cell_of_row v57 _ 1 _ 24 (0, 0) Hz_v57_5.out).trans rfl
        have f1 : v57.frozen? ⟨g44, 1, none⟩ = false := frozen_of_row v57 _ 1 _ 24 Hz_v57_5.out
        have s0 : v57.cell? ⟨g44, 0, none⟩ = some (.int .i64 0) := (cell_of_row v57 _ 0 _ 24 (0, 0) Hz_v57_5.out).trans rfl
        have f0 : v57.frozen? ⟨g44, 0, none⟩ = false := frozen_of_row v57 _ 0 _ 24 Hz_v57_5.out
        go_simp
        have h_v58 : (fun w' => Below W.heap.size W w') (((v57.setCell ⟨g44, 0, none⟩ (.int .i64 (cx * 16 + 15))).setCell ⟨g44, 1, none⟩ (.int .i64 127)).setCell ⟨g44, 2, none⟩ (.int .i64 (cz * 16 + 15))) := G.below_set3 h_v57 Hl_v44_5.out
        have Hz_v58_5 : Hid ((((v57.setCell ⟨g44, 0, none⟩ (.int .i64 (cx * 16 + 15))).setCell ⟨g44, 1, none⟩ (.int .i64 127)).setCell ⟨g44, 2, none⟩ (.int .i64 (cz * 16 + 15))).heap[g44]? = some (.cells #[.int .i64 (cx * 16 + 15), .int .i64 127, .int .i64 (cz * 16 + 15)] 24 (0, 0))) := G.set_three Hz_v57_5.out
        have Hz_v58_4 : Hid ((((v57.setCell ⟨g44, 0, none⟩ (.int .i64 (cx * 16 + 15))).setCell ⟨g44, 1, none⟩ (.int .i64 127)).setCell ⟨g44, 2, none⟩ (.int .i64 (cz * 16 + 15))).heap[g54]? = some (.cells #[.int .i64 (cx * 16), .int .i64 0, .int .i64 (cz * 16)] 24 (0, 0))) := (Below.heap_setCell _ _ _ _ (Ne.symm Hn_v54_5_4.out)).trans ((Below.heap_setCell _ _ _ _ (Ne.symm Hn_v54_5_4.out)).trans ((Below.heap_setCell _ _ _ _ (Ne.symm Hn_v54_5_4.out)).trans (Hz_v57_4.out)))
        refine hK.out _ _ (fun _ => h_v58) ?_
        clear hK K s0 s1 s2 f0 f1 f2
        generalize ((v57.setCell ⟨g44, 0, none⟩ (.int .i64 (cx * 16 + 15))).setCell ⟨g44, 1, none⟩ (.int .i64 127)).setCell ⟨g44, 2, none⟩ (.int .i64 (cz * 16 + 15)) = v58 at *
        refine done_L (by kernel_rfl) ?_ _
        exact ⟨_, _, h_v58, Hz_v58_4.out, Hz_v58_5.out, rfl⟩
  rintro e a' W1 h
  cases e with
  | ret => exact h.elim
  | exit id => exact h.elim
  | goto t => exact h.elim
  | panic ch => exact h.elim
  | outgrown => exact h.elim
  | normal =>
    obtain ⟨g8, g9, hb1, h8, h9, rfl⟩ := h
    have HB1 : Hid (Below w.heap.size w W1) := HBW.out.trans (hb1.mono HBW.out.size)
    have HG1 : Hid (Blk W1 g 68 cs) := HG.out.1.below HB1.out HG.out.2.2.2
    clear c0 c1 hb1 HBW HC0 HC1
    gi_wp2_with (fail)
    refine ⟨trivial, (callsIn_wide.2 (C.copy_c g cs W1 HG1.out HG.out.2.1)).mono ?_⟩
    rintro _ W2 ⟨rfl, hW2⟩
    have hgc : Blk W2 W1.heap.size 68 cs := by rw [hW2]; exact Blk.new W1 68 cs
    have hb2 : Below W1.heap.size W1 W2 := by rw [hW2]; exact (Below.refl _ _).alloc (Nat.le_refl _) _
    have h8' := (hb2.block _ (Array.getElem?_eq_some_iff.1 h8).1).trans h8
    have h9' := (hb2.block _ (Array.getElem?_eq_some_iff.1 h9).1).trans h9
    have HB2 : Hid (Below w.heap.size w W2 ∧ w.heap.size ≤ W1.heap.size) := ⟨HB1.out.trans (hb2.mono HB1.out.size), HB1.out.size⟩
    clear hW2 hb2 h8 h9 HG1 HB1
    generalize W1.heap.size = gc at *
    obtain ⟨W3, hW3⟩ : ∃ W3, W3 = W2.alloc (.cells #[.pointer (some ⟨gc, 0, none⟩)] 35) := ⟨_, rfl⟩
    have hb3 : Below W2.heap.size W2 W3 := by rw [hW3]; exact (Below.refl _ _).alloc (Nat.le_refl _) _
    have h10 : W3.heap[W2.heap.size]? = some (.cells #[.pointer (some ⟨gc, 0, none⟩)] 35 (0, 0)) := by rw [hW3]; exact heap_alloc_new W2 _
    have hgc3 : Blk W3 gc 68 cs := hgc.below hb3 hgc.lt
    have e8 := (hb3.block _ (Array.getElem?_eq_some_iff.1 h8').1).trans h8'
    have e9 := (hb3.block _ (Array.getElem?_eq_some_iff.1 h9').1).trans h9'
    have HB3 : Hid (Below w.heap.size w W3 ∧ w.heap.size ≤ gc) := ⟨HB2.out.1.trans (hb3.mono HB2.out.1.size), HB2.out.2⟩
    have m0 : W3.cell? ⟨g8, 0, none⟩ = some (.int .i64 (cx * 16)) := (cell_of_row W3 _ 0 _ 24 (0, 0) e8).trans rfl
    have m1 : W3.cell? ⟨g8, 1, none⟩ = some (.int .i64 0) := (cell_of_row W3 _ 1 _ 24 (0, 0) e8).trans rfl
    have m2 : W3.cell? ⟨g8, 2, none⟩ = some (.int .i64 (cz * 16)) := (cell_of_row W3 _ 2 _ 24 (0, 0) e8).trans rfl
    have m3 : W3.cell? ⟨g9, 0, none⟩ = some (.int .i64 (cx * 16 + 15)) := (cell_of_row W3 _ 0 _ 24 (0, 0) e9).trans rfl
    have m4 : W3.cell? ⟨g9, 1, none⟩ = some (.int .i64 127) := (cell_of_row W3 _ 1 _ 24 (0, 0) e9).trans rfl
    have m5 : W3.cell? ⟨g9, 2, none⟩ = some (.int .i64 (cz * 16 + 15)) := (cell_of_row W3 _ 2 _ 24 (0, 0) e9).trans rfl
    rw [hW3] at m0 m1 m2 m3 m4 m5
    clear hb3 h8' h9' hgc HB2
    gi_wp2_with (fail)
    rw [← hW3]
    clear hW3 m0 m1 m2 m3 m4 m5
    refine ⟨trivial, (callsIn_wide.2 (HAb.out W3)).mono ?_⟩
    clear HAb
    rintro _ W0 ⟨ga, gb, gs, rfl, hA, hb⟩
    have HB0 : Hid (Below w.heap.size w W0 ∧ w.heap.size ≤ gc) := ⟨HB3.out.1.trans (hb.mono HB3.out.1.size), HB3.out.2⟩
    have hB0 : Blk W0 gc 68 cs := hgc3.below hb hgc3.lt
    have z8 : W0.heap[g8]? = some (.cells #[.int .i64 (cx * 16), .int .i64 0, .int .i64 (cz * 16)] 24 (0, 0)) := (hb.block _ (Array.getElem?_eq_some_iff.1 e8).1).trans e8
    have z10 : W0.heap[W2.heap.size]? = some (.cells #[.pointer (some ⟨gc, 0, none⟩)] 35 (0, 0)) := (hb.block _ (Array.getElem?_eq_some_iff.1 h10).1).trans h10
    have HZ : Hid (W0.heap[g8]? = some (.cells #[.int .i64 (cx * 16), .int .i64 0, .int .i64 (cz * 16)] 24 (0, 0)) ∧ W0.heap[W2.heap.size]? = some (.cells #[.pointer (some ⟨gc, 0, none⟩)] 35 (0, 0)) ∧ g8 ≠ gc ∧ W2.heap.size ≠ gc) :=
      ⟨z8, z10, rows_apart z8 hB0 (by decide), rows_apart z10 hB0 (by decide)⟩
    have HN : Hid (ga ≠ gc ∧ gb ≠ gc ∧ gs ≠ gc) := ⟨rows_apart hA.a hB0 (by decide), rows_apart hA.b hB0 (by decide), rows_apart hA.s hB0 (by decide)⟩
    clear hb e8 e9 h10 hgc3 z8 z10 HB3
    generalize W2.heap.size = g10 at *
    gi_wp2_with (fail)
    have hst := about_stops 8 (by omega) ga gb gs S hS (cx * 2 - 1) (-1) (cz * 2 - 1) (cx * 2 + 2) 16 (cz * 2 + 2) 4 18 4 (by omega) (by omega) (by omega) HQ.out.1 (by omega) HQ.out.2 W0 hA
    have hgcl := hB0.lt
    refine wpIn_rangeFunc_ownH rfl (by decide) (gf := 39) (lb := #[.pointer (some ⟨ga, 0, none⟩), .pointer (some ⟨gb, 0, none⟩), .pointer (some ⟨gs, 0, none⟩)]) rfl trivial (enters_of Try.func39 (by kernel_rfl) rfl)
      hst (fun h k => K3.trans h k) (fun W l o o' _ h ho _ => K3.book W l o o' h ho) (Below.refl _ _) (fun _ => rfl)
      (fun pre W => Grows W0 gc 68 (layV S cx cz cs (og pre)) W)
      (fun _ _ _ => False)
      (grows_own W0 gc 68 _ hgcl)
      (fun _ _ _ _ _ hs _ _ => hs)
      ⟨by rw [show og ([] : List (VN S)) = [] from rfl, layV_nil]; exact hB0, grown_refl _ _⟩
      (fun v a' W => ∃ Bx, (W.heap[Bx]? = some (.cells (vein v.h v.x v.y v.z) 55 (0, 0))) ∧ a' = { tmps := #[.int .u64 (S : Int), .agg #[.int .i64 cx, .int .i64 cz], .pointer (some ⟨g, 0, none⟩), undef, Value.pointer (some { block := w.heap.size, off := 0 }), undef, .pointer none, .int .i64 0, .pointer (some ⟨g8, 0, none⟩), .pointer (some ⟨g9, 0, none⟩), .pointer (some ⟨g10, 0, none⟩), .pointer (some ⟨Bx, 0, none⟩), .pointer (some ⟨g, 0, none⟩), .bool false, .agg #[.int .i64 cx, .int .i64 cz], .agg #[.int .i64 (cx * 16), .int .i64 0, .int .i64 (cz * 16)], .agg #[.int .i64 cx, .int .i64 cz], .agg #[.int .i64 (cx * 16 + 15), .int .i64 127, .int .i64 (cz * 16 + 15)], .pointer (some ⟨g, 0, none⟩), .pointer (some ⟨gc, 0, none⟩), .int .u64 (S : Int), .agg #[.int .i64 (cx * 16), .int .i64 0, .int .i64 (cz * 16)], .agg #[.int .i64 (cx * 16 + 15), .int .i64 127, .int .i64 (cz * 16 + 15)], Value.func (Fn.func 39) #[] #[.pointer (some ⟨ga, 0, none⟩), .pointer (some ⟨gb, 0, none⟩), .pointer (some ⟨gs, 0, none⟩)], v.val, undef, undef, undef, undef, undef, undef], defers := [] })
      (fun x a' _ X Y row hs hg hr => by
        obtain ⟨Bx, h1, h2⟩ := hs
        exact ⟨Bx, cells_kept hg hr h1, h2⟩)
      ?assign ?body ?done ?stop
    case assign =>
      rintro l pre v W K ⟨hB, hg⟩ hK
      have hbA : Below W.heap.size W (W.alloc (.cells (vein v.h v.x v.y v.z) 55)) := (Below.refl _ W).alloc (Nat.le_refl _) _
      have HX : Hid (KeepsFrom W0.heap.size W (W.alloc (.cells (vein v.h v.x v.y v.z) 55)) ∧ K3 ga gb gs W (W.alloc (.cells (vein v.h v.x v.y v.z) 55)) ∧ Grows W0 gc 68 (layV S cx cz cs (og pre)) (W.alloc (.cells (vein v.h v.x v.y v.z) 55))) :=
        ⟨(KeepsOthers.alloc _ _).from _, K3.below hbA, hB.below hbA hB.lt, grown_trans hg (grown_of_below hbA)⟩
      have HNw : Hid ((W.alloc (.cells (vein v.h v.x v.y v.z) 55)).heap[W.heap.size]? = some (.cells (vein v.h v.x v.y v.z) 55 (0, 0))) := heap_alloc_new W _
      have HK : Hid (∀ a' W', _ → _ → _ → _ → K a' W') := hK
      clear hK hB hg hbA
      dsimp only [VN.val]
      unfold vein at HX HNw ⊢
      gi_wp2
      exact HK.out _ _ HX.out.1 HX.out.2.1 HX.out.2.2 ⟨W.heap.size, HNw.out, rfl⟩
    case body =>
      rintro l pre v a' W _ _ ⟨hB, hg⟩ ⟨Bx, hP, rfl⟩ _
      have hvf := v.far
      have HE : Hid (∀ W3 cs', W.grownBy W3 (some gc) → Blk W3 gc 68 cs' → cs' = layO S cx cz (layV S cx cz cs (og pre)) ⟨v.x, v.y, v.z⟩ → KeepsFrom W0.heap.size W W3 ∧ K3 ga gb gs W W3 ∧ Grows W0 gc 68 (layV S cx cz cs (og (pre ++ [v]))) W3) := fun W3 cs' h1 h2 h3 =>
        ⟨(KA.grown h1 hgcl).keeps, fun k ck tk fk hk ho => (h1.block k (Array.getElem?_eq_some_iff.1 ho).1 (fun e => by
          have e' : k = gc := by cases e; rfl
          rcases hk with e2 | e2 | e2
          · exact HN.out.1 (e2.symm.trans e')
          · exact HN.out.2.1 (e2.symm.trans e')
          · exact HN.out.2.2 (e2.symm.trans e'))).trans ho, by rw [og_snoc, layV_snoc, ← h3]; exact h2, grown_trans hg h1⟩
      have HLy : Hid (∀ W1, W.grownBy W1 none → Calls Try.prog 31 #[.pointer (some ⟨gc, 0, none⟩), .agg #[.int .i64 cx, .int .i64 cz], .agg #[.int .i64 (vOre v.h), .int .i64 (vX v.h v.x), .int .i64 (vY v.h v.y), .int .i64 (vZ v.h v.z), .int .i64 (vReach v.h)]] W1 fun e w' => e = .returned (.tuple #[]) ∧ Blk w' gc 68 (layO S cx cz (layV S cx cz cs (og pre)) ⟨v.x, v.y, v.z⟩) ∧ W1.grownBy w' (some gc)) := fun W1 hb =>
        lay_c gc cx cz (vOre v.h) (vX v.h v.x) (vY v.h v.y) (vZ v.h v.z) (vReach v.h) (layV S cx cz cs (og pre)) W1 ((hb.block _ hB.lt (by simp)).trans hB) (layV_len S cx cz _ cs HG.out.2.1) (layV_kinds S cx cz _ cs HG.out.2.2.1) (vOre_kind _) (vReach_bd _) hvf.1 hvf.2.1 hvf.2.2
      have hP' := hP
      dsimp only [VN.val]
      unfold vein at hP ⊢
      have n8 := grown_cells hg HZ.out.1 HZ.out.2.2.1
      have n10 := grown_cells hg HZ.out.2.1 HZ.out.2.2.2
      have hPc : Bx ≠ gc := rows_apart hP hB (by decide)
      clear hvf hP' HG
      generalize layO S cx cz (layV S cx cz cs (og pre)) ⟨v.x, v.y, v.z⟩ = M' at *
      generalize vOre v.h = mo at *
      generalize vX v.h v.x = mx at *
      generalize vY v.h v.y = my at *
      generalize vZ v.h v.z = mz at *
      generalize vReach v.h = mr at *
      gi_wp2_with (fail)
      refine region_round_L (fun w' => W.grownBy w' (some gc)) 20 (by kernel_rfl) (by kernel_rfl) (by rintro ⟨_, _, h⟩; exact h) ?_
      have hd0 : W.grownBy W.drew none := ⟨rfl, rfl, rfl, Nat.le_refl _, fun _ _ _ => rfl⟩
      have hHeld : (fun w' => W.grownBy w' (some gc)) W.drew := grown_of_below (Below.refl _ W).drew
      generalize W.drew = va at *
      have hne : Nonempty (Sub (fun w' => W.grownBy w' (some gc))) := ⟨⟨_, hHeld⟩⟩
      have k0 : ∀ s : Sub (fun w' => W.grownBy w' (some gc)), s.w.cell? ⟨g10, 0, none⟩ = some (.pointer (some ⟨gc, 0, none⟩)) := fun s => (cell_of_row s.w _ 0 _ 35 (0, 0) (grown_cells s.ok n10 HZ.out.2.2.2)).trans rfl
      have k1 : ∀ s : Sub (fun w' => W.grownBy w' (some gc)), s.w.cell? ⟨g8, 0, none⟩ = some (.int .i64 (cx * 16)) := fun s => (cell_of_row s.w _ 0 _ 24 (0, 0) (grown_cells s.ok n8 HZ.out.2.2.1)).trans rfl
      have k2 : ∀ s : Sub (fun w' => W.grownBy w' (some gc)), s.w.cell? ⟨g8, 1, none⟩ = some (.int .i64 0) := fun s => (cell_of_row s.w _ 1 _ 24 (0, 0) (grown_cells s.ok n8 HZ.out.2.2.1)).trans rfl
      have k3 : ∀ s : Sub (fun w' => W.grownBy w' (some gc)), s.w.cell? ⟨g8, 2, none⟩ = some (.int .i64 (cz * 16)) := fun s => (cell_of_row s.w _ 2 _ 24 (0, 0) (grown_cells s.ok n8 HZ.out.2.2.1)).trans rfl
      have y0 : ∀ s : Sub (fun w' => W.grownBy w' (some gc)), s.w.cell? ⟨Bx, 0, none⟩ = some (.int .i64 mo) := fun s => (cell_of_row s.w _ 0 _ 55 (0, 0) (grown_cells s.ok hP hPc)).trans rfl
      have y1 : ∀ s : Sub (fun w' => W.grownBy w' (some gc)), s.w.cell? ⟨Bx, 1, none⟩ = some (.int .i64 mx) := fun s => (cell_of_row s.w _ 1 _ 55 (0, 0) (grown_cells s.ok hP hPc)).trans rfl
      have y2 : ∀ s : Sub (fun w' => W.grownBy w' (some gc)), s.w.cell? ⟨Bx, 2, none⟩ = some (.int .i64 my) := fun s => (cell_of_row s.w _ 2 _ 55 (0, 0) (grown_cells s.ok hP hPc)).trans rfl
      have y3 : ∀ s : Sub (fun w' => W.grownBy w' (some gc)), s.w.cell? ⟨Bx, 3, none⟩ = some (.int .i64 mz) := fun s => (cell_of_row s.w _ 3 _ 55 (0, 0) (grown_cells s.ok hP hPc)).trans rfl
      have y4 : ∀ s : Sub (fun w' => W.grownBy w' (some gc)), s.w.cell? ⟨Bx, 4, none⟩ = some (.int .i64 mr) := fun s => (cell_of_row s.w _ 4 _ 55 (0, 0) (grown_cells s.ok hP hPc)).trans rfl
      refine take_L (i := 0) rfl (by kernel_rfl) (by kernel_rfl) (by kernel_rfl) (by kernel_rfl) (fun _ _ _ _ h => h) (by exact hHeld) (fun K hK => ?_)
      go_simp
      refine hK _ ?_
      clear hK K
      refine take_L (i := 1) rfl (by kernel_rfl) (by kernel_rfl) (by kernel_rfl) (by kernel_rfl) (fun _ _ _ _ h => h) (by exact hHeld) (fun K hK => ?_)
      go_simp
      refine hK _ ?_
      clear hK K
      refine take_L (i := 3) rfl (by kernel_rfl) (by kernel_rfl) (by kernel_rfl) (by kernel_rfl) (fun _ _ _ _ h => h) (by exact hHeld) (fun K hK => ?_)
      go_simp
      refine hK _ ?_
      clear hK K
      refine one_L (i := 2) (by kernel_rfl) rfl (fun K hK => ?_)
      go_simp
      refine (HCh.out va).mono ?_
      rintro _ vb ⟨rfl, hb⟩
      have hd1 : W.grownBy vb none := ⟨hb.os.trans hd0.os, hb.tape.trans hd0.tape, hb.output.trans hd0.output, Nat.le_trans hd0.size hb.size, fun k hk hn => (hb.block k (Nat.lt_of_lt_of_le hk hd0.size)).trans (hd0.block k hk hn)⟩
      have hHeld1 : (fun w' => W.grownBy w' (some gc)) vb := grown_trans hHeld (grown_of_below hb)
      refine hK.out _ _ (fun _ => hHeld1) ?_
      clear hK K hb hHeld hd0
      refine one_L (i := 4) (by kernel_rfl) rfl (fun K hK => ?_)
      go_simp
      refine (HLy.out vb hd1).mono ?_
      rintro _ vc ⟨rfl, hbc, hgc⟩
      have hHeld2 : (fun w' => W.grownBy w' (some gc)) vc := grown_trans hHeld1 hgc
      have HE3 : Hid _ := HE.out vc _ hHeld2 hbc rfl
      refine hK.out _ _ (fun _ => hHeld2) ?_
      clear hK K hHeld1 hHeld2 hgc hbc HE HLy hd1 k0 k1 k2 k3 y0 y1 y2 y3 y4 hne
      refine done_L (by kernel_rfl) ?_ _
      gi_wp2
      exact HE3.out
    case done =>
      rintro D ys W hD hq ⟨hB, hg⟩ hK
      have hap : layV S cx cz cs (og ys) = applyN S cx cz cs := layV_all HG.out.2.1 hq
      rw [hap] at hB
      have n10 := grown_cells hg HZ.out.2.1 HZ.out.2.2.2
      have q0 : W.cell? ⟨g10, 0, none⟩ = some (.pointer (some ⟨gc, 0, none⟩)) := (cell_of_row W _ 0 _ 35 (0, 0) n10).trans rfl
      have hbw : Below w.heap.size w (W.putObj D (.deferred none)) := by
        have h0 := HB0.out.1
        have hle := HB0.out.2
        refine ⟨hg.os.trans h0.os, hg.tape.trans h0.tape, hg.output.trans h0.output, by have := hg.size; have := h0.size; simp; omega, fun k hk => ?_⟩
        have hs := h0.size
        exact (World.putObj_heap_other (by omega)).trans ((hg.block k (by omega) (fun e => by have : k = gc := (by cases e; rfl); omega)).trans (h0.block k hk))
      have R := HP.out gc _ hbw ((World.putObj_heap_other (by omega)).trans hB)
      clear HP hap hB hg hbw n10 hq HZ HN HB0
      gi_wp2
      refine ⟨by simp, .inl ⟨_, _, rfl, run_takeDeferred hK, ?_⟩⟩
      exact ⟨_, results_tmp2 (t := 6) (u := 7) rfl _ _ _, R⟩
    case stop =>
      rintro D c pre W _ _ h _
      exact h.elim
end Go.Proofs.Ytbcadklodjdokaa
