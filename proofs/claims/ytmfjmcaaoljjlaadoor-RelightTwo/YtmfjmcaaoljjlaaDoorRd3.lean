/-
  The landed due: what a cell has of its own, or of those about it.
-/
import Derived.Test.YtmfjmcaaoljjlaaDoorRd2
import Derived.Test.YtmfjmcaaoljjlaaDoorRs
import Derived.Test.YtmfjmcaaoljjlaaDoorRtl
set_option maxRecDepth 20000
namespace Go.Proofs.YtmfjmcaaoljjlaaDoor
open C Go.RowKit L
attribute [local go_sem] Oper.semAt_some

set_option maxRecDepth 1000000 in
set_option maxHeartbeats 8000000 in
theorem due_sky (e : LE) (o : LO e) (hsky : e.sky = true) (ls : List Int) (hll : ls.length = e.n) (hlv : Lv ls) (i : Nat) (hi : i < e.n) (w : World) (hM : LM e w) (hp : Pre w e.g 5 ls) :
    Calls Tryd.prog 28 #[.pointer (some ⟨e.q, e.o, none⟩), .int .i64 (i : Int)] w fun x w' => ∃ v : Nat, x = .returned (.int .i64 (v : Int)) ∧ Due (e.sys o.bx) (li ls) (nbl e.W e.D e.T i) i v ∧ Below w.heap.size w w' := by
  obtain ⟨Post, hPost⟩ : ∃ Post : Ending → World → Prop, Post = fun x w' => ∃ v : Nat, x = .returned (.int .i64 (v : Int)) ∧ Due (e.sys o.bx) (li ls) (nbl e.W e.D e.T i) i v ∧ Below w.heap.size w w' := ⟨_, rfl⟩
  rw [← hPost]
  have HP0 : Hid (∀ (v : Nat) w', Due (e.sys o.bx) (li ls) (nbl e.W e.D e.T i) i v → Below w.heap.size w w' → Post (.returned (.int .i64 (v : Int))) w') := fun v w' h1 h2 => by rw [hPost]; exact ⟨v, rfl, h1, h2⟩
  clear hPost
  have HB0 : Hid (Below w.heap.size w (w.alloc (.cells #[.pointer (some ⟨e.q, e.o, none⟩)] 67))) := (Below.refl _ _).alloc (Nat.le_refl _) _
  have hbx0 := heap_alloc_new w (.cells #[.pointer (some ⟨e.q, e.o, none⟩)] 67)
  have hsrc : e.src = .iface 57 (.agg #[.pointer (some ⟨e.p, 0, none⟩)]) := by unfold LE.src; rw [hsky]; rfl
  have hsys : (e.sys o.bx).src i = skyN e.W e.D e.T (fun j => e.ks.getD j 0) i := by rw [sys_src, hsky]; rfl
  have HM0 : Hid (LM e w ∧ Pre w e.g 5 ls) := ⟨hM, hp⟩
  have HS : Hid (LO e ∧ ls.length = e.n ∧ Lv ls ∧ i < e.n) := ⟨o, hll, hlv, hi⟩
  clear hM hp hll hlv hi hsky
  go_enter Tryd.func28, Tryd.ntmps28
  go_wp2_with fail
  obtain ⟨w1, hw1⟩ : ∃ w1, w.alloc (.cells #[.pointer (some ⟨e.q, e.o, none⟩)] 67) = w1 := ⟨_, rfl⟩
  rw [hw1] at HB0 hbx0 ⊢
  have HBX : Hid (w1.heap[w.heap.size]? = some (.cells #[.pointer (some ⟨e.q, e.o, none⟩)] 67 (0, 0)) ∧ w.heap.size < w1.heap.size) := ⟨hbx0, (Array.getElem?_eq_some_iff.1 hbx0).1⟩
  clear hbx0 hw1
  obtain ⟨bx, hbx⟩ : ∃ bx, w.heap.size = bx := ⟨_, rfl⟩
  rw [hbx] at HBX ⊢
  refine region_L (fun W => Below w1.drew.heap.size w1.drew W) 15 (by kernel_rfl) ?_
  obtain ⟨va, hva⟩ : ∃ va, w1.drew = va := ⟨_, rfl⟩
  have hd : Below w1.heap.size w1 va := by rw [← hva]; exact (Below.refl _ w1).drew
  have HBv : Hid (Below w.heap.size w va) := HB0.out.trans (hd.mono HB0.out.size)
  have HBxv : Hid (va.heap[bx]? = some (.cells #[.pointer (some ⟨e.q, e.o, none⟩)] 67 (0, 0)) ∧ bx < va.heap.size) := ⟨(hd.block _ HBX.out.2).trans HBX.out.1, Nat.lt_of_lt_of_le HBX.out.2 hd.size⟩
  rw [hva]
  clear hva hd HBX HB0 hbx
  have h_va : (fun W => Below va.heap.size va W) va := Below.refl _ _
  have hMv : LM e va := HM0.out.1.on HBv.out
  have HMv : Hid (LM e va ∧ Pre va e.g 5 ls) := ⟨hMv, HM0.out.2.on HBv.out⟩
  have y0 : va.cell? ⟨bx, 0, none⟩ = some (.pointer (some ⟨e.q, e.o, none⟩)) := (cell_of_row va bx 0 _ 67 (0, 0) HBxv.out.1).trans rfl
  have y1 := hMv.l0
  have y2 := hMv.l1
  rw [hsrc] at y2
  have hne : Nonempty (Sub (fun W => Below va.heap.size va W)) := ⟨⟨_, h_va⟩⟩
  have k0 : ∀ s : Sub (fun W => Below va.heap.size va W), s.w.cell? ⟨bx, 0, none⟩ = some (.pointer (some ⟨e.q, e.o, none⟩)) := fun s => cell_below y0 s.ok
  have k1 : ∀ s : Sub (fun W => Below va.heap.size va W), s.w.cell? ⟨e.q, e.o, none⟩ = some (.pointer (some ⟨e.p, 0, none⟩)) := fun s => cell_below y1 s.ok
  have k2 : ∀ s : Sub (fun W => Below va.heap.size va W), s.w.cell? ⟨e.q, e.o + 1, none⟩ = some (.iface 57 (.agg #[.pointer (some ⟨e.p, 0, none⟩)])) := fun s => cell_below y2 s.ok
  obtain ⟨s0v, hs0⟩ : ∃ x, (e.sys o.bx).src i = x := ⟨_, rfl⟩
  obtain ⟨lv, hlvv⟩ : ∃ x, lossF (e.ks.getD i 0) = x := ⟨_, rfl⟩
  have HC1 : Hid (∀ W, Below va.heap.size va W → Calls Tryd.prog 64 #[.agg #[.pointer (some ⟨e.p, 0, none⟩)], .int .i64 (i : Int)] W fun x w' => x = .returned (.int .i64 (s0v : Int)) ∧ Below W.heap.size W w') := fun W hW => by
    have := sky_c e HS.out.1 i HS.out.2.2.2 W (HMv.out.1.on hW).bm
    rwa [← hsys, hs0] at this
  have HC2 : Hid (∀ W, Below va.heap.size va W → Calls Tryd.prog 31 #[.pointer (some ⟨e.p, 0, none⟩), .int .i64 (i : Int)] W fun x w' => x = .returned (.int .i64 (lv : Int)) ∧ Below W.heap.size W w') := fun W hW => by
    have := loss_c e HS.out.1 i HS.out.2.2.2 W (HMv.out.1.on hW).bm
    rwa [hlvv] at this
  have HR : Hid (∀ W g5 g6, Below va.heap.size va W → va.heap.size ≤ g5 → g5 ≠ g6 → W.heap[g5]? = some (.cells #[.int .i64 (s0v : Int)] 3 (0, 0)) → W.heap[g6]? = some (.cells #[.int .i64 (lv : Int)] 3 (0, 0)) → Calls Tryd.prog 29 #[.pointer (some ⟨e.p, 0, none⟩), .int .i64 (i : Int), .func (.func 41) #[] #[.pointer (some ⟨g5, 0, none⟩), .pointer (some ⟨bx, 0, none⟩), .pointer (some ⟨g6, 0, none⟩)]] W fun x w' =>
      x = .returned (.tuple #[]) ∧ ∃ v : Nat, Due (e.sys o.bx) (li ls) (nbl e.W e.D e.T i) i v ∧ w'.cell? ⟨g5, 0, none⟩ = some (.int .i64 (v : Int)) ∧ Below va.heap.size va w') := fun W g5 g6 hW n5 n6 h5 h6 =>
    due2_c e HS.out.1 ls HS.out.2.1 HS.out.2.2.1 i HS.out.2.2.2 g5 bx g6 va W HMv.out.1 HMv.out.2 hW n5 n6 (by have := HBxv.out.2; omega) (by rw [hs0]; exact h5) (by rw [hlvv]; exact h6) ((hW.block _ HBxv.out.2).trans HBxv.out.1)
  have HP : Hid (∀ (v : Nat) w', Due (e.sys o.bx) (li ls) (nbl e.W e.D e.T i) i v → Below va.heap.size va w' → Post (.returned (.int .i64 (v : Int))) w') := fun v w' h1 h2 => HP0.out v w' h1 (HBv.out.trans (h2.mono HBv.out.size))
  clear hs0 hlvv hsys hMv HMv HBxv HBv HM0 HP0 HS hsrc
  refine (?_ : ∀ vs, Below va.heap.size va vs → wpAnyL Tryd.prog .any _ _ (fun W => Below va.heap.size va W) 15 _ _ _ vs) va (Below.refl _ _)
  intro vs h_vs
  refine take_L (i := 0) rfl (by kernel_rfl) (by kernel_rfl) (by kernel_rfl) (by kernel_rfl) (fun _ _ _ _ h => h) (by exact h_vs) (fun K hK => ?_)
  go_simp
  refine hK _ ?_
  clear hK K
  refine take_L (i := 1) rfl (by kernel_rfl) (by kernel_rfl) (by kernel_rfl) (by kernel_rfl) (fun _ _ _ _ h => h) (by exact h_vs) (fun K hK => ?_)
  go_simp
  refine hK _ ?_
  clear hK K
  refine take_L (i := 2) rfl (by kernel_rfl) (by kernel_rfl) (by kernel_rfl) (by kernel_rfl) (fun _ _ _ _ h => h) (by exact h_vs) (fun K hK => ?_)
  go_simp
  refine hK _ ?_
  clear hK K
  refine take_L (i := 3) rfl (by kernel_rfl) (by kernel_rfl) (by kernel_rfl) (by kernel_rfl) (fun _ _ _ _ h => h) (by exact h_vs) (fun K hK => ?_)
  go_simp
  refine hK _ ?_
  clear hK K
  refine take_L (i := 4) rfl (by kernel_rfl) (by kernel_rfl) (by kernel_rfl) (by kernel_rfl) (fun _ _ _ _ h => h) (by exact h_vs) (fun K hK => ?_)
  go_simp
  refine hK _ ?_
  clear hK K
  refine take_L (i := 6) rfl (by kernel_rfl) (by kernel_rfl) (by kernel_rfl) (by kernel_rfl) (fun _ _ _ _ h => h) (by exact h_vs) (fun K hK => ?_)
  go_simp
  refine hK _ ?_
  clear hK K
  refine take_L (i := 7) rfl (by kernel_rfl) (by kernel_rfl) (by kernel_rfl) (by kernel_rfl) (fun _ _ _ _ h => h) (by exact h_vs) (fun K hK => ?_)
  go_simp
  refine hK _ ?_
  clear hK K
  refine take_L (i := 8) rfl (by kernel_rfl) (by kernel_rfl) (by kernel_rfl) (by kernel_rfl) (fun _ _ _ _ h => h) (by exact h_vs) (fun K hK => ?_)
  go_simp
  refine hK _ ?_
  clear hK K
  refine take_L (i := 9) rfl (by kernel_rfl) (by kernel_rfl) (by kernel_rfl) (by kernel_rfl) (fun _ _ _ _ h => h) (by exact h_vs) (fun K hK => ?_)
  go_simp
  refine hK _ ?_
  clear hK K
  refine take_L (i := 10) rfl (by kernel_rfl) (by kernel_rfl) (by kernel_rfl) (by kernel_rfl) (fun _ _ _ _ h => h) (by exact h_vs) (fun K hK => ?_)
  go_simp
  refine hK _ ?_
  clear hK K
  refine three_L (i := 5) (j := 12) (k := 13) (by kernel_rfl) rfl rfl rfl (fun K hK => ?_) (fun K hK => ?_) (fun K hK => ?_)
  · go_simp
    go_invoke
    go_simp
    refine (HC1.out vs h_vs).mono ?_
    rintro _ v1 ⟨rfl, hb⟩
    have h_v1 : (fun W => Below va.heap.size va W) v1 := h_vs.trans (hb.mono h_vs.size)
    refine hK.out _ _ (fun _ => h_v1) ?_
    clear hK K hb h_vs
    refine three_L (i := 11) (j := 12) (k := 13) (by kernel_rfl) rfl rfl rfl (fun K hK => ?_) (fun K hK => ?_) (fun K hK => ?_)
    · go_simp
      refine (HC2.out v1 h_v1).mono ?_
      rintro _ v2 ⟨rfl, hb⟩
      have h_v2 : (fun W => Below va.heap.size va W) v2 := h_v1.trans (hb.mono h_v1.size)
      refine hK.out _ _ (fun _ => h_v2) ?_
      clear hK K hb h_v1
      refine two_L (i := 12) (j := 13) (by kernel_rfl) rfl rfl (fun K hK => ?_) (fun K hK => ?_)
      · go_simp
        have h_v3 : (fun W => Below va.heap.size va W) (v2.alloc (.cells #[.int .i64 0] 3)) := h_v2.alloc h_v2.size _
        have Hz_v3_12 : Hid ((v2.alloc (.cells #[.int .i64 0] 3)).heap[v2.heap.size]? = some (.cells #[.int .i64 0] 3 (0, 0))) := heap_alloc_new v2 _
        have Hl_v3_12 : Hid (va.heap.size ≤ v2.heap.size) := h_v2.size
        refine hK.out _ _ (fun _ => h_v3) ?_
        clear hK K
        generalize v2.alloc (.cells #[.int .i64 0] 3) = v3 at *
        clear h_v2
        generalize v2.heap.size = g3 at *
        refine one_L (i := 13) (by kernel_rfl) rfl (fun K hK => ?_)
        go_simp
        have h_v4 : (fun W => Below va.heap.size va W) (v3.alloc (.cells #[.int .i64 0] 3)) := h_v3.alloc h_v3.size _
        have Hz_v4_13 : Hid ((v3.alloc (.cells #[.int .i64 0] 3)).heap[v3.heap.size]? = some (.cells #[.int .i64 0] 3 (0, 0))) := heap_alloc_new v3 _
        have Hz_v4_12 : Hid ((v3.alloc (.cells #[.int .i64 0] 3)).heap[g3]? = some (.cells #[.int .i64 0] 3 (0, 0))) := (heap_alloc_old v3 _ (Array.getElem?_eq_some_iff.1 Hz_v3_12.out).1).trans Hz_v3_12.out
        have Hn_v4_12_13 : Hid (g3 ≠ v3.heap.size) := Nat.ne_of_lt (Array.getElem?_eq_some_iff.1 Hz_v3_12.out).1
        have Hl_v4_13 : Hid (va.heap.size ≤ v3.heap.size) := h_v3.size
        refine hK.out _ _ (fun _ => h_v4) ?_
        clear hK K Hz_v3_12
        generalize v3.alloc (.cells #[.int .i64 0] 3) = v4 at *
        clear h_v3
        generalize v3.heap.size = g4 at *
        refine one_L (i := 14) (by kernel_rfl) rfl (fun K hK => ?_)
        have s0 : v4.cell? ⟨g3, 0, none⟩ = some (.int .i64 0) := (cell_of_row v4 _ 0 _ 3 (0, 0) Hz_v4_12.out).trans rfl
        have f0 : v4.frozen? ⟨g3, 0, none⟩ = false := frozen_of_row v4 _ 0 _ 3 Hz_v4_12.out
        go_simp
        have h_v5 : (fun W => Below va.heap.size va W) (v4.setCell ⟨g3, 0, none⟩ (.int .i64 (s0v : Int))) := h_v4.setCell (p := ⟨g3, 0, none⟩) Hl_v3_12.out _
        have Hz_v5_12 : Hid ((v4.setCell ⟨g3, 0, none⟩ (.int .i64 (s0v : Int))).heap[g3]? = some (.cells #[.int .i64 (s0v : Int)] 3 (0, 0))) := heap_setCell_same v4 g3 0 _ 3 _ Hz_v4_12.out
        have Hz_v5_13 : Hid ((v4.setCell ⟨g3, 0, none⟩ (.int .i64 (s0v : Int))).heap[g4]? = some (.cells #[.int .i64 0] 3 (0, 0))) := (Below.heap_setCell _ _ _ _ (Ne.symm Hn_v4_12_13.out)).trans Hz_v4_13.out
        refine hK.out _ _ (fun _ => h_v5) ?_
        clear hK K s0 f0 h_v4 Hz_v4_12 Hz_v4_13
        generalize v4.setCell ⟨g3, 0, none⟩ (.int .i64 (s0v : Int)) = v5 at *
        refine one_L (i := 15) (by kernel_rfl) rfl (fun K hK => ?_)
        have s0 : v5.cell? ⟨g4, 0, none⟩ = some (.int .i64 0) := (cell_of_row v5 _ 0 _ 3 (0, 0) Hz_v5_13.out).trans rfl
        have f0 : v5.frozen? ⟨g4, 0, none⟩ = false := frozen_of_row v5 _ 0 _ 3 Hz_v5_13.out
        go_simp
        have h_v6 : (fun W => Below va.heap.size va W) (v5.setCell ⟨g4, 0, none⟩ (.int .i64 (lv : Int))) := h_v5.setCell (p := ⟨g4, 0, none⟩) Hl_v4_13.out _
        have Hz_v6_13 : Hid ((v5.setCell ⟨g4, 0, none⟩ (.int .i64 (lv : Int))).heap[g4]? = some (.cells #[.int .i64 (lv : Int)] 3 (0, 0))) := heap_setCell_same v5 g4 0 _ 3 _ Hz_v5_13.out
        have Hz_v6_12 : Hid ((v5.setCell ⟨g4, 0, none⟩ (.int .i64 (lv : Int))).heap[g3]? = some (.cells #[.int .i64 (s0v : Int)] 3 (0, 0))) := (Below.heap_setCell _ _ _ _ Hn_v4_12_13.out).trans Hz_v5_12.out
        refine hK.out _ _ (fun _ => h_v6) ?_
        clear hK K s0 f0 h_v5 Hz_v5_12 Hz_v5_13
        generalize v5.setCell ⟨g4, 0, none⟩ (.int .i64 (lv : Int)) = v6 at *
        refine done_L (by kernel_rfl) ?_ _
        have hc := HR.out v6 g3 g4 h_v6 Hl_v3_12.out (Hn_v4_12_13.out) Hz_v6_12.out Hz_v6_13.out
        have xb := cell_below y0 h_v6
        have xp := cell_below y1 h_v6
        clear HR HC1 HC2 h_v6 Hz_v6_12 Hz_v6_13 y0 y1 y2 k0 k1 k2 hne
        go_wp2_with fail
        refine hc.mono ?_
        rintro _ w9 ⟨rfl, v, hd, hx, hb9⟩
        have R := HP.out v w9 hd hb9
        clear hc hd hb9 HP xb xp
        go_wp2
        exact R
      · go_simp
        have h_v7 : (fun W => Below va.heap.size va W) (v2.alloc (.cells #[.int .i64 0] 3)) := h_v2.alloc h_v2.size _
        have Hz_v7_13 : Hid ((v2.alloc (.cells #[.int .i64 0] 3)).heap[v2.heap.size]? = some (.cells #[.int .i64 0] 3 (0, 0))) := heap_alloc_new v2 _
        have Hl_v7_13 : Hid (va.heap.size ≤ v2.heap.size) := h_v2.size
        refine hK.out _ _ (fun _ => h_v7) ?_
        clear hK K
        generalize v2.alloc (.cells #[.int .i64 0] 3) = v7 at *
        clear h_v2
        generalize v2.heap.size = g7 at *
        refine one_L (i := 12) (by kernel_rfl) rfl (fun K hK => ?_)
        go_simp
        have h_v8 : (fun W => Below va.heap.size va W) (v7.alloc (.cells #[.int .i64 0] 3)) := h_v7.alloc h_v7.size _
        have Hz_v8_12 : Hid ((v7.alloc (.cells #[.int .i64 0] 3)).heap[v7.heap.size]? = some (.cells #[.int .i64 0] 3 (0, 0))) := heap_alloc_new v7 _
        have Hz_v8_13 : Hid ((v7.alloc (.cells #[.int .i64 0] 3)).heap[g7]? = some (.cells #[.int .i64 0] 3 (0, 0))) := (heap_alloc_old v7 _ (Array.getElem?_eq_some_iff.1 Hz_v7_13.out).1).trans Hz_v7_13.out
        have Hn_v8_13_12 : Hid (g7 ≠ v7.heap.size) := Nat.ne_of_lt (Array.getElem?_eq_some_iff.1 Hz_v7_13.out).1
        have Hl_v8_12 : Hid (va.heap.size ≤ v7.heap.size) := h_v7.size
        refine hK.out _ _ (fun _ => h_v8) ?_
        clear hK K Hz_v7_13
        generalize v7.alloc (.cells #[.int .i64 0] 3) = v8 at *
        clear h_v7
        generalize v7.heap.size = g8 at *
        refine one_L (i := 14) (by kernel_rfl) rfl (fun K hK => ?_)
        have s0 : v8.cell? ⟨g8, 0, none⟩ = some (.int .i64 0) := (cell_of_row v8 _ 0 _ 3 (0, 0) Hz_v8_12.out).trans rfl
        have f0 : v8.frozen? ⟨g8, 0, none⟩ = false := frozen_of_row v8 _ 0 _ 3 Hz_v8_12.out
        go_simp
        have h_v9 : (fun W => Below va.heap.size va W) (v8.setCell ⟨g8, 0, none⟩ (.int .i64 (s0v : Int))) := h_v8.setCell (p := ⟨g8, 0, none⟩) Hl_v8_12.out _
        have Hz_v9_12 : Hid ((v8.setCell ⟨g8, 0, none⟩ (.int .i64 (s0v : Int))).heap[g8]? = some (.cells #[.int .i64 (s0v : Int)] 3 (0, 0))) := heap_setCell_same v8 g8 0 _ 3 _ Hz_v8_12.out
        have Hz_v9_13 : Hid ((v8.setCell ⟨g8, 0, none⟩ (.int .i64 (s0v : Int))).heap[g7]? = some (.cells #[.int .i64 0] 3 (0, 0))) := (Below.heap_setCell _ _ _ _ Hn_v8_13_12.out).trans Hz_v8_13.out
        refine hK.out _ _ (fun _ => h_v9) ?_
        clear hK K s0 f0 h_v8 Hz_v8_13 Hz_v8_12
        generalize v8.setCell ⟨g8, 0, none⟩ (.int .i64 (s0v : Int)) = v9 at *
        refine one_L (i := 15) (by kernel_rfl) rfl (fun K hK => ?_)
        have s0 : v9.cell? ⟨g7, 0, none⟩ = some (.int .i64 0) := (cell_of_row v9 _ 0 _ 3 (0, 0) Hz_v9_13.out).trans rfl
        have f0 : v9.frozen? ⟨g7, 0, none⟩ = false := frozen_of_row v9 _ 0 _ 3 Hz_v9_13.out
        go_simp
        have h_v10 : (fun W => Below va.heap.size va W) (v9.setCell ⟨g7, 0, none⟩ (.int .i64 (lv : Int))) := h_v9.setCell (p := ⟨g7, 0, none⟩) Hl_v7_13.out _
        have Hz_v10_13 : Hid ((v9.setCell ⟨g7, 0, none⟩ (.int .i64 (lv : Int))).heap[g7]? = some (.cells #[.int .i64 (lv : Int)] 3 (0, 0))) := heap_setCell_same v9 g7 0 _ 3 _ Hz_v9_13.out
        have Hz_v10_12 : Hid ((v9.setCell ⟨g7, 0, none⟩ (.int .i64 (lv : Int))).heap[g8]? = some (.cells #[.int .i64 (s0v : Int)] 3 (0, 0))) := (Below.heap_setCell _ _ _ _ (Ne.symm Hn_v8_13_12.out)).trans Hz_v9_12.out
        refine hK.out _ _ (fun _ => h_v10) ?_
        clear hK K s0 f0 h_v9 Hz_v9_13 Hz_v9_12
        generalize v9.setCell ⟨g7, 0, none⟩ (.int .i64 (lv : Int)) = v10 at *
        refine done_L (by kernel_rfl) ?_ _
        have hc := HR.out v10 g8 g7 h_v10 Hl_v8_12.out (Ne.symm Hn_v8_13_12.out) Hz_v10_12.out Hz_v10_13.out
        have xb := cell_below y0 h_v10
        have xp := cell_below y1 h_v10
        clear HR HC1 HC2 h_v10 Hz_v10_12 Hz_v10_13 y0 y1 y2 k0 k1 k2 hne
        go_wp2_with fail
        refine hc.mono ?_
        rintro _ w9 ⟨rfl, v, hd, hx, hb9⟩
        have R := HP.out v w9 hd hb9
        clear hc hd hb9 HP xb xp
        go_wp2
        exact R
    · go_simp
      have h_v11 : (fun W => Below va.heap.size va W) (v1.alloc (.cells #[.int .i64 0] 3)) := h_v1.alloc h_v1.size _
      have Hz_v11_12 : Hid ((v1.alloc (.cells #[.int .i64 0] 3)).heap[v1.heap.size]? = some (.cells #[.int .i64 0] 3 (0, 0))) := heap_alloc_new v1 _
      have Hl_v11_12 : Hid (va.heap.size ≤ v1.heap.size) := h_v1.size
      refine hK.out _ _ (fun _ => h_v11) ?_
      clear hK K
      generalize v1.alloc (.cells #[.int .i64 0] 3) = v11 at *
      clear h_v1
      generalize v1.heap.size = g11 at *
      refine two_L (i := 11) (j := 13) (by kernel_rfl) rfl rfl (fun K hK => ?_) (fun K hK => ?_)
      · go_simp
        refine (HC2.out v11 h_v11).mono ?_
        rintro _ v12 ⟨rfl, hb⟩
        have h_v12 : (fun W => Below va.heap.size va W) v12 := h_v11.trans (hb.mono h_v11.size)
        have Hz_v12_12 : Hid (v12.heap[g11]? = some (.cells #[.int .i64 0] 3 (0, 0))) := (hb.block _ (Array.getElem?_eq_some_iff.1 Hz_v11_12.out).1).trans Hz_v11_12.out
        refine hK.out _ _ (fun _ => h_v12) ?_
        clear hK K hb h_v11 Hz_v11_12
        refine one_L (i := 13) (by kernel_rfl) rfl (fun K hK => ?_)
        go_simp
        have h_v13 : (fun W => Below va.heap.size va W) (v12.alloc (.cells #[.int .i64 0] 3)) := h_v12.alloc h_v12.size _
        have Hz_v13_13 : Hid ((v12.alloc (.cells #[.int .i64 0] 3)).heap[v12.heap.size]? = some (.cells #[.int .i64 0] 3 (0, 0))) := heap_alloc_new v12 _
        have Hz_v13_12 : Hid ((v12.alloc (.cells #[.int .i64 0] 3)).heap[g11]? = some (.cells #[.int .i64 0] 3 (0, 0))) := (heap_alloc_old v12 _ (Array.getElem?_eq_some_iff.1 Hz_v12_12.out).1).trans Hz_v12_12.out
        have Hn_v13_12_13 : Hid (g11 ≠ v12.heap.size) := Nat.ne_of_lt (Array.getElem?_eq_some_iff.1 Hz_v12_12.out).1
        have Hl_v13_13 : Hid (va.heap.size ≤ v12.heap.size) := h_v12.size
        refine hK.out _ _ (fun _ => h_v13) ?_
        clear hK K Hz_v12_12
        generalize v12.alloc (.cells #[.int .i64 0] 3) = v13 at *
        clear h_v12
        generalize v12.heap.size = g13 at *
        refine one_L (i := 14) (by kernel_rfl) rfl (fun K hK => ?_)
        have s0 : v13.cell? ⟨g11, 0, none⟩ = some (.int .i64 0) := (cell_of_row v13 _ 0 _ 3 (0, 0) Hz_v13_12.out).trans rfl
        have f0 : v13.frozen? ⟨g11, 0, none⟩ = false := frozen_of_row v13 _ 0 _ 3 Hz_v13_12.out
        go_simp
        have h_v14 : (fun W => Below va.heap.size va W) (v13.setCell ⟨g11, 0, none⟩ (.int .i64 (s0v : Int))) := h_v13.setCell (p := ⟨g11, 0, none⟩) Hl_v11_12.out _
        have Hz_v14_12 : Hid ((v13.setCell ⟨g11, 0, none⟩ (.int .i64 (s0v : Int))).heap[g11]? = some (.cells #[.int .i64 (s0v : Int)] 3 (0, 0))) := heap_setCell_same v13 g11 0 _ 3 _ Hz_v13_12.out
        have Hz_v14_13 : Hid ((v13.setCell ⟨g11, 0, none⟩ (.int .i64 (s0v : Int))).heap[g13]? = some (.cells #[.int .i64 0] 3 (0, 0))) := (Below.heap_setCell _ _ _ _ (Ne.symm Hn_v13_12_13.out)).trans Hz_v13_13.out
        refine hK.out _ _ (fun _ => h_v14) ?_
        clear hK K s0 f0 h_v13 Hz_v13_12 Hz_v13_13
        generalize v13.setCell ⟨g11, 0, none⟩ (.int .i64 (s0v : Int)) = v14 at *
        refine one_L (i := 15) (by kernel_rfl) rfl (fun K hK => ?_)
        have s0 : v14.cell? ⟨g13, 0, none⟩ = some (.int .i64 0) := (cell_of_row v14 _ 0 _ 3 (0, 0) Hz_v14_13.out).trans rfl
        have f0 : v14.frozen? ⟨g13, 0, none⟩ = false := frozen_of_row v14 _ 0 _ 3 Hz_v14_13.out
        go_simp
        have h_v15 : (fun W => Below va.heap.size va W) (v14.setCell ⟨g13, 0, none⟩ (.int .i64 (lv : Int))) := h_v14.setCell (p := ⟨g13, 0, none⟩) Hl_v13_13.out _
        have Hz_v15_13 : Hid ((v14.setCell ⟨g13, 0, none⟩ (.int .i64 (lv : Int))).heap[g13]? = some (.cells #[.int .i64 (lv : Int)] 3 (0, 0))) := heap_setCell_same v14 g13 0 _ 3 _ Hz_v14_13.out
        have Hz_v15_12 : Hid ((v14.setCell ⟨g13, 0, none⟩ (.int .i64 (lv : Int))).heap[g11]? = some (.cells #[.int .i64 (s0v : Int)] 3 (0, 0))) := (Below.heap_setCell _ _ _ _ Hn_v13_12_13.out).trans Hz_v14_12.out
        refine hK.out _ _ (fun _ => h_v15) ?_
        clear hK K s0 f0 h_v14 Hz_v14_12 Hz_v14_13
        generalize v14.setCell ⟨g13, 0, none⟩ (.int .i64 (lv : Int)) = v15 at *
        refine done_L (by kernel_rfl) ?_ _
        have hc := HR.out v15 g11 g13 h_v15 Hl_v11_12.out (Hn_v13_12_13.out) Hz_v15_12.out Hz_v15_13.out
        have xb := cell_below y0 h_v15
        have xp := cell_below y1 h_v15
        clear HR HC1 HC2 h_v15 Hz_v15_12 Hz_v15_13 y0 y1 y2 k0 k1 k2 hne
        go_wp2_with fail
        refine hc.mono ?_
        rintro _ w9 ⟨rfl, v, hd, hx, hb9⟩
        have R := HP.out v w9 hd hb9
        clear hc hd hb9 HP xb xp
        go_wp2
        exact R
      · go_simp
        have h_v16 : (fun W => Below va.heap.size va W) (v11.alloc (.cells #[.int .i64 0] 3)) := h_v11.alloc h_v11.size _
        have Hz_v16_13 : Hid ((v11.alloc (.cells #[.int .i64 0] 3)).heap[v11.heap.size]? = some (.cells #[.int .i64 0] 3 (0, 0))) := heap_alloc_new v11 _
        have Hz_v16_12 : Hid ((v11.alloc (.cells #[.int .i64 0] 3)).heap[g11]? = some (.cells #[.int .i64 0] 3 (0, 0))) := (heap_alloc_old v11 _ (Array.getElem?_eq_some_iff.1 Hz_v11_12.out).1).trans Hz_v11_12.out
        have Hn_v16_12_13 : Hid (g11 ≠ v11.heap.size) := Nat.ne_of_lt (Array.getElem?_eq_some_iff.1 Hz_v11_12.out).1
        have Hl_v16_13 : Hid (va.heap.size ≤ v11.heap.size) := h_v11.size
        refine hK.out _ _ (fun _ => h_v16) ?_
        clear hK K Hz_v11_12
        generalize v11.alloc (.cells #[.int .i64 0] 3) = v16 at *
        clear h_v11
        generalize v11.heap.size = g16 at *
        refine one_L (i := 11) (by kernel_rfl) rfl (fun K hK => ?_)
        go_simp
        refine (HC2.out v16 h_v16).mono ?_
        rintro _ v17 ⟨rfl, hb⟩
        have h_v17 : (fun W => Below va.heap.size va W) v17 := h_v16.trans (hb.mono h_v16.size)
        have Hz_v17_12 : Hid (v17.heap[g11]? = some (.cells #[.int .i64 0] 3 (0, 0))) := (hb.block _ (Array.getElem?_eq_some_iff.1 Hz_v16_12.out).1).trans Hz_v16_12.out
        have Hz_v17_13 : Hid (v17.heap[g16]? = some (.cells #[.int .i64 0] 3 (0, 0))) := (hb.block _ (Array.getElem?_eq_some_iff.1 Hz_v16_13.out).1).trans Hz_v16_13.out
        refine hK.out _ _ (fun _ => h_v17) ?_
        clear hK K hb h_v16 Hz_v16_12 Hz_v16_13
        refine one_L (i := 14) (by kernel_rfl) rfl (fun K hK => ?_)
        have s0 : v17.cell? ⟨g11, 0, none⟩ = some (.int .i64 0) := (cell_of_row v17 _ 0 _ 3 (0, 0) Hz_v17_12.out).trans rfl
        have f0 : v17.frozen? ⟨g11, 0, none⟩ = false := frozen_of_row v17 _ 0 _ 3 Hz_v17_12.out
        go_simp
        have h_v18 : (fun W => Below va.heap.size va W) (v17.setCell ⟨g11, 0, none⟩ (.int .i64 (s0v : Int))) := h_v17.setCell (p := ⟨g11, 0, none⟩) Hl_v11_12.out _
        have Hz_v18_12 : Hid ((v17.setCell ⟨g11, 0, none⟩ (.int .i64 (s0v : Int))).heap[g11]? = some (.cells #[.int .i64 (s0v : Int)] 3 (0, 0))) := heap_setCell_same v17 g11 0 _ 3 _ Hz_v17_12.out
        have Hz_v18_13 : Hid ((v17.setCell ⟨g11, 0, none⟩ (.int .i64 (s0v : Int))).heap[g16]? = some (.cells #[.int .i64 0] 3 (0, 0))) := (Below.heap_setCell _ _ _ _ (Ne.symm Hn_v16_12_13.out)).trans Hz_v17_13.out
        refine hK.out _ _ (fun _ => h_v18) ?_
        clear hK K s0 f0 h_v17 Hz_v17_12 Hz_v17_13
        generalize v17.setCell ⟨g11, 0, none⟩ (.int .i64 (s0v : Int)) = v18 at *
        refine one_L (i := 15) (by kernel_rfl) rfl (fun K hK => ?_)
        have s0 : v18.cell? ⟨g16, 0, none⟩ = some (.int .i64 0) := (cell_of_row v18 _ 0 _ 3 (0, 0) Hz_v18_13.out).trans rfl
        have f0 : v18.frozen? ⟨g16, 0, none⟩ = false := frozen_of_row v18 _ 0 _ 3 Hz_v18_13.out
        go_simp
        have h_v19 : (fun W => Below va.heap.size va W) (v18.setCell ⟨g16, 0, none⟩ (.int .i64 (lv : Int))) := h_v18.setCell (p := ⟨g16, 0, none⟩) Hl_v16_13.out _
        have Hz_v19_13 : Hid ((v18.setCell ⟨g16, 0, none⟩ (.int .i64 (lv : Int))).heap[g16]? = some (.cells #[.int .i64 (lv : Int)] 3 (0, 0))) := heap_setCell_same v18 g16 0 _ 3 _ Hz_v18_13.out
        have Hz_v19_12 : Hid ((v18.setCell ⟨g16, 0, none⟩ (.int .i64 (lv : Int))).heap[g11]? = some (.cells #[.int .i64 (s0v : Int)] 3 (0, 0))) := (Below.heap_setCell _ _ _ _ Hn_v16_12_13.out).trans Hz_v18_12.out
        refine hK.out _ _ (fun _ => h_v19) ?_
        clear hK K s0 f0 h_v18 Hz_v18_12 Hz_v18_13
        generalize v18.setCell ⟨g16, 0, none⟩ (.int .i64 (lv : Int)) = v19 at *
        refine done_L (by kernel_rfl) ?_ _
        have hc := HR.out v19 g11 g16 h_v19 Hl_v11_12.out (Hn_v16_12_13.out) Hz_v19_12.out Hz_v19_13.out
        have xb := cell_below y0 h_v19
        have xp := cell_below y1 h_v19
        clear HR HC1 HC2 h_v19 Hz_v19_12 Hz_v19_13 y0 y1 y2 k0 k1 k2 hne
        go_wp2_with fail
        refine hc.mono ?_
        rintro _ w9 ⟨rfl, v, hd, hx, hb9⟩
        have R := HP.out v w9 hd hb9
        clear hc hd hb9 HP xb xp
        go_wp2
        exact R
    · go_simp
      have h_v20 : (fun W => Below va.heap.size va W) (v1.alloc (.cells #[.int .i64 0] 3)) := h_v1.alloc h_v1.size _
      have Hz_v20_13 : Hid ((v1.alloc (.cells #[.int .i64 0] 3)).heap[v1.heap.size]? = some (.cells #[.int .i64 0] 3 (0, 0))) := heap_alloc_new v1 _
      have Hl_v20_13 : Hid (va.heap.size ≤ v1.heap.size) := h_v1.size
      refine hK.out _ _ (fun _ => h_v20) ?_
      clear hK K
      generalize v1.alloc (.cells #[.int .i64 0] 3) = v20 at *
      clear h_v1
      generalize v1.heap.size = g20 at *
      refine two_L (i := 11) (j := 12) (by kernel_rfl) rfl rfl (fun K hK => ?_) (fun K hK => ?_)
      · go_simp
        refine (HC2.out v20 h_v20).mono ?_
        rintro _ v21 ⟨rfl, hb⟩
        have h_v21 : (fun W => Below va.heap.size va W) v21 := h_v20.trans (hb.mono h_v20.size)
        have Hz_v21_13 : Hid (v21.heap[g20]? = some (.cells #[.int .i64 0] 3 (0, 0))) := (hb.block _ (Array.getElem?_eq_some_iff.1 Hz_v20_13.out).1).trans Hz_v20_13.out
        refine hK.out _ _ (fun _ => h_v21) ?_
        clear hK K hb h_v20 Hz_v20_13
        refine one_L (i := 12) (by kernel_rfl) rfl (fun K hK => ?_)
        go_simp
        have h_v22 : (fun W => Below va.heap.size va W) (v21.alloc (.cells #[.int .i64 0] 3)) := h_v21.alloc h_v21.size _
        have Hz_v22_12 : Hid ((v21.alloc (.cells #[.int .i64 0] 3)).heap[v21.heap.size]? = some (.cells #[.int .i64 0] 3 (0, 0))) := heap_alloc_new v21 _
        have Hz_v22_13 : Hid ((v21.alloc (.cells #[.int .i64 0] 3)).heap[g20]? = some (.cells #[.int .i64 0] 3 (0, 0))) := (heap_alloc_old v21 _ (Array.getElem?_eq_some_iff.1 Hz_v21_13.out).1).trans Hz_v21_13.out
        have Hn_v22_13_12 : Hid (g20 ≠ v21.heap.size) := Nat.ne_of_lt (Array.getElem?_eq_some_iff.1 Hz_v21_13.out).1
        have Hl_v22_12 : Hid (va.heap.size ≤ v21.heap.size) := h_v21.size
        refine hK.out _ _ (fun _ => h_v22) ?_
        clear hK K Hz_v21_13
        generalize v21.alloc (.cells #[.int .i64 0] 3) = v22 at *
        clear h_v21
        generalize v21.heap.size = g22 at *
        refine one_L (i := 14) (by kernel_rfl) rfl (fun K hK => ?_)
        have s0 : v22.cell? ⟨g22, 0, none⟩ = some (.int .i64 0) := (cell_of_row v22 _ 0 _ 3 (0, 0) Hz_v22_12.out).trans rfl
        have f0 : v22.frozen? ⟨g22, 0, none⟩ = false := frozen_of_row v22 _ 0 _ 3 Hz_v22_12.out
        go_simp
        have h_v23 : (fun W => Below va.heap.size va W) (v22.setCell ⟨g22, 0, none⟩ (.int .i64 (s0v : Int))) := h_v22.setCell (p := ⟨g22, 0, none⟩) Hl_v22_12.out _
        have Hz_v23_12 : Hid ((v22.setCell ⟨g22, 0, none⟩ (.int .i64 (s0v : Int))).heap[g22]? = some (.cells #[.int .i64 (s0v : Int)] 3 (0, 0))) := heap_setCell_same v22 g22 0 _ 3 _ Hz_v22_12.out
        have Hz_v23_13 : Hid ((v22.setCell ⟨g22, 0, none⟩ (.int .i64 (s0v : Int))).heap[g20]? = some (.cells #[.int .i64 0] 3 (0, 0))) := (Below.heap_setCell _ _ _ _ Hn_v22_13_12.out).trans Hz_v22_13.out
        refine hK.out _ _ (fun _ => h_v23) ?_
        clear hK K s0 f0 h_v22 Hz_v22_13 Hz_v22_12
        generalize v22.setCell ⟨g22, 0, none⟩ (.int .i64 (s0v : Int)) = v23 at *
        refine one_L (i := 15) (by kernel_rfl) rfl (fun K hK => ?_)
        have s0 : v23.cell? ⟨g20, 0, none⟩ = some (.int .i64 0) := (cell_of_row v23 _ 0 _ 3 (0, 0) Hz_v23_13.out).trans rfl
        have f0 : v23.frozen? ⟨g20, 0, none⟩ = false := frozen_of_row v23 _ 0 _ 3 Hz_v23_13.out
        go_simp
        have h_v24 : (fun W => Below va.heap.size va W) (v23.setCell ⟨g20, 0, none⟩ (.int .i64 (lv : Int))) := h_v23.setCell (p := ⟨g20, 0, none⟩) Hl_v20_13.out _
        have Hz_v24_13 : Hid ((v23.setCell ⟨g20, 0, none⟩ (.int .i64 (lv : Int))).heap[g20]? = some (.cells #[.int .i64 (lv : Int)] 3 (0, 0))) := heap_setCell_same v23 g20 0 _ 3 _ Hz_v23_13.out
        have Hz_v24_12 : Hid ((v23.setCell ⟨g20, 0, none⟩ (.int .i64 (lv : Int))).heap[g22]? = some (.cells #[.int .i64 (s0v : Int)] 3 (0, 0))) := (Below.heap_setCell _ _ _ _ (Ne.symm Hn_v22_13_12.out)).trans Hz_v23_12.out
        refine hK.out _ _ (fun _ => h_v24) ?_
        clear hK K s0 f0 h_v23 Hz_v23_13 Hz_v23_12
        generalize v23.setCell ⟨g20, 0, none⟩ (.int .i64 (lv : Int)) = v24 at *
        refine done_L (by kernel_rfl) ?_ _
        have hc := HR.out v24 g22 g20 h_v24 Hl_v22_12.out (Ne.symm Hn_v22_13_12.out) Hz_v24_12.out Hz_v24_13.out
        have xb := cell_below y0 h_v24
        have xp := cell_below y1 h_v24
        clear HR HC1 HC2 h_v24 Hz_v24_12 Hz_v24_13 y0 y1 y2 k0 k1 k2 hne
        go_wp2_with fail
        refine hc.mono ?_
        rintro _ w9 ⟨rfl, v, hd, hx, hb9⟩
        have R := HP.out v w9 hd hb9
        clear hc hd hb9 HP xb xp
        go_wp2
        exact R
      · go_simp
        have h_v25 : (fun W => Below va.heap.size va W) (v20.alloc (.cells #[.int .i64 0] 3)) := h_v20.alloc h_v20.size _
        have Hz_v25_12 : Hid ((v20.alloc (.cells #[.int .i64 0] 3)).heap[v20.heap.size]? = some (.cells #[.int .i64 0] 3 (0, 0))) := heap_alloc_new v20 _
        have Hz_v25_13 : Hid ((v20.alloc (.cells #[.int .i64 0] 3)).heap[g20]? = some (.cells #[.int .i64 0] 3 (0, 0))) := (heap_alloc_old v20 _ (Array.getElem?_eq_some_iff.1 Hz_v20_13.out).1).trans Hz_v20_13.out
        have Hn_v25_13_12 : Hid (g20 ≠ v20.heap.size) := Nat.ne_of_lt (Array.getElem?_eq_some_iff.1 Hz_v20_13.out).1
        have Hl_v25_12 : Hid (va.heap.size ≤ v20.heap.size) := h_v20.size
        refine hK.out _ _ (fun _ => h_v25) ?_
        clear hK K Hz_v20_13
        generalize v20.alloc (.cells #[.int .i64 0] 3) = v25 at *
        clear h_v20
        generalize v20.heap.size = g25 at *
        refine one_L (i := 11) (by kernel_rfl) rfl (fun K hK => ?_)
        go_simp
        refine (HC2.out v25 h_v25).mono ?_
        rintro _ v26 ⟨rfl, hb⟩
        have h_v26 : (fun W => Below va.heap.size va W) v26 := h_v25.trans (hb.mono h_v25.size)
        have Hz_v26_13 : Hid (v26.heap[g20]? = some (.cells #[.int .i64 0] 3 (0, 0))) := (hb.block _ (Array.getElem?_eq_some_iff.1 Hz_v25_13.out).1).trans Hz_v25_13.out
        have Hz_v26_12 : Hid (v26.heap[g25]? = some (.cells #[.int .i64 0] 3 (0, 0))) := (hb.block _ (Array.getElem?_eq_some_iff.1 Hz_v25_12.out).1).trans Hz_v25_12.out
        refine hK.out _ _ (fun _ => h_v26) ?_
        clear hK K hb h_v25 Hz_v25_13 Hz_v25_12
        refine one_L (i := 14) (by kernel_rfl) rfl (fun K hK => ?_)
        have s0 : v26.cell? ⟨g25, 0, none⟩ = some (.int .i64 0) := (cell_of_row v26 _ 0 _ 3 (0, 0) Hz_v26_12.out).trans rfl
        have f0 : v26.frozen? ⟨g25, 0, none⟩ = false := frozen_of_row v26 _ 0 _ 3 Hz_v26_12.out
        go_simp
        have h_v27 : (fun W => Below va.heap.size va W) (v26.setCell ⟨g25, 0, none⟩ (.int .i64 (s0v : Int))) := h_v26.setCell (p := ⟨g25, 0, none⟩) Hl_v25_12.out _
        have Hz_v27_12 : Hid ((v26.setCell ⟨g25, 0, none⟩ (.int .i64 (s0v : Int))).heap[g25]? = some (.cells #[.int .i64 (s0v : Int)] 3 (0, 0))) := heap_setCell_same v26 g25 0 _ 3 _ Hz_v26_12.out
        have Hz_v27_13 : Hid ((v26.setCell ⟨g25, 0, none⟩ (.int .i64 (s0v : Int))).heap[g20]? = some (.cells #[.int .i64 0] 3 (0, 0))) := (Below.heap_setCell _ _ _ _ Hn_v25_13_12.out).trans Hz_v26_13.out
        refine hK.out _ _ (fun _ => h_v27) ?_
        clear hK K s0 f0 h_v26 Hz_v26_13 Hz_v26_12
        generalize v26.setCell ⟨g25, 0, none⟩ (.int .i64 (s0v : Int)) = v27 at *
        refine one_L (i := 15) (by kernel_rfl) rfl (fun K hK => ?_)
        have s0 : v27.cell? ⟨g20, 0, none⟩ = some (.int .i64 0) := (cell_of_row v27 _ 0 _ 3 (0, 0) Hz_v27_13.out).trans rfl
        have f0 : v27.frozen? ⟨g20, 0, none⟩ = false := frozen_of_row v27 _ 0 _ 3 Hz_v27_13.out
        go_simp
        have h_v28 : (fun W => Below va.heap.size va W) (v27.setCell ⟨g20, 0, none⟩ (.int .i64 (lv : Int))) := h_v27.setCell (p := ⟨g20, 0, none⟩) Hl_v20_13.out _
        have Hz_v28_13 : Hid ((v27.setCell ⟨g20, 0, none⟩ (.int .i64 (lv : Int))).heap[g20]? = some (.cells #[.int .i64 (lv : Int)] 3 (0, 0))) := heap_setCell_same v27 g20 0 _ 3 _ Hz_v27_13.out
        have Hz_v28_12 : Hid ((v27.setCell ⟨g20, 0, none⟩ (.int .i64 (lv : Int))).heap[g25]? = some (.cells #[.int .i64 (s0v : Int)] 3 (0, 0))) := (Below.heap_setCell _ _ _ _ (Ne.symm Hn_v25_13_12.out)).trans Hz_v27_12.out
        refine hK.out _ _ (fun _ => h_v28) ?_
        clear hK K s0 f0 h_v27 Hz_v27_13 Hz_v27_12
        generalize v27.setCell ⟨g20, 0, none⟩ (.int .i64 (lv : Int)) = v28 at *
        refine done_L (by kernel_rfl) ?_ _
        have hc := HR.out v28 g25 g20 h_v28 Hl_v25_12.out (Ne.symm Hn_v25_13_12.out) Hz_v28_12.out Hz_v28_13.out
        have xb := cell_below y0 h_v28
        have xp := cell_below y1 h_v28
        clear HR HC1 HC2 h_v28 Hz_v28_12 Hz_v28_13 y0 y1 y2 k0 k1 k2 hne
        go_wp2_with fail
        refine hc.mono ?_
        rintro _ w9 ⟨rfl, v, hd, hx, hb9⟩
        have R := HP.out v w9 hd hb9
        clear hc hd hb9 HP xb xp
        go_wp2
        exact R
  · go_simp
    have h_v29 : (fun W => Below va.heap.size va W) (vs.alloc (.cells #[.int .i64 0] 3)) := h_vs.alloc h_vs.size _
    have Hz_v29_12 : Hid ((vs.alloc (.cells #[.int .i64 0] 3)).heap[vs.heap.size]? = some (.cells #[.int .i64 0] 3 (0, 0))) := heap_alloc_new vs _
    have Hl_v29_12 : Hid (va.heap.size ≤ vs.heap.size) := h_vs.size
    refine hK.out _ _ (fun _ => h_v29) ?_
    clear hK K
    generalize vs.alloc (.cells #[.int .i64 0] 3) = v29 at *
    clear h_vs
    generalize vs.heap.size = g29 at *
    refine two_L (i := 5) (j := 13) (by kernel_rfl) rfl rfl (fun K hK => ?_) (fun K hK => ?_)
    · go_simp
      go_invoke
      go_simp
      refine (HC1.out v29 h_v29).mono ?_
      rintro _ v30 ⟨rfl, hb⟩
      have h_v30 : (fun W => Below va.heap.size va W) v30 := h_v29.trans (hb.mono h_v29.size)
      have Hz_v30_12 : Hid (v30.heap[g29]? = some (.cells #[.int .i64 0] 3 (0, 0))) := (hb.block _ (Array.getElem?_eq_some_iff.1 Hz_v29_12.out).1).trans Hz_v29_12.out
      refine hK.out _ _ (fun _ => h_v30) ?_
      clear hK K hb h_v29 Hz_v29_12
      refine two_L (i := 11) (j := 13) (by kernel_rfl) rfl rfl (fun K hK => ?_) (fun K hK => ?_)
      · go_simp
        refine (HC2.out v30 h_v30).mono ?_
        rintro _ v31 ⟨rfl, hb⟩
        have h_v31 : (fun W => Below va.heap.size va W) v31 := h_v30.trans (hb.mono h_v30.size)
        have Hz_v31_12 : Hid (v31.heap[g29]? = some (.cells #[.int .i64 0] 3 (0, 0))) := (hb.block _ (Array.getElem?_eq_some_iff.1 Hz_v30_12.out).1).trans Hz_v30_12.out
        refine hK.out _ _ (fun _ => h_v31) ?_
        clear hK K hb h_v30 Hz_v30_12
        refine one_L (i := 13) (by kernel_rfl) rfl (fun K hK => ?_)
        go_simp
        have h_v32 : (fun W => Below va.heap.size va W) (v31.alloc (.cells #[.int .i64 0] 3)) := h_v31.alloc h_v31.size _
        have Hz_v32_13 : Hid ((v31.alloc (.cells #[.int .i64 0] 3)).heap[v31.heap.size]? = some (.cells #[.int .i64 0] 3 (0, 0))) := heap_alloc_new v31 _
        have Hz_v32_12 : Hid ((v31.alloc (.cells #[.int .i64 0] 3)).heap[g29]? = some (.cells #[.int .i64 0] 3 (0, 0))) := (heap_alloc_old v31 _ (Array.getElem?_eq_some_iff.1 Hz_v31_12.out).1).trans Hz_v31_12.out
        have Hn_v32_12_13 : Hid (g29 ≠ v31.heap.size) := Nat.ne_of_lt (Array.getElem?_eq_some_iff.1 Hz_v31_12.out).1
        have Hl_v32_13 : Hid (va.heap.size ≤ v31.heap.size) := h_v31.size
        refine hK.out _ _ (fun _ => h_v32) ?_
        clear hK K Hz_v31_12
        generalize v31.alloc (.cells #[.int .i64 0] 3) = v32 at *
        clear h_v31
        generalize v31.heap.size = g32 at *
        refine one_L (i := 14) (by kernel_rfl) rfl (fun K hK => ?_)
        have s0 : v32.cell? ⟨g29, 0, none⟩ = some (.int .i64 0) := (cell_of_row v32 _ 0 _ 3 (0, 0) Hz_v32_12.out).trans rfl
        have f0 : v32.frozen? ⟨g29, 0, none⟩ = false := frozen_of_row v32 _ 0 _ 3 Hz_v32_12.out
        go_simp
        have h_v33 : (fun W => Below va.heap.size va W) (v32.setCell ⟨g29, 0, none⟩ (.int .i64 (s0v : Int))) := h_v32.setCell (p := ⟨g29, 0, none⟩) Hl_v29_12.out _
        have Hz_v33_12 : Hid ((v32.setCell ⟨g29, 0, none⟩ (.int .i64 (s0v : Int))).heap[g29]? = some (.cells #[.int .i64 (s0v : Int)] 3 (0, 0))) := heap_setCell_same v32 g29 0 _ 3 _ Hz_v32_12.out
        have Hz_v33_13 : Hid ((v32.setCell ⟨g29, 0, none⟩ (.int .i64 (s0v : Int))).heap[g32]? = some (.cells #[.int .i64 0] 3 (0, 0))) := (Below.heap_setCell _ _ _ _ (Ne.symm Hn_v32_12_13.out)).trans Hz_v32_13.out
        refine hK.out _ _ (fun _ => h_v33) ?_
        clear hK K s0 f0 h_v32 Hz_v32_12 Hz_v32_13
        generalize v32.setCell ⟨g29, 0, none⟩ (.int .i64 (s0v : Int)) = v33 at *
        refine one_L (i := 15) (by kernel_rfl) rfl (fun K hK => ?_)
        have s0 : v33.cell? ⟨g32, 0, none⟩ = some (.int .i64 0) := (cell_of_row v33 _ 0 _ 3 (0, 0) Hz_v33_13.out).trans rfl
        have f0 : v33.frozen? ⟨g32, 0, none⟩ = false := frozen_of_row v33 _ 0 _ 3 Hz_v33_13.out
        go_simp
        have h_v34 : (fun W => Below va.heap.size va W) (v33.setCell ⟨g32, 0, none⟩ (.int .i64 (lv : Int))) := h_v33.setCell (p := ⟨g32, 0, none⟩) Hl_v32_13.out _
        have Hz_v34_13 : Hid ((v33.setCell ⟨g32, 0, none⟩ (.int .i64 (lv : Int))).heap[g32]? = some (.cells #[.int .i64 (lv : Int)] 3 (0, 0))) := heap_setCell_same v33 g32 0 _ 3 _ Hz_v33_13.out
        have Hz_v34_12 : Hid ((v33.setCell ⟨g32, 0, none⟩ (.int .i64 (lv : Int))).heap[g29]? = some (.cells #[.int .i64 (s0v : Int)] 3 (0, 0))) := (Below.heap_setCell _ _ _ _ Hn_v32_12_13.out).trans Hz_v33_12.out
        refine hK.out _ _ (fun _ => h_v34) ?_
        clear hK K s0 f0 h_v33 Hz_v33_12 Hz_v33_13
        generalize v33.setCell ⟨g32, 0, none⟩ (.int .i64 (lv : Int)) = v34 at *
        refine done_L (by kernel_rfl) ?_ _
        have hc := HR.out v34 g29 g32 h_v34 Hl_v29_12.out (Hn_v32_12_13.out) Hz_v34_12.out Hz_v34_13.out
        have xb := cell_below y0 h_v34
        have xp := cell_below y1 h_v34
        clear HR HC1 HC2 h_v34 Hz_v34_12 Hz_v34_13 y0 y1 y2 k0 k1 k2 hne
        go_wp2_with fail
        refine hc.mono ?_
        rintro _ w9 ⟨rfl, v, hd, hx, hb9⟩
        have R := HP.out v w9 hd hb9
        clear hc hd hb9 HP xb xp
        go_wp2
        exact R
      · go_simp
        have h_v35 : (fun W => Below va.heap.size va W) (v30.alloc (.cells #[.int .i64 0] 3)) := h_v30.alloc h_v30.size _
        have Hz_v35_13 : Hid ((v30.alloc (.cells #[.int .i64 0] 3)).heap[v30.heap.size]? = some (.cells #[.int .i64 0] 3 (0, 0))) := heap_alloc_new v30 _
        have Hz_v35_12 : Hid ((v30.alloc (.cells #[.int .i64 0] 3)).heap[g29]? = some (.cells #[.int .i64 0] 3 (0, 0))) := (heap_alloc_old v30 _ (Array.getElem?_eq_some_iff.1 Hz_v30_12.out).1).trans Hz_v30_12.out
        have Hn_v35_12_13 : Hid (g29 ≠ v30.heap.size) := Nat.ne_of_lt (Array.getElem?_eq_some_iff.1 Hz_v30_12.out).1
        have Hl_v35_13 : Hid (va.heap.size ≤ v30.heap.size) := h_v30.size
        refine hK.out _ _ (fun _ => h_v35) ?_
        clear hK K Hz_v30_12
        generalize v30.alloc (.cells #[.int .i64 0] 3) = v35 at *
        clear h_v30
        generalize v30.heap.size = g35 at *
        refine one_L (i := 11) (by kernel_rfl) rfl (fun K hK => ?_)
        go_simp
        refine (HC2.out v35 h_v35).mono ?_
        rintro _ v36 ⟨rfl, hb⟩
        have h_v36 : (fun W => Below va.heap.size va W) v36 := h_v35.trans (hb.mono h_v35.size)
        have Hz_v36_12 : Hid (v36.heap[g29]? = some (.cells #[.int .i64 0] 3 (0, 0))) := (hb.block _ (Array.getElem?_eq_some_iff.1 Hz_v35_12.out).1).trans Hz_v35_12.out
        have Hz_v36_13 : Hid (v36.heap[g35]? = some (.cells #[.int .i64 0] 3 (0, 0))) := (hb.block _ (Array.getElem?_eq_some_iff.1 Hz_v35_13.out).1).trans Hz_v35_13.out
        refine hK.out _ _ (fun _ => h_v36) ?_
        clear hK K hb h_v35 Hz_v35_12 Hz_v35_13
        refine one_L (i := 14) (by kernel_rfl) rfl (fun K hK => ?_)
        have s0 : v36.cell? ⟨g29, 0, none⟩ = some (.int .i64 0) := (cell_of_row v36 _ 0 _ 3 (0, 0) Hz_v36_12.out).trans rfl
        have f0 : v36.frozen? ⟨g29, 0, none⟩ = false := frozen_of_row v36 _ 0 _ 3 Hz_v36_12.out
        go_simp
        have h_v37 : (fun W => Below va.heap.size va W) (v36.setCell ⟨g29, 0, none⟩ (.int .i64 (s0v : Int))) := h_v36.setCell (p := ⟨g29, 0, none⟩) Hl_v29_12.out _
        have Hz_v37_12 : Hid ((v36.setCell ⟨g29, 0, none⟩ (.int .i64 (s0v : Int))).heap[g29]? = some (.cells #[.int .i64 (s0v : Int)] 3 (0, 0))) := heap_setCell_same v36 g29 0 _ 3 _ Hz_v36_12.out
        have Hz_v37_13 : Hid ((v36.setCell ⟨g29, 0, none⟩ (.int .i64 (s0v : Int))).heap[g35]? = some (.cells #[.int .i64 0] 3 (0, 0))) := (Below.heap_setCell _ _ _ _ (Ne.symm Hn_v35_12_13.out)).trans Hz_v36_13.out
        refine hK.out _ _ (fun _ => h_v37) ?_
        clear hK K s0 f0 h_v36 Hz_v36_12 Hz_v36_13
        generalize v36.setCell ⟨g29, 0, none⟩ (.int .i64 (s0v : Int)) = v37 at *
        refine one_L (i := 15) (by kernel_rfl) rfl (fun K hK => ?_)
        have s0 : v37.cell? ⟨g35, 0, none⟩ = some (.int .i64 0) := (cell_of_row v37 _ 0 _ 3 (0, 0) Hz_v37_13.out).trans rfl
        have f0 : v37.frozen? ⟨g35, 0, none⟩ = false := frozen_of_row v37 _ 0 _ 3 Hz_v37_13.out
        go_simp
        have h_v38 : (fun W => Below va.heap.size va W) (v37.setCell ⟨g35, 0, none⟩ (.int .i64 (lv : Int))) := h_v37.setCell (p := ⟨g35, 0, none⟩) Hl_v35_13.out _
        have Hz_v38_13 : Hid ((v37.setCell ⟨g35, 0, none⟩ (.int .i64 (lv : Int))).heap[g35]? = some (.cells #[.int .i64 (lv : Int)] 3 (0, 0))) := heap_setCell_same v37 g35 0 _ 3 _ Hz_v37_13.out
        have Hz_v38_12 : Hid ((v37.setCell ⟨g35, 0, none⟩ (.int .i64 (lv : Int))).heap[g29]? = some (.cells #[.int .i64 (s0v : Int)] 3 (0, 0))) := (Below.heap_setCell _ _ _ _ Hn_v35_12_13.out).trans Hz_v37_12.out
        refine hK.out _ _ (fun _ => h_v38) ?_
        clear hK K s0 f0 h_v37 Hz_v37_12 Hz_v37_13
        generalize v37.setCell ⟨g35, 0, none⟩ (.int .i64 (lv : Int)) = v38 at *
        refine done_L (by kernel_rfl) ?_ _
        have hc := HR.out v38 g29 g35 h_v38 Hl_v29_12.out (Hn_v35_12_13.out) Hz_v38_12.out Hz_v38_13.out
        have xb := cell_below y0 h_v38
        have xp := cell_below y1 h_v38
        clear HR HC1 HC2 h_v38 Hz_v38_12 Hz_v38_13 y0 y1 y2 k0 k1 k2 hne
        go_wp2_with fail
        refine hc.mono ?_
        rintro _ w9 ⟨rfl, v, hd, hx, hb9⟩
        have R := HP.out v w9 hd hb9
        clear hc hd hb9 HP xb xp
        go_wp2
        exact R
    · go_simp
      have h_v39 : (fun W => Below va.heap.size va W) (v29.alloc (.cells #[.int .i64 0] 3)) := h_v29.alloc h_v29.size _
      have Hz_v39_13 : Hid ((v29.alloc (.cells #[.int .i64 0] 3)).heap[v29.heap.size]? = some (.cells #[.int .i64 0] 3 (0, 0))) := heap_alloc_new v29 _
      have Hz_v39_12 : Hid ((v29.alloc (.cells #[.int .i64 0] 3)).heap[g29]? = some (.cells #[.int .i64 0] 3 (0, 0))) := (heap_alloc_old v29 _ (Array.getElem?_eq_some_iff.1 Hz_v29_12.out).1).trans Hz_v29_12.out
      have Hn_v39_12_13 : Hid (g29 ≠ v29.heap.size) := Nat.ne_of_lt (Array.getElem?_eq_some_iff.1 Hz_v29_12.out).1
      have Hl_v39_13 : Hid (va.heap.size ≤ v29.heap.size) := h_v29.size
      refine hK.out _ _ (fun _ => h_v39) ?_
      clear hK K Hz_v29_12
      generalize v29.alloc (.cells #[.int .i64 0] 3) = v39 at *
      clear h_v29
      generalize v29.heap.size = g39 at *
      refine one_L (i := 5) (by kernel_rfl) rfl (fun K hK => ?_)
      go_simp
      go_invoke
      go_simp
      refine (HC1.out v39 h_v39).mono ?_
      rintro _ v40 ⟨rfl, hb⟩
      have h_v40 : (fun W => Below va.heap.size va W) v40 := h_v39.trans (hb.mono h_v39.size)
      have Hz_v40_12 : Hid (v40.heap[g29]? = some (.cells #[.int .i64 0] 3 (0, 0))) := (hb.block _ (Array.getElem?_eq_some_iff.1 Hz_v39_12.out).1).trans Hz_v39_12.out
      have Hz_v40_13 : Hid (v40.heap[g39]? = some (.cells #[.int .i64 0] 3 (0, 0))) := (hb.block _ (Array.getElem?_eq_some_iff.1 Hz_v39_13.out).1).trans Hz_v39_13.out
      refine hK.out _ _ (fun _ => h_v40) ?_
      clear hK K hb h_v39 Hz_v39_12 Hz_v39_13
      refine one_L (i := 11) (by kernel_rfl) rfl (fun K hK => ?_)
      go_simp
      refine (HC2.out v40 h_v40).mono ?_
      rintro _ v41 ⟨rfl, hb⟩
      have h_v41 : (fun W => Below va.heap.size va W) v41 := h_v40.trans (hb.mono h_v40.size)
      have Hz_v41_12 : Hid (v41.heap[g29]? = some (.cells #[.int .i64 0] 3 (0, 0))) := (hb.block _ (Array.getElem?_eq_some_iff.1 Hz_v40_12.out).1).trans Hz_v40_12.out
      have Hz_v41_13 : Hid (v41.heap[g39]? = some (.cells #[.int .i64 0] 3 (0, 0))) := (hb.block _ (Array.getElem?_eq_some_iff.1 Hz_v40_13.out).1).trans Hz_v40_13.out
      refine hK.out _ _ (fun _ => h_v41) ?_
      clear hK K hb h_v40 Hz_v40_12 Hz_v40_13
      refine one_L (i := 14) (by kernel_rfl) rfl (fun K hK => ?_)
      have s0 : v41.cell? ⟨g29, 0, none⟩ = some (.int .i64 0) := (cell_of_row v41 _ 0 _ 3 (0, 0) Hz_v41_12.out).trans rfl
      have f0 : v41.frozen? ⟨g29, 0, none⟩ = false := frozen_of_row v41 _ 0 _ 3 Hz_v41_12.out
      go_simp
      have h_v42 : (fun W => Below va.heap.size va W) (v41.setCell ⟨g29, 0, none⟩ (.int .i64 (s0v : Int))) := h_v41.setCell (p := ⟨g29, 0, none⟩) Hl_v29_12.out _
      have Hz_v42_12 : Hid ((v41.setCell ⟨g29, 0, none⟩ (.int .i64 (s0v : Int))).heap[g29]? = some (.cells #[.int .i64 (s0v : Int)] 3 (0, 0))) := heap_setCell_same v41 g29 0 _ 3 _ Hz_v41_12.out
      have Hz_v42_13 : Hid ((v41.setCell ⟨g29, 0, none⟩ (.int .i64 (s0v : Int))).heap[g39]? = some (.cells #[.int .i64 0] 3 (0, 0))) := (Below.heap_setCell _ _ _ _ (Ne.symm Hn_v39_12_13.out)).trans Hz_v41_13.out
      refine hK.out _ _ (fun _ => h_v42) ?_
      clear hK K s0 f0 h_v41 Hz_v41_12 Hz_v41_13
      generalize v41.setCell ⟨g29, 0, none⟩ (.int .i64 (s0v : Int)) = v42 at *
      refine one_L (i := 15) (by kernel_rfl) rfl (fun K hK => ?_)
      have s0 : v42.cell? ⟨g39, 0, none⟩ = some (.int .i64 0) := (cell_of_row v42 _ 0 _ 3 (0, 0) Hz_v42_13.out).trans rfl
      have f0 : v42.frozen? ⟨g39, 0, none⟩ = false := frozen_of_row v42 _ 0 _ 3 Hz_v42_13.out
      go_simp
      have h_v43 : (fun W => Below va.heap.size va W) (v42.setCell ⟨g39, 0, none⟩ (.int .i64 (lv : Int))) := h_v42.setCell (p := ⟨g39, 0, none⟩) Hl_v39_13.out _
      have Hz_v43_13 : Hid ((v42.setCell ⟨g39, 0, none⟩ (.int .i64 (lv : Int))).heap[g39]? = some (.cells #[.int .i64 (lv : Int)] 3 (0, 0))) := heap_setCell_same v42 g39 0 _ 3 _ Hz_v42_13.out
      have Hz_v43_12 : Hid ((v42.setCell ⟨g39, 0, none⟩ (.int .i64 (lv : Int))).heap[g29]? = some (.cells #[.int .i64 (s0v : Int)] 3 (0, 0))) := (Below.heap_setCell _ _ _ _ Hn_v39_12_13.out).trans Hz_v42_12.out
      refine hK.out _ _ (fun _ => h_v43) ?_
      clear hK K s0 f0 h_v42 Hz_v42_12 Hz_v42_13
      generalize v42.setCell ⟨g39, 0, none⟩ (.int .i64 (lv : Int)) = v43 at *
      refine done_L (by kernel_rfl) ?_ _
      have hc := HR.out v43 g29 g39 h_v43 Hl_v29_12.out (Hn_v39_12_13.out) Hz_v43_12.out Hz_v43_13.out
      have xb := cell_below y0 h_v43
      have xp := cell_below y1 h_v43
      clear HR HC1 HC2 h_v43 Hz_v43_12 Hz_v43_13 y0 y1 y2 k0 k1 k2 hne
      go_wp2_with fail
      refine hc.mono ?_
      rintro _ w9 ⟨rfl, v, hd, hx, hb9⟩
      have R := HP.out v w9 hd hb9
      clear hc hd hb9 HP xb xp
      go_wp2
      exact R
  · go_simp
    have h_v44 : (fun W => Below va.heap.size va W) (vs.alloc (.cells #[.int .i64 0] 3)) := h_vs.alloc h_vs.size _
    have Hz_v44_13 : Hid ((vs.alloc (.cells #[.int .i64 0] 3)).heap[vs.heap.size]? = some (.cells #[.int .i64 0] 3 (0, 0))) := heap_alloc_new vs _
    have Hl_v44_13 : Hid (va.heap.size ≤ vs.heap.size) := h_vs.size
    refine hK.out _ _ (fun _ => h_v44) ?_
    clear hK K
    generalize vs.alloc (.cells #[.int .i64 0] 3) = v44 at *
    clear h_vs
    generalize vs.heap.size = g44 at *
    refine two_L (i := 5) (j := 12) (by kernel_rfl) rfl rfl (fun K hK => ?_) (fun K hK => ?_)
    · go_simp
      go_invoke
      go_simp
      refine (HC1.out v44 h_v44).mono ?_
      rintro _ v45 ⟨rfl, hb⟩
      have h_v45 : (fun W => Below va.heap.size va W) v45 := h_v44.trans (hb.mono h_v44.size)
      have Hz_v45_13 : Hid (v45.heap[g44]? = some (.cells #[.int .i64 0] 3 (0, 0))) := (hb.block _ (Array.getElem?_eq_some_iff.1 Hz_v44_13.out).1).trans Hz_v44_13.out
      refine hK.out _ _ (fun _ => h_v45) ?_
      clear hK K hb h_v44 Hz_v44_13
      refine two_L (i := 11) (j := 12) (by kernel_rfl) rfl rfl (fun K hK => ?_) (fun K hK => ?_)
      · go_simp
        refine (HC2.out v45 h_v45).mono ?_
        rintro _ v46 ⟨rfl, hb⟩
        have h_v46 : (fun W => Below va.heap.size va W) v46 := h_v45.trans (hb.mono h_v45.size)
        have Hz_v46_13 : Hid (v46.heap[g44]? = some (.cells #[.int .i64 0] 3 (0, 0))) := (hb.block _ (Array.getElem?_eq_some_iff.1 Hz_v45_13.out).1).trans Hz_v45_13.out
        refine hK.out _ _ (fun _ => h_v46) ?_
        clear hK K hb h_v45 Hz_v45_13
        refine one_L (i := 12) (by kernel_rfl) rfl (fun K hK => ?_)
        go_simp
        have h_v47 : (fun W => Below va.heap.size va W) (v46.alloc (.cells #[.int .i64 0] 3)) := h_v46.alloc h_v46.size _
        have Hz_v47_12 : Hid ((v46.alloc (.cells #[.int .i64 0] 3)).heap[v46.heap.size]? = some (.cells #[.int .i64 0] 3 (0, 0))) := heap_alloc_new v46 _
        have Hz_v47_13 : Hid ((v46.alloc (.cells #[.int .i64 0] 3)).heap[g44]? = some (.cells #[.int .i64 0] 3 (0, 0))) := (heap_alloc_old v46 _ (Array.getElem?_eq_some_iff.1 Hz_v46_13.out).1).trans Hz_v46_13.out
        have Hn_v47_13_12 : Hid (g44 ≠ v46.heap.size) := Nat.ne_of_lt (Array.getElem?_eq_some_iff.1 Hz_v46_13.out).1
        have Hl_v47_12 : Hid (va.heap.size ≤ v46.heap.size) := h_v46.size
        refine hK.out _ _ (fun _ => h_v47) ?_
        clear hK K Hz_v46_13
        generalize v46.alloc (.cells #[.int .i64 0] 3) = v47 at *
        clear h_v46
        generalize v46.heap.size = g47 at *
        refine one_L (i := 14) (by kernel_rfl) rfl (fun K hK => ?_)
        have s0 : v47.cell? ⟨g47, 0, none⟩ = some (.int .i64 0) := (cell_of_row v47 _ 0 _ 3 (0, 0) Hz_v47_12.out).trans rfl
        have f0 : v47.frozen? ⟨g47, 0, none⟩ = false := frozen_of_row v47 _ 0 _ 3 Hz_v47_12.out
        go_simp
        have h_v48 : (fun W => Below va.heap.size va W) (v47.setCell ⟨g47, 0, none⟩ (.int .i64 (s0v : Int))) := h_v47.setCell (p := ⟨g47, 0, none⟩) Hl_v47_12.out _
        have Hz_v48_12 : Hid ((v47.setCell ⟨g47, 0, none⟩ (.int .i64 (s0v : Int))).heap[g47]? = some (.cells #[.int .i64 (s0v : Int)] 3 (0, 0))) := heap_setCell_same v47 g47 0 _ 3 _ Hz_v47_12.out
        have Hz_v48_13 : Hid ((v47.setCell ⟨g47, 0, none⟩ (.int .i64 (s0v : Int))).heap[g44]? = some (.cells #[.int .i64 0] 3 (0, 0))) := (Below.heap_setCell _ _ _ _ Hn_v47_13_12.out).trans Hz_v47_13.out
        refine hK.out _ _ (fun _ => h_v48) ?_
        clear hK K s0 f0 h_v47 Hz_v47_13 Hz_v47_12
        generalize v47.setCell ⟨g47, 0, none⟩ (.int .i64 (s0v : Int)) = v48 at *
        refine one_L (i := 15) (by kernel_rfl) rfl (fun K hK => ?_)
        have s0 : v48.cell? ⟨g44, 0, none⟩ = some (.int .i64 0) := (cell_of_row v48 _ 0 _ 3 (0, 0) Hz_v48_13.out).trans rfl
        have f0 : v48.frozen? ⟨g44, 0, none⟩ = false := frozen_of_row v48 _ 0 _ 3 Hz_v48_13.out
        go_simp
        have h_v49 : (fun W => Below va.heap.size va W) (v48.setCell ⟨g44, 0, none⟩ (.int .i64 (lv : Int))) := h_v48.setCell (p := ⟨g44, 0, none⟩) Hl_v44_13.out _
        have Hz_v49_13 : Hid ((v48.setCell ⟨g44, 0, none⟩ (.int .i64 (lv : Int))).heap[g44]? = some (.cells #[.int .i64 (lv : Int)] 3 (0, 0))) := heap_setCell_same v48 g44 0 _ 3 _ Hz_v48_13.out
        have Hz_v49_12 : Hid ((v48.setCell ⟨g44, 0, none⟩ (.int .i64 (lv : Int))).heap[g47]? = some (.cells #[.int .i64 (s0v : Int)] 3 (0, 0))) := (Below.heap_setCell _ _ _ _ (Ne.symm Hn_v47_13_12.out)).trans Hz_v48_12.out
        refine hK.out _ _ (fun _ => h_v49) ?_
        clear hK K s0 f0 h_v48 Hz_v48_13 Hz_v48_12
        generalize v48.setCell ⟨g44, 0, none⟩ (.int .i64 (lv : Int)) = v49 at *
        refine done_L (by kernel_rfl) ?_ _
        have hc := HR.out v49 g47 g44 h_v49 Hl_v47_12.out (Ne.symm Hn_v47_13_12.out) Hz_v49_12.out Hz_v49_13.out
        have xb := cell_below y0 h_v49
        have xp := cell_below y1 h_v49
        clear HR HC1 HC2 h_v49 Hz_v49_12 Hz_v49_13 y0 y1 y2 k0 k1 k2 hne
        go_wp2_with fail
        refine hc.mono ?_
        rintro _ w9 ⟨rfl, v, hd, hx, hb9⟩
        have R := HP.out v w9 hd hb9
        clear hc hd hb9 HP xb xp
        go_wp2
        exact R
      · go_simp
        have h_v50 : (fun W => Below va.heap.size va W) (v45.alloc (.cells #[.int .i64 0] 3)) := h_v45.alloc h_v45.size _
        have Hz_v50_12 : Hid ((v45.alloc (.cells #[.int .i64 0] 3)).heap[v45.heap.size]? = some (.cells #[.int .i64 0] 3 (0, 0))) := heap_alloc_new v45 _
        have Hz_v50_13 : Hid ((v45.alloc (.cells #[.int .i64 0] 3)).heap[g44]? = some (.cells #[.int .i64 0] 3 (0, 0))) := (heap_alloc_old v45 _ (Array.getElem?_eq_some_iff.1 Hz_v45_13.out).1).trans Hz_v45_13.out
        have Hn_v50_13_12 : Hid (g44 ≠ v45.heap.size) := Nat.ne_of_lt (Array.getElem?_eq_some_iff.1 Hz_v45_13.out).1
        have Hl_v50_12 : Hid (va.heap.size ≤ v45.heap.size) := h_v45.size
        refine hK.out _ _ (fun _ => h_v50) ?_
        clear hK K Hz_v45_13
        generalize v45.alloc (.cells #[.int .i64 0] 3) = v50 at *
        clear h_v45
        generalize v45.heap.size = g50 at *
        refine one_L (i := 11) (by kernel_rfl) rfl (fun K hK => ?_)
        go_simp
        refine (HC2.out v50 h_v50).mono ?_
        rintro _ v51 ⟨rfl, hb⟩
        have h_v51 : (fun W => Below va.heap.size va W) v51 := h_v50.trans (hb.mono h_v50.size)
        have Hz_v51_13 : Hid (v51.heap[g44]? = some (.cells #[.int .i64 0] 3 (0, 0))) := (hb.block _ (Array.getElem?_eq_some_iff.1 Hz_v50_13.out).1).trans Hz_v50_13.out
        have Hz_v51_12 : Hid (v51.heap[g50]? = some (.cells #[.int .i64 0] 3 (0, 0))) := (hb.block _ (Array.getElem?_eq_some_iff.1 Hz_v50_12.out).1).trans Hz_v50_12.out
        refine hK.out _ _ (fun _ => h_v51) ?_
        clear hK K hb h_v50 Hz_v50_13 Hz_v50_12
        refine one_L (i := 14) (by kernel_rfl) rfl (fun K hK => ?_)
        have s0 : v51.cell? ⟨g50, 0, none⟩ = some (.int .i64 0) := (cell_of_row v51 _ 0 _ 3 (0, 0) Hz_v51_12.out).trans rfl
        have f0 : v51.frozen? ⟨g50, 0, none⟩ = false := frozen_of_row v51 _ 0 _ 3 Hz_v51_12.out
        go_simp
        have h_v52 : (fun W => Below va.heap.size va W) (v51.setCell ⟨g50, 0, none⟩ (.int .i64 (s0v : Int))) := h_v51.setCell (p := ⟨g50, 0, none⟩) Hl_v50_12.out _
        have Hz_v52_12 : Hid ((v51.setCell ⟨g50, 0, none⟩ (.int .i64 (s0v : Int))).heap[g50]? = some (.cells #[.int .i64 (s0v : Int)] 3 (0, 0))) := heap_setCell_same v51 g50 0 _ 3 _ Hz_v51_12.out
        have Hz_v52_13 : Hid ((v51.setCell ⟨g50, 0, none⟩ (.int .i64 (s0v : Int))).heap[g44]? = some (.cells #[.int .i64 0] 3 (0, 0))) := (Below.heap_setCell _ _ _ _ Hn_v50_13_12.out).trans Hz_v51_13.out
        refine hK.out _ _ (fun _ => h_v52) ?_
        clear hK K s0 f0 h_v51 Hz_v51_13 Hz_v51_12
        generalize v51.setCell ⟨g50, 0, none⟩ (.int .i64 (s0v : Int)) = v52 at *
        refine one_L (i := 15) (by kernel_rfl) rfl (fun K hK => ?_)
        have s0 : v52.cell? ⟨g44, 0, none⟩ = some (.int .i64 0) := (cell_of_row v52 _ 0 _ 3 (0, 0) Hz_v52_13.out).trans rfl
        have f0 : v52.frozen? ⟨g44, 0, none⟩ = false := frozen_of_row v52 _ 0 _ 3 Hz_v52_13.out
        go_simp
        have h_v53 : (fun W => Below va.heap.size va W) (v52.setCell ⟨g44, 0, none⟩ (.int .i64 (lv : Int))) := h_v52.setCell (p := ⟨g44, 0, none⟩) Hl_v44_13.out _
        have Hz_v53_13 : Hid ((v52.setCell ⟨g44, 0, none⟩ (.int .i64 (lv : Int))).heap[g44]? = some (.cells #[.int .i64 (lv : Int)] 3 (0, 0))) := heap_setCell_same v52 g44 0 _ 3 _ Hz_v52_13.out
        have Hz_v53_12 : Hid ((v52.setCell ⟨g44, 0, none⟩ (.int .i64 (lv : Int))).heap[g50]? = some (.cells #[.int .i64 (s0v : Int)] 3 (0, 0))) := (Below.heap_setCell _ _ _ _ (Ne.symm Hn_v50_13_12.out)).trans Hz_v52_12.out
        refine hK.out _ _ (fun _ => h_v53) ?_
        clear hK K s0 f0 h_v52 Hz_v52_13 Hz_v52_12
        generalize v52.setCell ⟨g44, 0, none⟩ (.int .i64 (lv : Int)) = v53 at *
        refine done_L (by kernel_rfl) ?_ _
        have hc := HR.out v53 g50 g44 h_v53 Hl_v50_12.out (Ne.symm Hn_v50_13_12.out) Hz_v53_12.out Hz_v53_13.out
        have xb := cell_below y0 h_v53
        have xp := cell_below y1 h_v53
        clear HR HC1 HC2 h_v53 Hz_v53_12 Hz_v53_13 y0 y1 y2 k0 k1 k2 hne
        go_wp2_with fail
        refine hc.mono ?_
        rintro _ w9 ⟨rfl, v, hd, hx, hb9⟩
        have R := HP.out v w9 hd hb9
        clear hc hd hb9 HP xb xp
        go_wp2
        exact R
    · go_simp
      have h_v54 : (fun W => Below va.heap.size va W) (v44.alloc (.cells #[.int .i64 0] 3)) := h_v44.alloc h_v44.size _
      have Hz_v54_12 : Hid ((v44.alloc (.cells #[.int .i64 0] 3)).heap[v44.heap.size]? = some (.cells #[.int .i64 0] 3 (0, 0))) := heap_alloc_new v44 _
      have Hz_v54_13 : Hid ((v44.alloc (.cells #[.int .i64 0] 3)).heap[g44]? = some (.cells #[.int .i64 0] 3 (0, 0))) := (heap_alloc_old v44 _ (Array.getElem?_eq_some_iff.1 Hz_v44_13.out).1).trans Hz_v44_13.out
      have Hn_v54_13_12 : Hid (g44 ≠ v44.heap.size) := Nat.ne_of_lt (Array.getElem?_eq_some_iff.1 Hz_v44_13.out).1
      have Hl_v54_12 : Hid (va.heap.size ≤ v44.heap.size) := h_v44.size
      refine hK.out _ _ (fun _ => h_v54) ?_
      clear hK K Hz_v44_13
      generalize v44.alloc (.cells #[.int .i64 0] 3) = v54 at *
      clear h_v44
      generalize v44.heap.size = g54 at *
      refine one_L (i := 5) (by kernel_rfl) rfl (fun K hK => ?_)
      go_simp
      go_invoke
      go_simp
      refine (HC1.out v54 h_v54).mono ?_
      rintro _ v55 ⟨rfl, hb⟩
      have h_v55 : (fun W => Below va.heap.size va W) v55 := h_v54.trans (hb.mono h_v54.size)
      have Hz_v55_13 : Hid (v55.heap[g44]? = some (.cells #[.int .i64 0] 3 (0, 0))) := (hb.block _ (Array.getElem?_eq_some_iff.1 Hz_v54_13.out).1).trans Hz_v54_13.out
      have Hz_v55_12 : Hid (v55.heap[g54]? = some (.cells #[.int .i64 0] 3 (0, 0))) := (hb.block _ (Array.getElem?_eq_some_iff.1 Hz_v54_12.out).1).trans Hz_v54_12.out
      refine hK.out _ _ (fun _ => h_v55) ?_
      clear hK K hb h_v54 Hz_v54_13 Hz_v54_12
      refine one_L (i := 11) (by kernel_rfl) rfl (fun K hK => ?_)
      go_simp
      refine (HC2.out v55 h_v55).mono ?_
      rintro _ v56 ⟨rfl, hb⟩
      have h_v56 : (fun W => Below va.heap.size va W) v56 := h_v55.trans (hb.mono h_v55.size)
      have Hz_v56_13 : Hid (v56.heap[g44]? = some (.cells #[.int .i64 0] 3 (0, 0))) := (hb.block _ (Array.getElem?_eq_some_iff.1 Hz_v55_13.out).1).trans Hz_v55_13.out
      have Hz_v56_12 : Hid (v56.heap[g54]? = some (.cells #[.int .i64 0] 3 (0, 0))) := (hb.block _ (Array.getElem?_eq_some_iff.1 Hz_v55_12.out).1).trans Hz_v55_12.out
      refine hK.out _ _ (fun _ => h_v56) ?_
      clear hK K hb h_v55 Hz_v55_13 Hz_v55_12
      refine one_L (i := 14) (by kernel_rfl) rfl (fun K hK => ?_)
      have s0 : v56.cell? ⟨g54, 0, none⟩ = some (.int .i64 0) := (cell_of_row v56 _ 0 _ 3 (0, 0) Hz_v56_12.out).trans rfl
      have f0 : v56.frozen? ⟨g54, 0, none⟩ = false := frozen_of_row v56 _ 0 _ 3 Hz_v56_12.out
      go_simp
      have h_v57 : (fun W => Below va.heap.size va W) (v56.setCell ⟨g54, 0, none⟩ (.int .i64 (s0v : Int))) := h_v56.setCell (p := ⟨g54, 0, none⟩) Hl_v54_12.out _
      have Hz_v57_12 : Hid ((v56.setCell ⟨g54, 0, none⟩ (.int .i64 (s0v : Int))).heap[g54]? = some (.cells #[.int .i64 (s0v : Int)] 3 (0, 0))) := heap_setCell_same v56 g54 0 _ 3 _ Hz_v56_12.out
      have Hz_v57_13 : Hid ((v56.setCell ⟨g54, 0, none⟩ (.int .i64 (s0v : Int))).heap[g44]? = some (.cells #[.int .i64 0] 3 (0, 0))) := (Below.heap_setCell _ _ _ _ Hn_v54_13_12.out).trans Hz_v56_13.out
      refine hK.out _ _ (fun _ => h_v57) ?_
      clear hK K s0 f0 h_v56 Hz_v56_13 Hz_v56_12
      generalize v56.setCell ⟨g54, 0, none⟩ (.int .i64 (s0v : Int)) = v57 at *
      refine one_L (i := 15) (by kernel_rfl) rfl (fun K hK => ?_)
      have s0 : v57.cell? ⟨g44, 0, none⟩ = some (.int .i64 0) := (cell_of_row v57 _ 0 _ 3 (0, 0) Hz_v57_13.out).trans rfl
      have f0 : v57.frozen? ⟨g44, 0, none⟩ = false := frozen_of_row v57 _ 0 _ 3 Hz_v57_13.out
      go_simp
      have h_v58 : (fun W => Below va.heap.size va W) (v57.setCell ⟨g44, 0, none⟩ (.int .i64 (lv : Int))) := h_v57.setCell (p := ⟨g44, 0, none⟩) Hl_v44_13.out _
      have Hz_v58_13 : Hid ((v57.setCell ⟨g44, 0, none⟩ (.int .i64 (lv : Int))).heap[g44]? = some (.cells #[.int .i64 (lv : Int)] 3 (0, 0))) := heap_setCell_same v57 g44 0 _ 3 _ Hz_v57_13.out
      have Hz_v58_12 : Hid ((v57.setCell ⟨g44, 0, none⟩ (.int .i64 (lv : Int))).heap[g54]? = some (.cells #[.int .i64 (s0v : Int)] 3 (0, 0))) := (Below.heap_setCell _ _ _ _ (Ne.symm Hn_v54_13_12.out)).trans Hz_v57_12.out
      refine hK.out _ _ (fun _ => h_v58) ?_
      clear hK K s0 f0 h_v57 Hz_v57_13 Hz_v57_12
      generalize v57.setCell ⟨g44, 0, none⟩ (.int .i64 (lv : Int)) = v58 at *
      refine done_L (by kernel_rfl) ?_ _
      have hc := HR.out v58 g54 g44 h_v58 Hl_v54_12.out (Ne.symm Hn_v54_13_12.out) Hz_v58_12.out Hz_v58_13.out
      have xb := cell_below y0 h_v58
      have xp := cell_below y1 h_v58
      clear HR HC1 HC2 h_v58 Hz_v58_12 Hz_v58_13 y0 y1 y2 k0 k1 k2 hne
      go_wp2_with fail
      refine hc.mono ?_
      rintro _ w9 ⟨rfl, v, hd, hx, hb9⟩
      have R := HP.out v w9 hd hb9
      clear hc hd hb9 HP xb xp
      go_wp2
      exact R
set_option maxRecDepth 1000000 in
set_option maxHeartbeats 8000000 in
theorem due_lamp (e : LE) (o : LO e) (hsky : e.sky = false) (ls : List Int) (hll : ls.length = e.n) (hlv : Lv ls) (i : Nat) (hi : i < e.n) (w : World) (hM : LM e w) (hp : Pre w e.g 5 ls) :
    Calls Tryd.prog 28 #[.pointer (some ⟨e.q, e.o, none⟩), .int .i64 (i : Int)] w fun x w' => ∃ v : Nat, x = .returned (.int .i64 (v : Int)) ∧ Due (e.sys o.bx) (li ls) (nbl e.W e.D e.T i) i v ∧ Below w.heap.size w w' := by
  obtain ⟨Post, hPost⟩ : ∃ Post : Ending → World → Prop, Post = fun x w' => ∃ v : Nat, x = .returned (.int .i64 (v : Int)) ∧ Due (e.sys o.bx) (li ls) (nbl e.W e.D e.T i) i v ∧ Below w.heap.size w w' := ⟨_, rfl⟩
  rw [← hPost]
  have HP0 : Hid (∀ (v : Nat) w', Due (e.sys o.bx) (li ls) (nbl e.W e.D e.T i) i v → Below w.heap.size w w' → Post (.returned (.int .i64 (v : Int))) w') := fun v w' h1 h2 => by rw [hPost]; exact ⟨v, rfl, h1, h2⟩
  clear hPost
  have HB0 : Hid (Below w.heap.size w (w.alloc (.cells #[.pointer (some ⟨e.q, e.o, none⟩)] 67))) := (Below.refl _ _).alloc (Nat.le_refl _) _
  have hbx0 := heap_alloc_new w (.cells #[.pointer (some ⟨e.q, e.o, none⟩)] 67)
  have hsrc : e.src = .iface 58 (.agg #[.pointer (some ⟨e.p, 0, none⟩)]) := by unfold LE.src; rw [hsky]; rfl
  have hsys : (e.sys o.bx).src i = lampN e.W e.D e.T (fun j => e.ks.getD j 0) i := by rw [sys_src, hsky]; rfl
  have HM0 : Hid (LM e w ∧ Pre w e.g 5 ls) := ⟨hM, hp⟩
  have HS : Hid (LO e ∧ ls.length = e.n ∧ Lv ls ∧ i < e.n) := ⟨o, hll, hlv, hi⟩
  clear hM hp hll hlv hi hsky
  go_enter Tryd.func28, Tryd.ntmps28
  go_wp2_with fail
  obtain ⟨w1, hw1⟩ : ∃ w1, w.alloc (.cells #[.pointer (some ⟨e.q, e.o, none⟩)] 67) = w1 := ⟨_, rfl⟩
  rw [hw1] at HB0 hbx0 ⊢
  have HBX : Hid (w1.heap[w.heap.size]? = some (.cells #[.pointer (some ⟨e.q, e.o, none⟩)] 67 (0, 0)) ∧ w.heap.size < w1.heap.size) := ⟨hbx0, (Array.getElem?_eq_some_iff.1 hbx0).1⟩
  clear hbx0 hw1
  obtain ⟨bx, hbx⟩ : ∃ bx, w.heap.size = bx := ⟨_, rfl⟩
  rw [hbx] at HBX ⊢
  refine region_L (fun W => Below w1.drew.heap.size w1.drew W) 15 (by kernel_rfl) ?_
  obtain ⟨va, hva⟩ : ∃ va, w1.drew = va := ⟨_, rfl⟩
  have hd : Below w1.heap.size w1 va := by rw [← hva]; exact (Below.refl _ w1).drew
  have HBv : Hid (Below w.heap.size w va) := HB0.out.trans (hd.mono HB0.out.size)
  have HBxv : Hid (va.heap[bx]? = some (.cells #[.pointer (some ⟨e.q, e.o, none⟩)] 67 (0, 0)) ∧ bx < va.heap.size) := ⟨(hd.block _ HBX.out.2).trans HBX.out.1, Nat.lt_of_lt_of_le HBX.out.2 hd.size⟩
  rw [hva]
  clear hva hd HBX HB0 hbx
  have h_va : (fun W => Below va.heap.size va W) va := Below.refl _ _
  have hMv : LM e va := HM0.out.1.on HBv.out
  have HMv : Hid (LM e va ∧ Pre va e.g 5 ls) := ⟨hMv, HM0.out.2.on HBv.out⟩
  have y0 : va.cell? ⟨bx, 0, none⟩ = some (.pointer (some ⟨e.q, e.o, none⟩)) := (cell_of_row va bx 0 _ 67 (0, 0) HBxv.out.1).trans rfl
  have y1 := hMv.l0
  have y2 := hMv.l1
  rw [hsrc] at y2
  have hne : Nonempty (Sub (fun W => Below va.heap.size va W)) := ⟨⟨_, h_va⟩⟩
  have k0 : ∀ s : Sub (fun W => Below va.heap.size va W), s.w.cell? ⟨bx, 0, none⟩ = some (.pointer (some ⟨e.q, e.o, none⟩)) := fun s => cell_below y0 s.ok
  have k1 : ∀ s : Sub (fun W => Below va.heap.size va W), s.w.cell? ⟨e.q, e.o, none⟩ = some (.pointer (some ⟨e.p, 0, none⟩)) := fun s => cell_below y1 s.ok
  have k2 : ∀ s : Sub (fun W => Below va.heap.size va W), s.w.cell? ⟨e.q, e.o + 1, none⟩ = some (.iface 58 (.agg #[.pointer (some ⟨e.p, 0, none⟩)])) := fun s => cell_below y2 s.ok
  obtain ⟨s0v, hs0⟩ : ∃ x, (e.sys o.bx).src i = x := ⟨_, rfl⟩
  obtain ⟨lv, hlvv⟩ : ∃ x, lossF (e.ks.getD i 0) = x := ⟨_, rfl⟩
  have HC1 : Hid (∀ W, Below va.heap.size va W → Calls Tryd.prog 67 #[.agg #[.pointer (some ⟨e.p, 0, none⟩)], .int .i64 (i : Int)] W fun x w' => x = .returned (.int .i64 (s0v : Int)) ∧ Below W.heap.size W w') := fun W hW => by
    have := lamp_c e HS.out.1 i HS.out.2.2.2 W (HMv.out.1.on hW).bm
    rwa [← hsys, hs0] at this
  have HC2 : Hid (∀ W, Below va.heap.size va W → Calls Tryd.prog 31 #[.pointer (some ⟨e.p, 0, none⟩), .int .i64 (i : Int)] W fun x w' => x = .returned (.int .i64 (lv : Int)) ∧ Below W.heap.size W w') := fun W hW => by
    have := loss_c e HS.out.1 i HS.out.2.2.2 W (HMv.out.1.on hW).bm
    rwa [hlvv] at this
  have HR : Hid (∀ W g5 g6, Below va.heap.size va W → va.heap.size ≤ g5 → g5 ≠ g6 → W.heap[g5]? = some (.cells #[.int .i64 (s0v : Int)] 3 (0, 0)) → W.heap[g6]? = some (.cells #[.int .i64 (lv : Int)] 3 (0, 0)) → Calls Tryd.prog 29 #[.pointer (some ⟨e.p, 0, none⟩), .int .i64 (i : Int), .func (.func 41) #[] #[.pointer (some ⟨g5, 0, none⟩), .pointer (some ⟨bx, 0, none⟩), .pointer (some ⟨g6, 0, none⟩)]] W fun x w' =>
      x = .returned (.tuple #[]) ∧ ∃ v : Nat, Due (e.sys o.bx) (li ls) (nbl e.W e.D e.T i) i v ∧ w'.cell? ⟨g5, 0, none⟩ = some (.int .i64 (v : Int)) ∧ Below va.heap.size va w') := fun W g5 g6 hW n5 n6 h5 h6 =>
    due2_c e HS.out.1 ls HS.out.2.1 HS.out.2.2.1 i HS.out.2.2.2 g5 bx g6 va W HMv.out.1 HMv.out.2 hW n5 n6 (by have := HBxv.out.2; omega) (by rw [hs0]; exact h5) (by rw [hlvv]; exact h6) ((hW.block _ HBxv.out.2).trans HBxv.out.1)
  have HP : Hid (∀ (v : Nat) w', Due (e.sys o.bx) (li ls) (nbl e.W e.D e.T i) i v → Below va.heap.size va w' → Post (.returned (.int .i64 (v : Int))) w') := fun v w' h1 h2 => HP0.out v w' h1 (HBv.out.trans (h2.mono HBv.out.size))
  clear hs0 hlvv hsys hMv HMv HBxv HBv HM0 HP0 HS hsrc
  refine (?_ : ∀ vs, Below va.heap.size va vs → wpAnyL Tryd.prog .any _ _ (fun W => Below va.heap.size va W) 15 _ _ _ vs) va (Below.refl _ _)
  intro vs h_vs
  refine take_L (i := 0) rfl (by kernel_rfl) (by kernel_rfl) (by kernel_rfl) (by kernel_rfl) (fun _ _ _ _ h => h) (by exact h_vs) (fun K hK => ?_)
  go_simp
  refine hK _ ?_
  clear hK K
  refine take_L (i := 1) rfl (by kernel_rfl) (by kernel_rfl) (by kernel_rfl) (by kernel_rfl) (fun _ _ _ _ h => h) (by exact h_vs) (fun K hK => ?_)
  go_simp
  refine hK _ ?_
  clear hK K
  refine take_L (i := 2) rfl (by kernel_rfl) (by kernel_rfl) (by kernel_rfl) (by kernel_rfl) (fun _ _ _ _ h => h) (by exact h_vs) (fun K hK => ?_)
  go_simp
  refine hK _ ?_
  clear hK K
  refine take_L (i := 3) rfl (by kernel_rfl) (by kernel_rfl) (by kernel_rfl) (by kernel_rfl) (fun _ _ _ _ h => h) (by exact h_vs) (fun K hK => ?_)
  go_simp
  refine hK _ ?_
  clear hK K
  refine take_L (i := 4) rfl (by kernel_rfl) (by kernel_rfl) (by kernel_rfl) (by kernel_rfl) (fun _ _ _ _ h => h) (by exact h_vs) (fun K hK => ?_)
  go_simp
  refine hK _ ?_
  clear hK K
  refine take_L (i := 6) rfl (by kernel_rfl) (by kernel_rfl) (by kernel_rfl) (by kernel_rfl) (fun _ _ _ _ h => h) (by exact h_vs) (fun K hK => ?_)
  go_simp
  refine hK _ ?_
  clear hK K
  refine take_L (i := 7) rfl (by kernel_rfl) (by kernel_rfl) (by kernel_rfl) (by kernel_rfl) (fun _ _ _ _ h => h) (by exact h_vs) (fun K hK => ?_)
  go_simp
  refine hK _ ?_
  clear hK K
  refine take_L (i := 8) rfl (by kernel_rfl) (by kernel_rfl) (by kernel_rfl) (by kernel_rfl) (fun _ _ _ _ h => h) (by exact h_vs) (fun K hK => ?_)
  go_simp
  refine hK _ ?_
  clear hK K
  refine take_L (i := 9) rfl (by kernel_rfl) (by kernel_rfl) (by kernel_rfl) (by kernel_rfl) (fun _ _ _ _ h => h) (by exact h_vs) (fun K hK => ?_)
  go_simp
  refine hK _ ?_
  clear hK K
  refine take_L (i := 10) rfl (by kernel_rfl) (by kernel_rfl) (by kernel_rfl) (by kernel_rfl) (fun _ _ _ _ h => h) (by exact h_vs) (fun K hK => ?_)
  go_simp
  refine hK _ ?_
  clear hK K
  refine three_L (i := 5) (j := 12) (k := 13) (by kernel_rfl) rfl rfl rfl (fun K hK => ?_) (fun K hK => ?_) (fun K hK => ?_)
  · go_simp
    go_invoke
    go_simp
    refine (HC1.out vs h_vs).mono ?_
    rintro _ v1 ⟨rfl, hb⟩
    have h_v1 : (fun W => Below va.heap.size va W) v1 := h_vs.trans (hb.mono h_vs.size)
    refine hK.out _ _ (fun _ => h_v1) ?_
    clear hK K hb h_vs
    refine three_L (i := 11) (j := 12) (k := 13) (by kernel_rfl) rfl rfl rfl (fun K hK => ?_) (fun K hK => ?_) (fun K hK => ?_)
    · go_simp
      refine (HC2.out v1 h_v1).mono ?_
      rintro _ v2 ⟨rfl, hb⟩
      have h_v2 : (fun W => Below va.heap.size va W) v2 := h_v1.trans (hb.mono h_v1.size)
      refine hK.out _ _ (fun _ => h_v2) ?_
      clear hK K hb h_v1
      refine two_L (i := 12) (j := 13) (by kernel_rfl) rfl rfl (fun K hK => ?_) (fun K hK => ?_)
      · go_simp
        have h_v3 : (fun W => Below va.heap.size va W) (v2.alloc (.cells #[.int .i64 0] 3)) := h_v2.alloc h_v2.size _
        have Hz_v3_12 : Hid ((v2.alloc (.cells #[.int .i64 0] 3)).heap[v2.heap.size]? = some (.cells #[.int .i64 0] 3 (0, 0))) := heap_alloc_new v2 _
        have Hl_v3_12 : Hid (va.heap.size ≤ v2.heap.size) := h_v2.size
        refine hK.out _ _ (fun _ => h_v3) ?_
        clear hK K
        generalize v2.alloc (.cells #[.int .i64 0] 3) = v3 at *
        clear h_v2
        generalize v2.heap.size = g3 at *
        refine one_L (i := 13) (by kernel_rfl) rfl (fun K hK => ?_)
        go_simp
        have h_v4 : (fun W => Below va.heap.size va W) (v3.alloc (.cells #[.int .i64 0] 3)) := h_v3.alloc h_v3.size _
        have Hz_v4_13 : Hid ((v3.alloc (.cells #[.int .i64 0] 3)).heap[v3.heap.size]? = some (.cells #[.int .i64 0] 3 (0, 0))) := heap_alloc_new v3 _
        have Hz_v4_12 : Hid ((v3.alloc (.cells #[.int .i64 0] 3)).heap[g3]? = some (.cells #[.int .i64 0] 3 (0, 0))) := (heap_alloc_old v3 _ (Array.getElem?_eq_some_iff.1 Hz_v3_12.out).1).trans Hz_v3_12.out
        have Hn_v4_12_13 : Hid (g3 ≠ v3.heap.size) := Nat.ne_of_lt (Array.getElem?_eq_some_iff.1 Hz_v3_12.out).1
        have Hl_v4_13 : Hid (va.heap.size ≤ v3.heap.size) := h_v3.size
        refine hK.out _ _ (fun _ => h_v4) ?_
        clear hK K Hz_v3_12
        generalize v3.alloc (.cells #[.int .i64 0] 3) = v4 at *
        clear h_v3
        generalize v3.heap.size = g4 at *
        refine one_L (i := 14) (by kernel_rfl) rfl (fun K hK => ?_)
        have s0 : v4.cell? ⟨g3, 0, none⟩ = some (.int .i64 0) := (cell_of_row v4 _ 0 _ 3 (0, 0) Hz_v4_12.out).trans rfl
        have f0 : v4.frozen? ⟨g3, 0, none⟩ = false := frozen_of_row v4 _ 0 _ 3 Hz_v4_12.out
        go_simp
        have h_v5 : (fun W => Below va.heap.size va W) (v4.setCell ⟨g3, 0, none⟩ (.int .i64 (s0v : Int))) := h_v4.setCell (p := ⟨g3, 0, none⟩) Hl_v3_12.out _
        have Hz_v5_12 : Hid ((v4.setCell ⟨g3, 0, none⟩ (.int .i64 (s0v : Int))).heap[g3]? = some (.cells #[.int .i64 (s0v : Int)] 3 (0, 0))) := heap_setCell_same v4 g3 0 _ 3 _ Hz_v4_12.out
        have Hz_v5_13 : Hid ((v4.setCell ⟨g3, 0, none⟩ (.int .i64 (s0v : Int))).heap[g4]? = some (.cells #[.int .i64 0] 3 (0, 0))) := (Below.heap_setCell _ _ _ _ (Ne.symm Hn_v4_12_13.out)).trans Hz_v4_13.out
        refine hK.out _ _ (fun _ => h_v5) ?_
        clear hK K s0 f0 h_v4 Hz_v4_12 Hz_v4_13
        generalize v4.setCell ⟨g3, 0, none⟩ (.int .i64 (s0v : Int)) = v5 at *
        refine one_L (i := 15) (by kernel_rfl) rfl (fun K hK => ?_)
        have s0 : v5.cell? ⟨g4, 0, none⟩ = some (.int .i64 0) := (cell_of_row v5 _ 0 _ 3 (0, 0) Hz_v5_13.out).trans rfl
        have f0 : v5.frozen? ⟨g4, 0, none⟩ = false := frozen_of_row v5 _ 0 _ 3 Hz_v5_13.out
        go_simp
        have h_v6 : (fun W => Below va.heap.size va W) (v5.setCell ⟨g4, 0, none⟩ (.int .i64 (lv : Int))) := h_v5.setCell (p := ⟨g4, 0, none⟩) Hl_v4_13.out _
        have Hz_v6_13 : Hid ((v5.setCell ⟨g4, 0, none⟩ (.int .i64 (lv : Int))).heap[g4]? = some (.cells #[.int .i64 (lv : Int)] 3 (0, 0))) := heap_setCell_same v5 g4 0 _ 3 _ Hz_v5_13.out
        have Hz_v6_12 : Hid ((v5.setCell ⟨g4, 0, none⟩ (.int .i64 (lv : Int))).heap[g3]? = some (.cells #[.int .i64 (s0v : Int)] 3 (0, 0))) := (Below.heap_setCell _ _ _ _ Hn_v4_12_13.out).trans Hz_v5_12.out
        refine hK.out _ _ (fun _ => h_v6) ?_
        clear hK K s0 f0 h_v5 Hz_v5_12 Hz_v5_13
        generalize v5.setCell ⟨g4, 0, none⟩ (.int .i64 (lv : Int)) = v6 at *
        refine done_L (by kernel_rfl) ?_ _
        have hc := HR.out v6 g3 g4 h_v6 Hl_v3_12.out (Hn_v4_12_13.out) Hz_v6_12.out Hz_v6_13.out
        have xb := cell_below y0 h_v6
        have xp := cell_below y1 h_v6
        clear HR HC1 HC2 h_v6 Hz_v6_12 Hz_v6_13 y0 y1 y2 k0 k1 k2 hne
        go_wp2_with fail
        refine hc.mono ?_
        rintro _ w9 ⟨rfl, v, hd, hx, hb9⟩
        have R := HP.out v w9 hd hb9
        clear hc hd hb9 HP xb xp
        go_wp2
        exact R
      · go_simp
        have h_v7 : (fun W => Below va.heap.size va W) (v2.alloc (.cells #[.int .i64 0] 3)) := h_v2.alloc h_v2.size _
        have Hz_v7_13 : Hid ((v2.alloc (.cells #[.int .i64 0] 3)).heap[v2.heap.size]? = some (.cells #[.int .i64 0] 3 (0, 0))) := heap_alloc_new v2 _
        have Hl_v7_13 : Hid (va.heap.size ≤ v2.heap.size) := h_v2.size
        refine hK.out _ _ (fun _ => h_v7) ?_
        clear hK K
        generalize v2.alloc (.cells #[.int .i64 0] 3) = v7 at *
        clear h_v2
        generalize v2.heap.size = g7 at *
        refine one_L (i := 12) (by kernel_rfl) rfl (fun K hK => ?_)
        go_simp
        have h_v8 : (fun W => Below va.heap.size va W) (v7.alloc (.cells #[.int .i64 0] 3)) := h_v7.alloc h_v7.size _
        have Hz_v8_12 : Hid ((v7.alloc (.cells #[.int .i64 0] 3)).heap[v7.heap.size]? = some (.cells #[.int .i64 0] 3 (0, 0))) := heap_alloc_new v7 _
        have Hz_v8_13 : Hid ((v7.alloc (.cells #[.int .i64 0] 3)).heap[g7]? = some (.cells #[.int .i64 0] 3 (0, 0))) := (heap_alloc_old v7 _ (Array.getElem?_eq_some_iff.1 Hz_v7_13.out).1).trans Hz_v7_13.out
        have Hn_v8_13_12 : Hid (g7 ≠ v7.heap.size) := Nat.ne_of_lt (Array.getElem?_eq_some_iff.1 Hz_v7_13.out).1
        have Hl_v8_12 : Hid (va.heap.size ≤ v7.heap.size) := h_v7.size
        refine hK.out _ _ (fun _ => h_v8) ?_
        clear hK K Hz_v7_13
        generalize v7.alloc (.cells #[.int .i64 0] 3) = v8 at *
        clear h_v7
        generalize v7.heap.size = g8 at *
        refine one_L (i := 14) (by kernel_rfl) rfl (fun K hK => ?_)
        have s0 : v8.cell? ⟨g8, 0, none⟩ = some (.int .i64 0) := (cell_of_row v8 _ 0 _ 3 (0, 0) Hz_v8_12.out).trans rfl
        have f0 : v8.frozen? ⟨g8, 0, none⟩ = false := frozen_of_row v8 _ 0 _ 3 Hz_v8_12.out
        go_simp
        have h_v9 : (fun W => Below va.heap.size va W) (v8.setCell ⟨g8, 0, none⟩ (.int .i64 (s0v : Int))) := h_v8.setCell (p := ⟨g8, 0, none⟩) Hl_v8_12.out _
        have Hz_v9_12 : Hid ((v8.setCell ⟨g8, 0, none⟩ (.int .i64 (s0v : Int))).heap[g8]? = some (.cells #[.int .i64 (s0v : Int)] 3 (0, 0))) := heap_setCell_same v8 g8 0 _ 3 _ Hz_v8_12.out
        have Hz_v9_13 : Hid ((v8.setCell ⟨g8, 0, none⟩ (.int .i64 (s0v : Int))).heap[g7]? = some (.cells #[.int .i64 0] 3 (0, 0))) := (Below.heap_setCell _ _ _ _ Hn_v8_13_12.out).trans Hz_v8_13.out
        refine hK.out _ _ (fun _ => h_v9) ?_
        clear hK K s0 f0 h_v8 Hz_v8_13 Hz_v8_12
        generalize v8.setCell ⟨g8, 0, none⟩ (.int .i64 (s0v : Int)) = v9 at *
        refine one_L (i := 15) (by kernel_rfl) rfl (fun K hK => ?_)
        have s0 : v9.cell? ⟨g7, 0, none⟩ = some (.int .i64 0) := (cell_of_row v9 _ 0 _ 3 (0, 0) Hz_v9_13.out).trans rfl
        have f0 : v9.frozen? ⟨g7, 0, none⟩ = false := frozen_of_row v9 _ 0 _ 3 Hz_v9_13.out
        go_simp
        have h_v10 : (fun W => Below va.heap.size va W) (v9.setCell ⟨g7, 0, none⟩ (.int .i64 (lv : Int))) := h_v9.setCell (p := ⟨g7, 0, none⟩) Hl_v7_13.out _
        have Hz_v10_13 : Hid ((v9.setCell ⟨g7, 0, none⟩ (.int .i64 (lv : Int))).heap[g7]? = some (.cells #[.int .i64 (lv : Int)] 3 (0, 0))) := heap_setCell_same v9 g7 0 _ 3 _ Hz_v9_13.out
        have Hz_v10_12 : Hid ((v9.setCell ⟨g7, 0, none⟩ (.int .i64 (lv : Int))).heap[g8]? = some (.cells #[.int .i64 (s0v : Int)] 3 (0, 0))) := (Below.heap_setCell _ _ _ _ (Ne.symm Hn_v8_13_12.out)).trans Hz_v9_12.out
        refine hK.out _ _ (fun _ => h_v10) ?_
        clear hK K s0 f0 h_v9 Hz_v9_13 Hz_v9_12
        generalize v9.setCell ⟨g7, 0, none⟩ (.int .i64 (lv : Int)) = v10 at *
        refine done_L (by kernel_rfl) ?_ _
        have hc := HR.out v10 g8 g7 h_v10 Hl_v8_12.out (Ne.symm Hn_v8_13_12.out) Hz_v10_12.out Hz_v10_13.out
        have xb := cell_below y0 h_v10
        have xp := cell_below y1 h_v10
        clear HR HC1 HC2 h_v10 Hz_v10_12 Hz_v10_13 y0 y1 y2 k0 k1 k2 hne
        go_wp2_with fail
        refine hc.mono ?_
        rintro _ w9 ⟨rfl, v, hd, hx, hb9⟩
        have R := HP.out v w9 hd hb9
        clear hc hd hb9 HP xb xp
        go_wp2
        exact R
    · go_simp
      have h_v11 : (fun W => Below va.heap.size va W) (v1.alloc (.cells #[.int .i64 0] 3)) := h_v1.alloc h_v1.size _
      have Hz_v11_12 : Hid ((v1.alloc (.cells #[.int .i64 0] 3)).heap[v1.heap.size]? = some (.cells #[.int .i64 0] 3 (0, 0))) := heap_alloc_new v1 _
      have Hl_v11_12 : Hid (va.heap.size ≤ v1.heap.size) := h_v1.size
      refine hK.out _ _ (fun _ => h_v11) ?_
      clear hK K
      generalize v1.alloc (.cells #[.int .i64 0] 3) = v11 at *
      clear h_v1
      generalize v1.heap.size = g11 at *
      refine two_L (i := 11) (j := 13) (by kernel_rfl) rfl rfl (fun K hK => ?_) (fun K hK => ?_)
      · go_simp
        refine (HC2.out v11 h_v11).mono ?_
        rintro _ v12 ⟨rfl, hb⟩
        have h_v12 : (fun W => Below va.heap.size va W) v12 := h_v11.trans (hb.mono h_v11.size)
        have Hz_v12_12 : Hid (v12.heap[g11]? = some (.cells #[.int .i64 0] 3 (0, 0))) := (hb.block _ (Array.getElem?_eq_some_iff.1 Hz_v11_12.out).1).trans Hz_v11_12.out
        refine hK.out _ _ (fun _ => h_v12) ?_
        clear hK K hb h_v11 Hz_v11_12
        refine one_L (i := 13) (by kernel_rfl) rfl (fun K hK => ?_)
        go_simp
        have h_v13 : (fun W => Below va.heap.size va W) (v12.alloc (.cells #[.int .i64 0] 3)) := h_v12.alloc h_v12.size _
        have Hz_v13_13 : Hid ((v12.alloc (.cells #[.int .i64 0] 3)).heap[v12.heap.size]? = some (.cells #[.int .i64 0] 3 (0, 0))) := heap_alloc_new v12 _
        have Hz_v13_12 : Hid ((v12.alloc (.cells #[.int .i64 0] 3)).heap[g11]? = some (.cells #[.int .i64 0] 3 (0, 0))) := (heap_alloc_old v12 _ (Array.getElem?_eq_some_iff.1 Hz_v12_12.out).1).trans Hz_v12_12.out
        have Hn_v13_12_13 : Hid (g11 ≠ v12.heap.size) := Nat.ne_of_lt (Array.getElem?_eq_some_iff.1 Hz_v12_12.out).1
        have Hl_v13_13 : Hid (va.heap.size ≤ v12.heap.size) := h_v12.size
        refine hK.out _ _ (fun _ => h_v13) ?_
        clear hK K Hz_v12_12
        generalize v12.alloc (.cells #[.int .i64 0] 3) = v13 at *
        clear h_v12
        generalize v12.heap.size = g13 at *
        refine one_L (i := 14) (by kernel_rfl) rfl (fun K hK => ?_)
        have s0 : v13.cell? ⟨g11, 0, none⟩ = some (.int .i64 0) := (cell_of_row v13 _ 0 _ 3 (0, 0) Hz_v13_12.out).trans rfl
        have f0 : v13.frozen? ⟨g11, 0, none⟩ = false := frozen_of_row v13 _ 0 _ 3 Hz_v13_12.out
        go_simp
        have h_v14 : (fun W => Below va.heap.size va W) (v13.setCell ⟨g11, 0, none⟩ (.int .i64 (s0v : Int))) := h_v13.setCell (p := ⟨g11, 0, none⟩) Hl_v11_12.out _
        have Hz_v14_12 : Hid ((v13.setCell ⟨g11, 0, none⟩ (.int .i64 (s0v : Int))).heap[g11]? = some (.cells #[.int .i64 (s0v : Int)] 3 (0, 0))) := heap_setCell_same v13 g11 0 _ 3 _ Hz_v13_12.out
        have Hz_v14_13 : Hid ((v13.setCell ⟨g11, 0, none⟩ (.int .i64 (s0v : Int))).heap[g13]? = some (.cells #[.int .i64 0] 3 (0, 0))) := (Below.heap_setCell _ _ _ _ (Ne.symm Hn_v13_12_13.out)).trans Hz_v13_13.out
        refine hK.out _ _ (fun _ => h_v14) ?_
        clear hK K s0 f0 h_v13 Hz_v13_12 Hz_v13_13
        generalize v13.setCell ⟨g11, 0, none⟩ (.int .i64 (s0v : Int)) = v14 at *
        refine one_L (i := 15) (by kernel_rfl) rfl (fun K hK => ?_)
        have s0 : v14.cell? ⟨g13, 0, none⟩ = some (.int .i64 0) := (cell_of_row v14 _ 0 _ 3 (0, 0) Hz_v14_13.out).trans rfl
        have f0 : v14.frozen? ⟨g13, 0, none⟩ = false := frozen_of_row v14 _ 0 _ 3 Hz_v14_13.out
        go_simp
        have h_v15 : (fun W => Below va.heap.size va W) (v14.setCell ⟨g13, 0, none⟩ (.int .i64 (lv : Int))) := h_v14.setCell (p := ⟨g13, 0, none⟩) Hl_v13_13.out _
        have Hz_v15_13 : Hid ((v14.setCell ⟨g13, 0, none⟩ (.int .i64 (lv : Int))).heap[g13]? = some (.cells #[.int .i64 (lv : Int)] 3 (0, 0))) := heap_setCell_same v14 g13 0 _ 3 _ Hz_v14_13.out
        have Hz_v15_12 : Hid ((v14.setCell ⟨g13, 0, none⟩ (.int .i64 (lv : Int))).heap[g11]? = some (.cells #[.int .i64 (s0v : Int)] 3 (0, 0))) := (Below.heap_setCell _ _ _ _ Hn_v13_12_13.out).trans Hz_v14_12.out
        refine hK.out _ _ (fun _ => h_v15) ?_
        clear hK K s0 f0 h_v14 Hz_v14_12 Hz_v14_13
        generalize v14.setCell ⟨g13, 0, none⟩ (.int .i64 (lv : Int)) = v15 at *
        refine done_L (by kernel_rfl) ?_ _
        have hc := HR.out v15 g11 g13 h_v15 Hl_v11_12.out (Hn_v13_12_13.out) Hz_v15_12.out Hz_v15_13.out
        have xb := cell_below y0 h_v15
        have xp := cell_below y1 h_v15
        clear HR HC1 HC2 h_v15 Hz_v15_12 Hz_v15_13 y0 y1 y2 k0 k1 k2 hne
        go_wp2_with fail
        refine hc.mono ?_
        rintro _ w9 ⟨rfl, v, hd, hx, hb9⟩
        have R := HP.out v w9 hd hb9
        clear hc hd hb9 HP xb xp
        go_wp2
        exact R
      · go_simp
        have h_v16 : (fun W => Below va.heap.size va W) (v11.alloc (.cells #[.int .i64 0] 3)) := h_v11.alloc h_v11.size _
        have Hz_v16_13 : Hid ((v11.alloc (.cells #[.int .i64 0] 3)).heap[v11.heap.size]? = some (.cells #[.int .i64 0] 3 (0, 0))) := heap_alloc_new v11 _
        have Hz_v16_12 : Hid ((v11.alloc (.cells #[.int .i64 0] 3)).heap[g11]? = some (.cells #[.int .i64 0] 3 (0, 0))) := (heap_alloc_old v11 _ (Array.getElem?_eq_some_iff.1 Hz_v11_12.out).1).trans Hz_v11_12.out
        have Hn_v16_12_13 : Hid (g11 ≠ v11.heap.size) := Nat.ne_of_lt (Array.getElem?_eq_some_iff.1 Hz_v11_12.out).1
        have Hl_v16_13 : Hid (va.heap.size ≤ v11.heap.size) := h_v11.size
        refine hK.out _ _ (fun _ => h_v16) ?_
        clear hK K Hz_v11_12
        generalize v11.alloc (.cells #[.int .i64 0] 3) = v16 at *
        clear h_v11
        generalize v11.heap.size = g16 at *
        refine one_L (i := 11) (by kernel_rfl) rfl (fun K hK => ?_)
        go_simp
        refine (HC2.out v16 h_v16).mono ?_
        rintro _ v17 ⟨rfl, hb⟩
        have h_v17 : (fun W => Below va.heap.size va W) v17 := h_v16.trans (hb.mono h_v16.size)
        have Hz_v17_12 : Hid (v17.heap[g11]? = some (.cells #[.int .i64 0] 3 (0, 0))) := (hb.block _ (Array.getElem?_eq_some_iff.1 Hz_v16_12.out).1).trans Hz_v16_12.out
        have Hz_v17_13 : Hid (v17.heap[g16]? = some (.cells #[.int .i64 0] 3 (0, 0))) := (hb.block _ (Array.getElem?_eq_some_iff.1 Hz_v16_13.out).1).trans Hz_v16_13.out
        refine hK.out _ _ (fun _ => h_v17) ?_
        clear hK K hb h_v16 Hz_v16_12 Hz_v16_13
        refine one_L (i := 14) (by kernel_rfl) rfl (fun K hK => ?_)
        have s0 : v17.cell? ⟨g11, 0, none⟩ = some (.int .i64 0) := (cell_of_row v17 _ 0 _ 3 (0, 0) Hz_v17_12.out).trans rfl
        have f0 : v17.frozen? ⟨g11, 0, none⟩ = false := frozen_of_row v17 _ 0 _ 3 Hz_v17_12.out
        go_simp
        have h_v18 : (fun W => Below va.heap.size va W) (v17.setCell ⟨g11, 0, none⟩ (.int .i64 (s0v : Int))) := h_v17.setCell (p := ⟨g11, 0, none⟩) Hl_v11_12.out _
        have Hz_v18_12 : Hid ((v17.setCell ⟨g11, 0, none⟩ (.int .i64 (s0v : Int))).heap[g11]? = some (.cells #[.int .i64 (s0v : Int)] 3 (0, 0))) := heap_setCell_same v17 g11 0 _ 3 _ Hz_v17_12.out
        have Hz_v18_13 : Hid ((v17.setCell ⟨g11, 0, none⟩ (.int .i64 (s0v : Int))).heap[g16]? = some (.cells #[.int .i64 0] 3 (0, 0))) := (Below.heap_setCell _ _ _ _ (Ne.symm Hn_v16_12_13.out)).trans Hz_v17_13.out
        refine hK.out _ _ (fun _ => h_v18) ?_
        clear hK K s0 f0 h_v17 Hz_v17_12 Hz_v17_13
        generalize v17.setCell ⟨g11, 0, none⟩ (.int .i64 (s0v : Int)) = v18 at *
        refine one_L (i := 15) (by kernel_rfl) rfl (fun K hK => ?_)
        have s0 : v18.cell? ⟨g16, 0, none⟩ = some (.int .i64 0) := (cell_of_row v18 _ 0 _ 3 (0, 0) Hz_v18_13.out).trans rfl
        have f0 : v18.frozen? ⟨g16, 0, none⟩ = false := frozen_of_row v18 _ 0 _ 3 Hz_v18_13.out
        go_simp
        have h_v19 : (fun W => Below va.heap.size va W) (v18.setCell ⟨g16, 0, none⟩ (.int .i64 (lv : Int))) := h_v18.setCell (p := ⟨g16, 0, none⟩) Hl_v16_13.out _
        have Hz_v19_13 : Hid ((v18.setCell ⟨g16, 0, none⟩ (.int .i64 (lv : Int))).heap[g16]? = some (.cells #[.int .i64 (lv : Int)] 3 (0, 0))) := heap_setCell_same v18 g16 0 _ 3 _ Hz_v18_13.out
        have Hz_v19_12 : Hid ((v18.setCell ⟨g16, 0, none⟩ (.int .i64 (lv : Int))).heap[g11]? = some (.cells #[.int .i64 (s0v : Int)] 3 (0, 0))) := (Below.heap_setCell _ _ _ _ Hn_v16_12_13.out).trans Hz_v18_12.out
        refine hK.out _ _ (fun _ => h_v19) ?_
        clear hK K s0 f0 h_v18 Hz_v18_12 Hz_v18_13
        generalize v18.setCell ⟨g16, 0, none⟩ (.int .i64 (lv : Int)) = v19 at *
        refine done_L (by kernel_rfl) ?_ _
        have hc := HR.out v19 g11 g16 h_v19 Hl_v11_12.out (Hn_v16_12_13.out) Hz_v19_12.out Hz_v19_13.out
        have xb := cell_below y0 h_v19
        have xp := cell_below y1 h_v19
        clear HR HC1 HC2 h_v19 Hz_v19_12 Hz_v19_13 y0 y1 y2 k0 k1 k2 hne
        go_wp2_with fail
        refine hc.mono ?_
        rintro _ w9 ⟨rfl, v, hd, hx, hb9⟩
        have R := HP.out v w9 hd hb9
        clear hc hd hb9 HP xb xp
        go_wp2
        exact R
    · go_simp
      have h_v20 : (fun W => Below va.heap.size va W) (v1.alloc (.cells #[.int .i64 0] 3)) := h_v1.alloc h_v1.size _
      have Hz_v20_13 : Hid ((v1.alloc (.cells #[.int .i64 0] 3)).heap[v1.heap.size]? = some (.cells #[.int .i64 0] 3 (0, 0))) := heap_alloc_new v1 _
      have Hl_v20_13 : Hid (va.heap.size ≤ v1.heap.size) := h_v1.size
      refine hK.out _ _ (fun _ => h_v20) ?_
      clear hK K
      generalize v1.alloc (.cells #[.int .i64 0] 3) = v20 at *
      clear h_v1
      generalize v1.heap.size = g20 at *
      refine two_L (i := 11) (j := 12) (by kernel_rfl) rfl rfl (fun K hK => ?_) (fun K hK => ?_)
      · go_simp
        refine (HC2.out v20 h_v20).mono ?_
        rintro _ v21 ⟨rfl, hb⟩
        have h_v21 : (fun W => Below va.heap.size va W) v21 := h_v20.trans (hb.mono h_v20.size)
        have Hz_v21_13 : Hid (v21.heap[g20]? = some (.cells #[.int .i64 0] 3 (0, 0))) := (hb.block _ (Array.getElem?_eq_some_iff.1 Hz_v20_13.out).1).trans Hz_v20_13.out
        refine hK.out _ _ (fun _ => h_v21) ?_
        clear hK K hb h_v20 Hz_v20_13
        refine one_L (i := 12) (by kernel_rfl) rfl (fun K hK => ?_)
        go_simp
        have h_v22 : (fun W => Below va.heap.size va W) (v21.alloc (.cells #[.int .i64 0] 3)) := h_v21.alloc h_v21.size _
        have Hz_v22_12 : Hid ((v21.alloc (.cells #[.int .i64 0] 3)).heap[v21.heap.size]? = some (.cells #[.int .i64 0] 3 (0, 0))) := heap_alloc_new v21 _
        have Hz_v22_13 : Hid ((v21.alloc (.cells #[.int .i64 0] 3)).heap[g20]? = some (.cells #[.int .i64 0] 3 (0, 0))) := (heap_alloc_old v21 _ (Array.getElem?_eq_some_iff.1 Hz_v21_13.out).1).trans Hz_v21_13.out
        have Hn_v22_13_12 : Hid (g20 ≠ v21.heap.size) := Nat.ne_of_lt (Array.getElem?_eq_some_iff.1 Hz_v21_13.out).1
        have Hl_v22_12 : Hid (va.heap.size ≤ v21.heap.size) := h_v21.size
        refine hK.out _ _ (fun _ => h_v22) ?_
        clear hK K Hz_v21_13
        generalize v21.alloc (.cells #[.int .i64 0] 3) = v22 at *
        clear h_v21
        generalize v21.heap.size = g22 at *
        refine one_L (i := 14) (by kernel_rfl) rfl (fun K hK => ?_)
        have s0 : v22.cell? ⟨g22, 0, none⟩ = some (.int .i64 0) := (cell_of_row v22 _ 0 _ 3 (0, 0) Hz_v22_12.out).trans rfl
        have f0 : v22.frozen? ⟨g22, 0, none⟩ = false := frozen_of_row v22 _ 0 _ 3 Hz_v22_12.out
        go_simp
        have h_v23 : (fun W => Below va.heap.size va W) (v22.setCell ⟨g22, 0, none⟩ (.int .i64 (s0v : Int))) := h_v22.setCell (p := ⟨g22, 0, none⟩) Hl_v22_12.out _
        have Hz_v23_12 : Hid ((v22.setCell ⟨g22, 0, none⟩ (.int .i64 (s0v : Int))).heap[g22]? = some (.cells #[.int .i64 (s0v : Int)] 3 (0, 0))) := heap_setCell_same v22 g22 0 _ 3 _ Hz_v22_12.out
        have Hz_v23_13 : Hid ((v22.setCell ⟨g22, 0, none⟩ (.int .i64 (s0v : Int))).heap[g20]? = some (.cells #[.int .i64 0] 3 (0, 0))) := (Below.heap_setCell _ _ _ _ Hn_v22_13_12.out).trans Hz_v22_13.out
        refine hK.out _ _ (fun _ => h_v23) ?_
        clear hK K s0 f0 h_v22 Hz_v22_13 Hz_v22_12
        generalize v22.setCell ⟨g22, 0, none⟩ (.int .i64 (s0v : Int)) = v23 at *
        refine one_L (i := 15) (by kernel_rfl) rfl (fun K hK => ?_)
        have s0 : v23.cell? ⟨g20, 0, none⟩ = some (.int .i64 0) := (cell_of_row v23 _ 0 _ 3 (0, 0) Hz_v23_13.out).trans rfl
        have f0 : v23.frozen? ⟨g20, 0, none⟩ = false := frozen_of_row v23 _ 0 _ 3 Hz_v23_13.out
        go_simp
        have h_v24 : (fun W => Below va.heap.size va W) (v23.setCell ⟨g20, 0, none⟩ (.int .i64 (lv : Int))) := h_v23.setCell (p := ⟨g20, 0, none⟩) Hl_v20_13.out _
        have Hz_v24_13 : Hid ((v23.setCell ⟨g20, 0, none⟩ (.int .i64 (lv : Int))).heap[g20]? = some (.cells #[.int .i64 (lv : Int)] 3 (0, 0))) := heap_setCell_same v23 g20 0 _ 3 _ Hz_v23_13.out
        have Hz_v24_12 : Hid ((v23.setCell ⟨g20, 0, none⟩ (.int .i64 (lv : Int))).heap[g22]? = some (.cells #[.int .i64 (s0v : Int)] 3 (0, 0))) := (Below.heap_setCell _ _ _ _ (Ne.symm Hn_v22_13_12.out)).trans Hz_v23_12.out
        refine hK.out _ _ (fun _ => h_v24) ?_
        clear hK K s0 f0 h_v23 Hz_v23_13 Hz_v23_12
        generalize v23.setCell ⟨g20, 0, none⟩ (.int .i64 (lv : Int)) = v24 at *
        refine done_L (by kernel_rfl) ?_ _
        have hc := HR.out v24 g22 g20 h_v24 Hl_v22_12.out (Ne.symm Hn_v22_13_12.out) Hz_v24_12.out Hz_v24_13.out
        have xb := cell_below y0 h_v24
        have xp := cell_below y1 h_v24
        clear HR HC1 HC2 h_v24 Hz_v24_12 Hz_v24_13 y0 y1 y2 k0 k1 k2 hne
        go_wp2_with fail
        refine hc.mono ?_
        rintro _ w9 ⟨rfl, v, hd, hx, hb9⟩
        have R := HP.out v w9 hd hb9
        clear hc hd hb9 HP xb xp
        go_wp2
        exact R
      · go_simp
        have h_v25 : (fun W => Below va.heap.size va W) (v20.alloc (.cells #[.int .i64 0] 3)) := h_v20.alloc h_v20.size _
        have Hz_v25_12 : Hid ((v20.alloc (.cells #[.int .i64 0] 3)).heap[v20.heap.size]? = some (.cells #[.int .i64 0] 3 (0, 0))) := heap_alloc_new v20 _
        have Hz_v25_13 : Hid ((v20.alloc (.cells #[.int .i64 0] 3)).heap[g20]? = some (.cells #[.int .i64 0] 3 (0, 0))) := (heap_alloc_old v20 _ (Array.getElem?_eq_some_iff.1 Hz_v20_13.out).1).trans Hz_v20_13.out
        have Hn_v25_13_12 : Hid (g20 ≠ v20.heap.size) := Nat.ne_of_lt (Array.getElem?_eq_some_iff.1 Hz_v20_13.out).1
        have Hl_v25_12 : Hid (va.heap.size ≤ v20.heap.size) := h_v20.size
        refine hK.out _ _ (fun _ => h_v25) ?_
        clear hK K Hz_v20_13
        generalize v20.alloc (.cells #[.int .i64 0] 3) = v25 at *
        clear h_v20
        generalize v20.heap.size = g25 at *
        refine one_L (i := 11) (by kernel_rfl) rfl (fun K hK => ?_)
        go_simp
        refine (HC2.out v25 h_v25).mono ?_
        rintro _ v26 ⟨rfl, hb⟩
        have h_v26 : (fun W => Below va.heap.size va W) v26 := h_v25.trans (hb.mono h_v25.size)
        have Hz_v26_13 : Hid (v26.heap[g20]? = some (.cells #[.int .i64 0] 3 (0, 0))) := (hb.block _ (Array.getElem?_eq_some_iff.1 Hz_v25_13.out).1).trans Hz_v25_13.out
        have Hz_v26_12 : Hid (v26.heap[g25]? = some (.cells #[.int .i64 0] 3 (0, 0))) := (hb.block _ (Array.getElem?_eq_some_iff.1 Hz_v25_12.out).1).trans Hz_v25_12.out
        refine hK.out _ _ (fun _ => h_v26) ?_
        clear hK K hb h_v25 Hz_v25_13 Hz_v25_12
        refine one_L (i := 14) (by kernel_rfl) rfl (fun K hK => ?_)
        have s0 : v26.cell? ⟨g25, 0, none⟩ = some (.int .i64 0) := (cell_of_row v26 _ 0 _ 3 (0, 0) Hz_v26_12.out).trans rfl
        have f0 : v26.frozen? ⟨g25, 0, none⟩ = false := frozen_of_row v26 _ 0 _ 3 Hz_v26_12.out
        go_simp
        have h_v27 : (fun W => Below va.heap.size va W) (v26.setCell ⟨g25, 0, none⟩ (.int .i64 (s0v : Int))) := h_v26.setCell (p := ⟨g25, 0, none⟩) Hl_v25_12.out _
        have Hz_v27_12 : Hid ((v26.setCell ⟨g25, 0, none⟩ (.int .i64 (s0v : Int))).heap[g25]? = some (.cells #[.int .i64 (s0v : Int)] 3 (0, 0))) := heap_setCell_same v26 g25 0 _ 3 _ Hz_v26_12.out
        have Hz_v27_13 : Hid ((v26.setCell ⟨g25, 0, none⟩ (.int .i64 (s0v : Int))).heap[g20]? = some (.cells #[.int .i64 0] 3 (0, 0))) := (Below.heap_setCell _ _ _ _ Hn_v25_13_12.out).trans Hz_v26_13.out
        refine hK.out _ _ (fun _ => h_v27) ?_
        clear hK K s0 f0 h_v26 Hz_v26_13 Hz_v26_12
        generalize v26.setCell ⟨g25, 0, none⟩ (.int .i64 (s0v : Int)) = v27 at *
        refine one_L (i := 15) (by kernel_rfl) rfl (fun K hK => ?_)
        have s0 : v27.cell? ⟨g20, 0, none⟩ = some (.int .i64 0) := (cell_of_row v27 _ 0 _ 3 (0, 0) Hz_v27_13.out).trans rfl
        have f0 : v27.frozen? ⟨g20, 0, none⟩ = false := frozen_of_row v27 _ 0 _ 3 Hz_v27_13.out
        go_simp
        have h_v28 : (fun W => Below va.heap.size va W) (v27.setCell ⟨g20, 0, none⟩ (.int .i64 (lv : Int))) := h_v27.setCell (p := ⟨g20, 0, none⟩) Hl_v20_13.out _
        have Hz_v28_13 : Hid ((v27.setCell ⟨g20, 0, none⟩ (.int .i64 (lv : Int))).heap[g20]? = some (.cells #[.int .i64 (lv : Int)] 3 (0, 0))) := heap_setCell_same v27 g20 0 _ 3 _ Hz_v27_13.out
        have Hz_v28_12 : Hid ((v27.setCell ⟨g20, 0, none⟩ (.int .i64 (lv : Int))).heap[g25]? = some (.cells #[.int .i64 (s0v : Int)] 3 (0, 0))) := (Below.heap_setCell _ _ _ _ (Ne.symm Hn_v25_13_12.out)).trans Hz_v27_12.out
        refine hK.out _ _ (fun _ => h_v28) ?_
        clear hK K s0 f0 h_v27 Hz_v27_13 Hz_v27_12
        generalize v27.setCell ⟨g20, 0, none⟩ (.int .i64 (lv : Int)) = v28 at *
        refine done_L (by kernel_rfl) ?_ _
        have hc := HR.out v28 g25 g20 h_v28 Hl_v25_12.out (Ne.symm Hn_v25_13_12.out) Hz_v28_12.out Hz_v28_13.out
        have xb := cell_below y0 h_v28
        have xp := cell_below y1 h_v28
        clear HR HC1 HC2 h_v28 Hz_v28_12 Hz_v28_13 y0 y1 y2 k0 k1 k2 hne
        go_wp2_with fail
        refine hc.mono ?_
        rintro _ w9 ⟨rfl, v, hd, hx, hb9⟩
        have R := HP.out v w9 hd hb9
        clear hc hd hb9 HP xb xp
        go_wp2
        exact R
  · go_simp
    have h_v29 : (fun W => Below va.heap.size va W) (vs.alloc (.cells #[.int .i64 0] 3)) := h_vs.alloc h_vs.size _
    have Hz_v29_12 : Hid ((vs.alloc (.cells #[.int .i64 0] 3)).heap[vs.heap.size]? = some (.cells #[.int .i64 0] 3 (0, 0))) := heap_alloc_new vs _
    have Hl_v29_12 : Hid (va.heap.size ≤ vs.heap.size) := h_vs.size
    refine hK.out _ _ (fun _ => h_v29) ?_
    clear hK K
    generalize vs.alloc (.cells #[.int .i64 0] 3) = v29 at *
    clear h_vs
    generalize vs.heap.size = g29 at *
    refine two_L (i := 5) (j := 13) (by kernel_rfl) rfl rfl (fun K hK => ?_) (fun K hK => ?_)
    · go_simp
      go_invoke
      go_simp
      refine (HC1.out v29 h_v29).mono ?_
      rintro _ v30 ⟨rfl, hb⟩
      have h_v30 : (fun W => Below va.heap.size va W) v30 := h_v29.trans (hb.mono h_v29.size)
      have Hz_v30_12 : Hid (v30.heap[g29]? = some (.cells #[.int .i64 0] 3 (0, 0))) := (hb.block _ (Array.getElem?_eq_some_iff.1 Hz_v29_12.out).1).trans Hz_v29_12.out
      refine hK.out _ _ (fun _ => h_v30) ?_
      clear hK K hb h_v29 Hz_v29_12
      refine two_L (i := 11) (j := 13) (by kernel_rfl) rfl rfl (fun K hK => ?_) (fun K hK => ?_)
      · go_simp
        refine (HC2.out v30 h_v30).mono ?_
        rintro _ v31 ⟨rfl, hb⟩
        have h_v31 : (fun W => Below va.heap.size va W) v31 := h_v30.trans (hb.mono h_v30.size)
        have Hz_v31_12 : Hid (v31.heap[g29]? = some (.cells #[.int .i64 0] 3 (0, 0))) := (hb.block _ (Array.getElem?_eq_some_iff.1 Hz_v30_12.out).1).trans Hz_v30_12.out
        refine hK.out _ _ (fun _ => h_v31) ?_
        clear hK K hb h_v30 Hz_v30_12
        refine one_L (i := 13) (by kernel_rfl) rfl (fun K hK => ?_)
        go_simp
        have h_v32 : (fun W => Below va.heap.size va W) (v31.alloc (.cells #[.int .i64 0] 3)) := h_v31.alloc h_v31.size _
        have Hz_v32_13 : Hid ((v31.alloc (.cells #[.int .i64 0] 3)).heap[v31.heap.size]? = some (.cells #[.int .i64 0] 3 (0, 0))) := heap_alloc_new v31 _
        have Hz_v32_12 : Hid ((v31.alloc (.cells #[.int .i64 0] 3)).heap[g29]? = some (.cells #[.int .i64 0] 3 (0, 0))) := (heap_alloc_old v31 _ (Array.getElem?_eq_some_iff.1 Hz_v31_12.out).1).trans Hz_v31_12.out
        have Hn_v32_12_13 : Hid (g29 ≠ v31.heap.size) := Nat.ne_of_lt (Array.getElem?_eq_some_iff.1 Hz_v31_12.out).1
        have Hl_v32_13 : Hid (va.heap.size ≤ v31.heap.size) := h_v31.size
        refine hK.out _ _ (fun _ => h_v32) ?_
        clear hK K Hz_v31_12
        generalize v31.alloc (.cells #[.int .i64 0] 3) = v32 at *
        clear h_v31
        generalize v31.heap.size = g32 at *
        refine one_L (i := 14) (by kernel_rfl) rfl (fun K hK => ?_)
        have s0 : v32.cell? ⟨g29, 0, none⟩ = some (.int .i64 0) := (cell_of_row v32 _ 0 _ 3 (0, 0) Hz_v32_12.out).trans rfl
        have f0 : v32.frozen? ⟨g29, 0, none⟩ = false := frozen_of_row v32 _ 0 _ 3 Hz_v32_12.out
        go_simp
        have h_v33 : (fun W => Below va.heap.size va W) (v32.setCell ⟨g29, 0, none⟩ (.int .i64 (s0v : Int))) := h_v32.setCell (p := ⟨g29, 0, none⟩) Hl_v29_12.out _
        have Hz_v33_12 : Hid ((v32.setCell ⟨g29, 0, none⟩ (.int .i64 (s0v : Int))).heap[g29]? = some (.cells #[.int .i64 (s0v : Int)] 3 (0, 0))) := heap_setCell_same v32 g29 0 _ 3 _ Hz_v32_12.out
        have Hz_v33_13 : Hid ((v32.setCell ⟨g29, 0, none⟩ (.int .i64 (s0v : Int))).heap[g32]? = some (.cells #[.int .i64 0] 3 (0, 0))) := (Below.heap_setCell _ _ _ _ (Ne.symm Hn_v32_12_13.out)).trans Hz_v32_13.out
        refine hK.out _ _ (fun _ => h_v33) ?_
        clear hK K s0 f0 h_v32 Hz_v32_12 Hz_v32_13
        generalize v32.setCell ⟨g29, 0, none⟩ (.int .i64 (s0v : Int)) = v33 at *
        refine one_L (i := 15) (by kernel_rfl) rfl (fun K hK => ?_)
        have s0 : v33.cell? ⟨g32, 0, none⟩ = some (.int .i64 0) := (cell_of_row v33 _ 0 _ 3 (0, 0) Hz_v33_13.out).trans rfl
        have f0 : v33.frozen? ⟨g32, 0, none⟩ = false := frozen_of_row v33 _ 0 _ 3 Hz_v33_13.out
        go_simp
        have h_v34 : (fun W => Below va.heap.size va W) (v33.setCell ⟨g32, 0, none⟩ (.int .i64 (lv : Int))) := h_v33.setCell (p := ⟨g32, 0, none⟩) Hl_v32_13.out _
        have Hz_v34_13 : Hid ((v33.setCell ⟨g32, 0, none⟩ (.int .i64 (lv : Int))).heap[g32]? = some (.cells #[.int .i64 (lv : Int)] 3 (0, 0))) := heap_setCell_same v33 g32 0 _ 3 _ Hz_v33_13.out
        have Hz_v34_12 : Hid ((v33.setCell ⟨g32, 0, none⟩ (.int .i64 (lv : Int))).heap[g29]? = some (.cells #[.int .i64 (s0v : Int)] 3 (0, 0))) := (Below.heap_setCell _ _ _ _ Hn_v32_12_13.out).trans Hz_v33_12.out
        refine hK.out _ _ (fun _ => h_v34) ?_
        clear hK K s0 f0 h_v33 Hz_v33_12 Hz_v33_13
        generalize v33.setCell ⟨g32, 0, none⟩ (.int .i64 (lv : Int)) = v34 at *
        refine done_L (by kernel_rfl) ?_ _
        have hc := HR.out v34 g29 g32 h_v34 Hl_v29_12.out (Hn_v32_12_13.out) Hz_v34_12.out Hz_v34_13.out
        have xb := cell_below y0 h_v34
        have xp := cell_below y1 h_v34
        clear HR HC1 HC2 h_v34 Hz_v34_12 Hz_v34_13 y0 y1 y2 k0 k1 k2 hne
        go_wp2_with fail
        refine hc.mono ?_
        rintro _ w9 ⟨rfl, v, hd, hx, hb9⟩
        have R := HP.out v w9 hd hb9
        clear hc hd hb9 HP xb xp
        go_wp2
        exact R
      · go_simp
        have h_v35 : (fun W => Below va.heap.size va W) (v30.alloc (.cells #[.int .i64 0] 3)) := h_v30.alloc h_v30.size _
        have Hz_v35_13 : Hid ((v30.alloc (.cells #[.int .i64 0] 3)).heap[v30.heap.size]? = some (.cells #[.int .i64 0] 3 (0, 0))) := heap_alloc_new v30 _
        have Hz_v35_12 : Hid ((v30.alloc (.cells #[.int .i64 0] 3)).heap[g29]? = some (.cells #[.int .i64 0] 3 (0, 0))) := (heap_alloc_old v30 _ (Array.getElem?_eq_some_iff.1 Hz_v30_12.out).1).trans Hz_v30_12.out
        have Hn_v35_12_13 : Hid (g29 ≠ v30.heap.size) := Nat.ne_of_lt (Array.getElem?_eq_some_iff.1 Hz_v30_12.out).1
        have Hl_v35_13 : Hid (va.heap.size ≤ v30.heap.size) := h_v30.size
        refine hK.out _ _ (fun _ => h_v35) ?_
        clear hK K Hz_v30_12
        generalize v30.alloc (.cells #[.int .i64 0] 3) = v35 at *
        clear h_v30
        generalize v30.heap.size = g35 at *
        refine one_L (i := 11) (by kernel_rfl) rfl (fun K hK => ?_)
        go_simp
        refine (HC2.out v35 h_v35).mono ?_
        rintro _ v36 ⟨rfl, hb⟩
        have h_v36 : (fun W => Below va.heap.size va W) v36 := h_v35.trans (hb.mono h_v35.size)
        have Hz_v36_12 : Hid (v36.heap[g29]? = some (.cells #[.int .i64 0] 3 (0, 0))) := (hb.block _ (Array.getElem?_eq_some_iff.1 Hz_v35_12.out).1).trans Hz_v35_12.out
        have Hz_v36_13 : Hid (v36.heap[g35]? = some (.cells #[.int .i64 0] 3 (0, 0))) := (hb.block _ (Array.getElem?_eq_some_iff.1 Hz_v35_13.out).1).trans Hz_v35_13.out
        refine hK.out _ _ (fun _ => h_v36) ?_
        clear hK K hb h_v35 Hz_v35_12 Hz_v35_13
        refine one_L (i := 14) (by kernel_rfl) rfl (fun K hK => ?_)
        have s0 : v36.cell? ⟨g29, 0, none⟩ = some (.int .i64 0) := (cell_of_row v36 _ 0 _ 3 (0, 0) Hz_v36_12.out).trans rfl
        have f0 : v36.frozen? ⟨g29, 0, none⟩ = false := frozen_of_row v36 _ 0 _ 3 Hz_v36_12.out
        go_simp
        have h_v37 : (fun W => Below va.heap.size va W) (v36.setCell ⟨g29, 0, none⟩ (.int .i64 (s0v : Int))) := h_v36.setCell (p := ⟨g29, 0, none⟩) Hl_v29_12.out _
        have Hz_v37_12 : Hid ((v36.setCell ⟨g29, 0, none⟩ (.int .i64 (s0v : Int))).heap[g29]? = some (.cells #[.int .i64 (s0v : Int)] 3 (0, 0))) := heap_setCell_same v36 g29 0 _ 3 _ Hz_v36_12.out
        have Hz_v37_13 : Hid ((v36.setCell ⟨g29, 0, none⟩ (.int .i64 (s0v : Int))).heap[g35]? = some (.cells #[.int .i64 0] 3 (0, 0))) := (Below.heap_setCell _ _ _ _ (Ne.symm Hn_v35_12_13.out)).trans Hz_v36_13.out
        refine hK.out _ _ (fun _ => h_v37) ?_
        clear hK K s0 f0 h_v36 Hz_v36_12 Hz_v36_13
        generalize v36.setCell ⟨g29, 0, none⟩ (.int .i64 (s0v : Int)) = v37 at *
        refine one_L (i := 15) (by kernel_rfl) rfl (fun K hK => ?_)
        have s0 : v37.cell? ⟨g35, 0, none⟩ = some (.int .i64 0) := (cell_of_row v37 _ 0 _ 3 (0, 0) Hz_v37_13.out).trans rfl
        have f0 : v37.frozen? ⟨g35, 0, none⟩ = false := frozen_of_row v37 _ 0 _ 3 Hz_v37_13.out
        go_simp
        have h_v38 : (fun W => Below va.heap.size va W) (v37.setCell ⟨g35, 0, none⟩ (.int .i64 (lv : Int))) := h_v37.setCell (p := ⟨g35, 0, none⟩) Hl_v35_13.out _
        have Hz_v38_13 : Hid ((v37.setCell ⟨g35, 0, none⟩ (.int .i64 (lv : Int))).heap[g35]? = some (.cells #[.int .i64 (lv : Int)] 3 (0, 0))) := heap_setCell_same v37 g35 0 _ 3 _ Hz_v37_13.out
        have Hz_v38_12 : Hid ((v37.setCell ⟨g35, 0, none⟩ (.int .i64 (lv : Int))).heap[g29]? = some (.cells #[.int .i64 (s0v : Int)] 3 (0, 0))) := (Below.heap_setCell _ _ _ _ Hn_v35_12_13.out).trans Hz_v37_12.out
        refine hK.out _ _ (fun _ => h_v38) ?_
        clear hK K s0 f0 h_v37 Hz_v37_12 Hz_v37_13
        generalize v37.setCell ⟨g35, 0, none⟩ (.int .i64 (lv : Int)) = v38 at *
        refine done_L (by kernel_rfl) ?_ _
        have hc := HR.out v38 g29 g35 h_v38 Hl_v29_12.out (Hn_v35_12_13.out) Hz_v38_12.out Hz_v38_13.out
        have xb := cell_below y0 h_v38
        have xp := cell_below y1 h_v38
        clear HR HC1 HC2 h_v38 Hz_v38_12 Hz_v38_13 y0 y1 y2 k0 k1 k2 hne
        go_wp2_with fail
        refine hc.mono ?_
        rintro _ w9 ⟨rfl, v, hd, hx, hb9⟩
        have R := HP.out v w9 hd hb9
        clear hc hd hb9 HP xb xp
        go_wp2
        exact R
    · go_simp
      have h_v39 : (fun W => Below va.heap.size va W) (v29.alloc (.cells #[.int .i64 0] 3)) := h_v29.alloc h_v29.size _
      have Hz_v39_13 : Hid ((v29.alloc (.cells #[.int .i64 0] 3)).heap[v29.heap.size]? = some (.cells #[.int .i64 0] 3 (0, 0))) := heap_alloc_new v29 _
      have Hz_v39_12 : Hid ((v29.alloc (.cells #[.int .i64 0] 3)).heap[g29]? = some (.cells #[.int .i64 0] 3 (0, 0))) := (heap_alloc_old v29 _ (Array.getElem?_eq_some_iff.1 Hz_v29_12.out).1).trans Hz_v29_12.out
      have Hn_v39_12_13 : Hid (g29 ≠ v29.heap.size) := Nat.ne_of_lt (Array.getElem?_eq_some_iff.1 Hz_v29_12.out).1
      have Hl_v39_13 : Hid (va.heap.size ≤ v29.heap.size) := h_v29.size
      refine hK.out _ _ (fun _ => h_v39) ?_
      clear hK K Hz_v29_12
      generalize v29.alloc (.cells #[.int .i64 0] 3) = v39 at *
      clear h_v29
      generalize v29.heap.size = g39 at *
      refine one_L (i := 5) (by kernel_rfl) rfl (fun K hK => ?_)
      go_simp
      go_invoke
      go_simp
      refine (HC1.out v39 h_v39).mono ?_
      rintro _ v40 ⟨rfl, hb⟩
      have h_v40 : (fun W => Below va.heap.size va W) v40 := h_v39.trans (hb.mono h_v39.size)
      have Hz_v40_12 : Hid (v40.heap[g29]? = some (.cells #[.int .i64 0] 3 (0, 0))) := (hb.block _ (Array.getElem?_eq_some_iff.1 Hz_v39_12.out).1).trans Hz_v39_12.out
      have Hz_v40_13 : Hid (v40.heap[g39]? = some (.cells #[.int .i64 0] 3 (0, 0))) := (hb.block _ (Array.getElem?_eq_some_iff.1 Hz_v39_13.out).1).trans Hz_v39_13.out
      refine hK.out _ _ (fun _ => h_v40) ?_
      clear hK K hb h_v39 Hz_v39_12 Hz_v39_13
      refine one_L (i := 11) (by kernel_rfl) rfl (fun K hK => ?_)
      go_simp
      refine (HC2.out v40 h_v40).mono ?_
      rintro _ v41 ⟨rfl, hb⟩
      have h_v41 : (fun W => Below va.heap.size va W) v41 := h_v40.trans (hb.mono h_v40.size)
      have Hz_v41_12 : Hid (v41.heap[g29]? = some (.cells #[.int .i64 0] 3 (0, 0))) := (hb.block _ (Array.getElem?_eq_some_iff.1 Hz_v40_12.out).1).trans Hz_v40_12.out
      have Hz_v41_13 : Hid (v41.heap[g39]? = some (.cells #[.int .i64 0] 3 (0, 0))) := (hb.block _ (Array.getElem?_eq_some_iff.1 Hz_v40_13.out).1).trans Hz_v40_13.out
      refine hK.out _ _ (fun _ => h_v41) ?_
      clear hK K hb h_v40 Hz_v40_12 Hz_v40_13
      refine one_L (i := 14) (by kernel_rfl) rfl (fun K hK => ?_)
      have s0 : v41.cell? ⟨g29, 0, none⟩ = some (.int .i64 0) := (cell_of_row v41 _ 0 _ 3 (0, 0) Hz_v41_12.out).trans rfl
      have f0 : v41.frozen? ⟨g29, 0, none⟩ = false := frozen_of_row v41 _ 0 _ 3 Hz_v41_12.out
      go_simp
      have h_v42 : (fun W => Below va.heap.size va W) (v41.setCell ⟨g29, 0, none⟩ (.int .i64 (s0v : Int))) := h_v41.setCell (p := ⟨g29, 0, none⟩) Hl_v29_12.out _
      have Hz_v42_12 : Hid ((v41.setCell ⟨g29, 0, none⟩ (.int .i64 (s0v : Int))).heap[g29]? = some (.cells #[.int .i64 (s0v : Int)] 3 (0, 0))) := heap_setCell_same v41 g29 0 _ 3 _ Hz_v41_12.out
      have Hz_v42_13 : Hid ((v41.setCell ⟨g29, 0, none⟩ (.int .i64 (s0v : Int))).heap[g39]? = some (.cells #[.int .i64 0] 3 (0, 0))) := (Below.heap_setCell _ _ _ _ (Ne.symm Hn_v39_12_13.out)).trans Hz_v41_13.out
      refine hK.out _ _ (fun _ => h_v42) ?_
      clear hK K s0 f0 h_v41 Hz_v41_12 Hz_v41_13
      generalize v41.setCell ⟨g29, 0, none⟩ (.int .i64 (s0v : Int)) = v42 at *
      refine one_L (i := 15) (by kernel_rfl) rfl (fun K hK => ?_)
      have s0 : v42.cell? ⟨g39, 0, none⟩ = some (.int .i64 0) := (cell_of_row v42 _ 0 _ 3 (0, 0) Hz_v42_13.out).trans rfl
      have f0 : v42.frozen? ⟨g39, 0, none⟩ = false := frozen_of_row v42 _ 0 _ 3 Hz_v42_13.out
      go_simp
      have h_v43 : (fun W => Below va.heap.size va W) (v42.setCell ⟨g39, 0, none⟩ (.int .i64 (lv : Int))) := h_v42.setCell (p := ⟨g39, 0, none⟩) Hl_v39_13.out _
      have Hz_v43_13 : Hid ((v42.setCell ⟨g39, 0, none⟩ (.int .i64 (lv : Int))).heap[g39]? = some (.cells #[.int .i64 (lv : Int)] 3 (0, 0))) := heap_setCell_same v42 g39 0 _ 3 _ Hz_v42_13.out
      have Hz_v43_12 : Hid ((v42.setCell ⟨g39, 0, none⟩ (.int .i64 (lv : Int))).heap[g29]? = some (.cells #[.int .i64 (s0v : Int)] 3 (0, 0))) := (Below.heap_setCell _ _ _ _ Hn_v39_12_13.out).trans Hz_v42_12.out
      refine hK.out _ _ (fun _ => h_v43) ?_
      clear hK K s0 f0 h_v42 Hz_v42_12 Hz_v42_13
      generalize v42.setCell ⟨g39, 0, none⟩ (.int .i64 (lv : Int)) = v43 at *
      refine done_L (by kernel_rfl) ?_ _
      have hc := HR.out v43 g29 g39 h_v43 Hl_v29_12.out (Hn_v39_12_13.out) Hz_v43_12.out Hz_v43_13.out
      have xb := cell_below y0 h_v43
      have xp := cell_below y1 h_v43
      clear HR HC1 HC2 h_v43 Hz_v43_12 Hz_v43_13 y0 y1 y2 k0 k1 k2 hne
      go_wp2_with fail
      refine hc.mono ?_
      rintro _ w9 ⟨rfl, v, hd, hx, hb9⟩
      have R := HP.out v w9 hd hb9
      clear hc hd hb9 HP xb xp
      go_wp2
      exact R
  · go_simp
    have h_v44 : (fun W => Below va.heap.size va W) (vs.alloc (.cells #[.int .i64 0] 3)) := h_vs.alloc h_vs.size _
    have Hz_v44_13 : Hid ((vs.alloc (.cells #[.int .i64 0] 3)).heap[vs.heap.size]? = some (.cells #[.int .i64 0] 3 (0, 0))) := heap_alloc_new vs _
    have Hl_v44_13 : Hid (va.heap.size ≤ vs.heap.size) := h_vs.size
    refine hK.out _ _ (fun _ => h_v44) ?_
    clear hK K
    generalize vs.alloc (.cells #[.int .i64 0] 3) = v44 at *
    clear h_vs
    generalize vs.heap.size = g44 at *
    refine two_L (i := 5) (j := 12) (by kernel_rfl) rfl rfl (fun K hK => ?_) (fun K hK => ?_)
    · go_simp
      go_invoke
      go_simp
      refine (HC1.out v44 h_v44).mono ?_
      rintro _ v45 ⟨rfl, hb⟩
      have h_v45 : (fun W => Below va.heap.size va W) v45 := h_v44.trans (hb.mono h_v44.size)
      have Hz_v45_13 : Hid (v45.heap[g44]? = some (.cells #[.int .i64 0] 3 (0, 0))) := (hb.block _ (Array.getElem?_eq_some_iff.1 Hz_v44_13.out).1).trans Hz_v44_13.out
      refine hK.out _ _ (fun _ => h_v45) ?_
      clear hK K hb h_v44 Hz_v44_13
      refine two_L (i := 11) (j := 12) (by kernel_rfl) rfl rfl (fun K hK => ?_) (fun K hK => ?_)
      · go_simp
        refine (HC2.out v45 h_v45).mono ?_
        rintro _ v46 ⟨rfl, hb⟩
        have h_v46 : (fun W => Below va.heap.size va W) v46 := h_v45.trans (hb.mono h_v45.size)
        have Hz_v46_13 : Hid (v46.heap[g44]? = some (.cells #[.int .i64 0] 3 (0, 0))) := (hb.block _ (Array.getElem?_eq_some_iff.1 Hz_v45_13.out).1).trans Hz_v45_13.out
        refine hK.out _ _ (fun _ => h_v46) ?_
        clear hK K hb h_v45 Hz_v45_13
        refine one_L (i := 12) (by kernel_rfl) rfl (fun K hK => ?_)
        go_simp
        have h_v47 : (fun W => Below va.heap.size va W) (v46.alloc (.cells #[.int .i64 0] 3)) := h_v46.alloc h_v46.size _
        have Hz_v47_12 : Hid ((v46.alloc (.cells #[.int .i64 0] 3)).heap[v46.heap.size]? = some (.cells #[.int .i64 0] 3 (0, 0))) := heap_alloc_new v46 _
        have Hz_v47_13 : Hid ((v46.alloc (.cells #[.int .i64 0] 3)).heap[g44]? = some (.cells #[.int .i64 0] 3 (0, 0))) := (heap_alloc_old v46 _ (Array.getElem?_eq_some_iff.1 Hz_v46_13.out).1).trans Hz_v46_13.out
        have Hn_v47_13_12 : Hid (g44 ≠ v46.heap.size) := Nat.ne_of_lt (Array.getElem?_eq_some_iff.1 Hz_v46_13.out).1
        have Hl_v47_12 : Hid (va.heap.size ≤ v46.heap.size) := h_v46.size
        refine hK.out _ _ (fun _ => h_v47) ?_
        clear hK K Hz_v46_13
        generalize v46.alloc (.cells #[.int .i64 0] 3) = v47 at *
        clear h_v46
        generalize v46.heap.size = g47 at *
        refine one_L (i := 14) (by kernel_rfl) rfl (fun K hK => ?_)
        have s0 : v47.cell? ⟨g47, 0, none⟩ = some (.int .i64 0) := (cell_of_row v47 _ 0 _ 3 (0, 0) Hz_v47_12.out).trans rfl
        have f0 : v47.frozen? ⟨g47, 0, none⟩ = false := frozen_of_row v47 _ 0 _ 3 Hz_v47_12.out
        go_simp
        have h_v48 : (fun W => Below va.heap.size va W) (v47.setCell ⟨g47, 0, none⟩ (.int .i64 (s0v : Int))) := h_v47.setCell (p := ⟨g47, 0, none⟩) Hl_v47_12.out _
        have Hz_v48_12 : Hid ((v47.setCell ⟨g47, 0, none⟩ (.int .i64 (s0v : Int))).heap[g47]? = some (.cells #[.int .i64 (s0v : Int)] 3 (0, 0))) := heap_setCell_same v47 g47 0 _ 3 _ Hz_v47_12.out
        have Hz_v48_13 : Hid ((v47.setCell ⟨g47, 0, none⟩ (.int .i64 (s0v : Int))).heap[g44]? = some (.cells #[.int .i64 0] 3 (0, 0))) := (Below.heap_setCell _ _ _ _ Hn_v47_13_12.out).trans Hz_v47_13.out
        refine hK.out _ _ (fun _ => h_v48) ?_
        clear hK K s0 f0 h_v47 Hz_v47_13 Hz_v47_12
        generalize v47.setCell ⟨g47, 0, none⟩ (.int .i64 (s0v : Int)) = v48 at *
        refine one_L (i := 15) (by kernel_rfl) rfl (fun K hK => ?_)
        have s0 : v48.cell? ⟨g44, 0, none⟩ = some (.int .i64 0) := (cell_of_row v48 _ 0 _ 3 (0, 0) Hz_v48_13.out).trans rfl
        have f0 : v48.frozen? ⟨g44, 0, none⟩ = false := frozen_of_row v48 _ 0 _ 3 Hz_v48_13.out
        go_simp
        have h_v49 : (fun W => Below va.heap.size va W) (v48.setCell ⟨g44, 0, none⟩ (.int .i64 (lv : Int))) := h_v48.setCell (p := ⟨g44, 0, none⟩) Hl_v44_13.out _
        have Hz_v49_13 : Hid ((v48.setCell ⟨g44, 0, none⟩ (.int .i64 (lv : Int))).heap[g44]? = some (.cells #[.int .i64 (lv : Int)] 3 (0, 0))) := heap_setCell_same v48 g44 0 _ 3 _ Hz_v48_13.out
        have Hz_v49_12 : Hid ((v48.setCell ⟨g44, 0, none⟩ (.int .i64 (lv : Int))).heap[g47]? = some (.cells #[.int .i64 (s0v : Int)] 3 (0, 0))) := (Below.heap_setCell _ _ _ _ (Ne.symm Hn_v47_13_12.out)).trans Hz_v48_12.out
        refine hK.out _ _ (fun _ => h_v49) ?_
        clear hK K s0 f0 h_v48 Hz_v48_13 Hz_v48_12
        generalize v48.setCell ⟨g44, 0, none⟩ (.int .i64 (lv : Int)) = v49 at *
        refine done_L (by kernel_rfl) ?_ _
        have hc := HR.out v49 g47 g44 h_v49 Hl_v47_12.out (Ne.symm Hn_v47_13_12.out) Hz_v49_12.out Hz_v49_13.out
        have xb := cell_below y0 h_v49
        have xp := cell_below y1 h_v49
        clear HR HC1 HC2 h_v49 Hz_v49_12 Hz_v49_13 y0 y1 y2 k0 k1 k2 hne
        go_wp2_with fail
        refine hc.mono ?_
        rintro _ w9 ⟨rfl, v, hd, hx, hb9⟩
        have R := HP.out v w9 hd hb9
        clear hc hd hb9 HP xb xp
        go_wp2
        exact R
      · go_simp
        have h_v50 : (fun W => Below va.heap.size va W) (v45.alloc (.cells #[.int .i64 0] 3)) := h_v45.alloc h_v45.size _
        have Hz_v50_12 : Hid ((v45.alloc (.cells #[.int .i64 0] 3)).heap[v45.heap.size]? = some (.cells #[.int .i64 0] 3 (0, 0))) := heap_alloc_new v45 _
        have Hz_v50_13 : Hid ((v45.alloc (.cells #[.int .i64 0] 3)).heap[g44]? = some (.cells #[.int .i64 0] 3 (0, 0))) := (heap_alloc_old v45 _ (Array.getElem?_eq_some_iff.1 Hz_v45_13.out).1).trans Hz_v45_13.out
        have Hn_v50_13_12 : Hid (g44 ≠ v45.heap.size) := Nat.ne_of_lt (Array.getElem?_eq_some_iff.1 Hz_v45_13.out).1
        have Hl_v50_12 : Hid (va.heap.size ≤ v45.heap.size) := h_v45.size
        refine hK.out _ _ (fun _ => h_v50) ?_
        clear hK K Hz_v45_13
        generalize v45.alloc (.cells #[.int .i64 0] 3) = v50 at *
        clear h_v45
        generalize v45.heap.size = g50 at *
        refine one_L (i := 11) (by kernel_rfl) rfl (fun K hK => ?_)
        go_simp
        refine (HC2.out v50 h_v50).mono ?_
        rintro _ v51 ⟨rfl, hb⟩
        have h_v51 : (fun W => Below va.heap.size va W) v51 := h_v50.trans (hb.mono h_v50.size)
        have Hz_v51_13 : Hid (v51.heap[g44]? = some (.cells #[.int .i64 0] 3 (0, 0))) := (hb.block _ (Array.getElem?_eq_some_iff.1 Hz_v50_13.out).1).trans Hz_v50_13.out
        have Hz_v51_12 : Hid (v51.heap[g50]? = some (.cells #[.int .i64 0] 3 (0, 0))) := (hb.block _ (Array.getElem?_eq_some_iff.1 Hz_v50_12.out).1).trans Hz_v50_12.out
        refine hK.out _ _ (fun _ => h_v51) ?_
        clear hK K hb h_v50 Hz_v50_13 Hz_v50_12
        refine one_L (i := 14) (by kernel_rfl) rfl (fun K hK => ?_)
        have s0 : v51.cell? ⟨g50, 0, none⟩ = some (.int .i64 0) := (cell_of_row v51 _ 0 _ 3 (0, 0) Hz_v51_12.out).trans rfl
        have f0 : v51.frozen? ⟨g50, 0, none⟩ = false := frozen_of_row v51 _ 0 _ 3 Hz_v51_12.out
        go_simp
        have h_v52 : (fun W => Below va.heap.size va W) (v51.setCell ⟨g50, 0, none⟩ (.int .i64 (s0v : Int))) := h_v51.setCell (p := ⟨g50, 0, none⟩) Hl_v50_12.out _
        have Hz_v52_12 : Hid ((v51.setCell ⟨g50, 0, none⟩ (.int .i64 (s0v : Int))).heap[g50]? = some (.cells #[.int .i64 (s0v : Int)] 3 (0, 0))) := heap_setCell_same v51 g50 0 _ 3 _ Hz_v51_12.out
        have Hz_v52_13 : Hid ((v51.setCell ⟨g50, 0, none⟩ (.int .i64 (s0v : Int))).heap[g44]? = some (.cells #[.int .i64 0] 3 (0, 0))) := (Below.heap_setCell _ _ _ _ Hn_v50_13_12.out).trans Hz_v51_13.out
        refine hK.out _ _ (fun _ => h_v52) ?_
        clear hK K s0 f0 h_v51 Hz_v51_13 Hz_v51_12
        generalize v51.setCell ⟨g50, 0, none⟩ (.int .i64 (s0v : Int)) = v52 at *
        refine one_L (i := 15) (by kernel_rfl) rfl (fun K hK => ?_)
        have s0 : v52.cell? ⟨g44, 0, none⟩ = some (.int .i64 0) := (cell_of_row v52 _ 0 _ 3 (0, 0) Hz_v52_13.out).trans rfl
        have f0 : v52.frozen? ⟨g44, 0, none⟩ = false := frozen_of_row v52 _ 0 _ 3 Hz_v52_13.out
        go_simp
        have h_v53 : (fun W => Below va.heap.size va W) (v52.setCell ⟨g44, 0, none⟩ (.int .i64 (lv : Int))) := h_v52.setCell (p := ⟨g44, 0, none⟩) Hl_v44_13.out _
        have Hz_v53_13 : Hid ((v52.setCell ⟨g44, 0, none⟩ (.int .i64 (lv : Int))).heap[g44]? = some (.cells #[.int .i64 (lv : Int)] 3 (0, 0))) := heap_setCell_same v52 g44 0 _ 3 _ Hz_v52_13.out
        have Hz_v53_12 : Hid ((v52.setCell ⟨g44, 0, none⟩ (.int .i64 (lv : Int))).heap[g50]? = some (.cells #[.int .i64 (s0v : Int)] 3 (0, 0))) := (Below.heap_setCell _ _ _ _ (Ne.symm Hn_v50_13_12.out)).trans Hz_v52_12.out
        refine hK.out _ _ (fun _ => h_v53) ?_
        clear hK K s0 f0 h_v52 Hz_v52_13 Hz_v52_12
        generalize v52.setCell ⟨g44, 0, none⟩ (.int .i64 (lv : Int)) = v53 at *
        refine done_L (by kernel_rfl) ?_ _
        have hc := HR.out v53 g50 g44 h_v53 Hl_v50_12.out (Ne.symm Hn_v50_13_12.out) Hz_v53_12.out Hz_v53_13.out
        have xb := cell_below y0 h_v53
        have xp := cell_below y1 h_v53
        clear HR HC1 HC2 h_v53 Hz_v53_12 Hz_v53_13 y0 y1 y2 k0 k1 k2 hne
        go_wp2_with fail
        refine hc.mono ?_
        rintro _ w9 ⟨rfl, v, hd, hx, hb9⟩
        have R := HP.out v w9 hd hb9
        clear hc hd hb9 HP xb xp
        go_wp2
        exact R
    · go_simp
      have h_v54 : (fun W => Below va.heap.size va W) (v44.alloc (.cells #[.int .i64 0] 3)) := h_v44.alloc h_v44.size _
      have Hz_v54_12 : Hid ((v44.alloc (.cells #[.int .i64 0] 3)).heap[v44.heap.size]? = some (.cells #[.int .i64 0] 3 (0, 0))) := heap_alloc_new v44 _
      have Hz_v54_13 : Hid ((v44.alloc (.cells #[.int .i64 0] 3)).heap[g44]? = some (.cells #[.int .i64 0] 3 (0, 0))) := (heap_alloc_old v44 _ (Array.getElem?_eq_some_iff.1 Hz_v44_13.out).1).trans Hz_v44_13.out
      have Hn_v54_13_12 : Hid (g44 ≠ v44.heap.size) := Nat.ne_of_lt (Array.getElem?_eq_some_iff.1 Hz_v44_13.out).1
      have Hl_v54_12 : Hid (va.heap.size ≤ v44.heap.size) := h_v44.size
      refine hK.out _ _ (fun _ => h_v54) ?_
      clear hK K Hz_v44_13
      generalize v44.alloc (.cells #[.int .i64 0] 3) = v54 at *
      clear h_v44
      generalize v44.heap.size = g54 at *
      refine one_L (i := 5) (by kernel_rfl) rfl (fun K hK => ?_)
      go_simp
      go_invoke
      go_simp
      refine (HC1.out v54 h_v54).mono ?_
      rintro _ v55 ⟨rfl, hb⟩
      have h_v55 : (fun W => Below va.heap.size va W) v55 := h_v54.trans (hb.mono h_v54.size)
      have Hz_v55_13 : Hid (v55.heap[g44]? = some (.cells #[.int .i64 0] 3 (0, 0))) := (hb.block _ (Array.getElem?_eq_some_iff.1 Hz_v54_13.out).1).trans Hz_v54_13.out
      have Hz_v55_12 : Hid (v55.heap[g54]? = some (.cells #[.int .i64 0] 3 (0, 0))) := (hb.block _ (Array.getElem?_eq_some_iff.1 Hz_v54_12.out).1).trans Hz_v54_12.out
      refine hK.out _ _ (fun _ => h_v55) ?_
      clear hK K hb h_v54 Hz_v54_13 Hz_v54_12
      refine one_L (i := 11) (by kernel_rfl) rfl (fun K hK => ?_)
      go_simp
      refine (HC2.out v55 h_v55).mono ?_
      rintro _ v56 ⟨rfl, hb⟩
      have h_v56 : (fun W => Below va.heap.size va W) v56 := h_v55.trans (hb.mono h_v55.size)
      have Hz_v56_13 : Hid (v56.heap[g44]? = some (.cells #[.int .i64 0] 3 (0, 0))) := (hb.block _ (Array.getElem?_eq_some_iff.1 Hz_v55_13.out).1).trans Hz_v55_13.out
      have Hz_v56_12 : Hid (v56.heap[g54]? = some (.cells #[.int .i64 0] 3 (0, 0))) := (hb.block _ (Array.getElem?_eq_some_iff.1 Hz_v55_12.out).1).trans Hz_v55_12.out
      refine hK.out _ _ (fun _ => h_v56) ?_
      clear hK K hb h_v55 Hz_v55_13 Hz_v55_12
      refine one_L (i := 14) (by kernel_rfl) rfl (fun K hK => ?_)
      have s0 : v56.cell? ⟨g54, 0, none⟩ = some (.int .i64 0) := (cell_of_row v56 _ 0 _ 3 (0, 0) Hz_v56_12.out).trans rfl
      have f0 : v56.frozen? ⟨g54, 0, none⟩ = false := frozen_of_row v56 _ 0 _ 3 Hz_v56_12.out
      go_simp
      have h_v57 : (fun W => Below va.heap.size va W) (v56.setCell ⟨g54, 0, none⟩ (.int .i64 (s0v : Int))) := h_v56.setCell (p := ⟨g54, 0, none⟩) Hl_v54_12.out _
      have Hz_v57_12 : Hid ((v56.setCell ⟨g54, 0, none⟩ (.int .i64 (s0v : Int))).heap[g54]? = some (.cells #[.int .i64 (s0v : Int)] 3 (0, 0))) := heap_setCell_same v56 g54 0 _ 3 _ Hz_v56_12.out
      have Hz_v57_13 : Hid ((v56.setCell ⟨g54, 0, none⟩ (.int .i64 (s0v : Int))).heap[g44]? = some (.cells #[.int .i64 0] 3 (0, 0))) := (Below.heap_setCell _ _ _ _ Hn_v54_13_12.out).trans Hz_v56_13.out
      refine hK.out _ _ (fun _ => h_v57) ?_
      clear hK K s0 f0 h_v56 Hz_v56_13 Hz_v56_12
      generalize v56.setCell ⟨g54, 0, none⟩ (.int .i64 (s0v : Int)) = v57 at *
      refine one_L (i := 15) (by kernel_rfl) rfl (fun K hK => ?_)
      have s0 : v57.cell? ⟨g44, 0, none⟩ = some (.int .i64 0) := (cell_of_row v57 _ 0 _ 3 (0, 0) Hz_v57_13.out).trans rfl
      have f0 : v57.frozen? ⟨g44, 0, none⟩ = false := frozen_of_row v57 _ 0 _ 3 Hz_v57_13.out
      go_simp
      have h_v58 : (fun W => Below va.heap.size va W) (v57.setCell ⟨g44, 0, none⟩ (.int .i64 (lv : Int))) := h_v57.setCell (p := ⟨g44, 0, none⟩) Hl_v44_13.out _
      have Hz_v58_13 : Hid ((v57.setCell ⟨g44, 0, none⟩ (.int .i64 (lv : Int))).heap[g44]? = some (.cells #[.int .i64 (lv : Int)] 3 (0, 0))) := heap_setCell_same v57 g44 0 _ 3 _ Hz_v57_13.out
      have Hz_v58_12 : Hid ((v57.setCell ⟨g44, 0, none⟩ (.int .i64 (lv : Int))).heap[g54]? = some (.cells #[.int .i64 (s0v : Int)] 3 (0, 0))) := (Below.heap_setCell _ _ _ _ (Ne.symm Hn_v54_13_12.out)).trans Hz_v57_12.out
      refine hK.out _ _ (fun _ => h_v58) ?_
      clear hK K s0 f0 h_v57 Hz_v57_13 Hz_v57_12
      generalize v57.setCell ⟨g44, 0, none⟩ (.int .i64 (lv : Int)) = v58 at *
      refine done_L (by kernel_rfl) ?_ _
      have hc := HR.out v58 g54 g44 h_v58 Hl_v54_12.out (Ne.symm Hn_v54_13_12.out) Hz_v58_12.out Hz_v58_13.out
      have xb := cell_below y0 h_v58
      have xp := cell_below y1 h_v58
      clear HR HC1 HC2 h_v58 Hz_v58_12 Hz_v58_13 y0 y1 y2 k0 k1 k2 hne
      go_wp2_with fail
      refine hc.mono ?_
      rintro _ w9 ⟨rfl, v, hd, hx, hb9⟩
      have R := HP.out v w9 hd hb9
      clear hc hd hb9 HP xb xp
      go_wp2
      exact R
theorem due_c (e : LE) (o : LO e) (ls : List Int) (hll : ls.length = e.n) (hlv : Lv ls) (i : Nat) (hi : i < e.n) (w : World) (hM : LM e w) (hp : Pre w e.g 5 ls) :
    Calls Tryd.prog 28 #[.pointer (some ⟨e.q, e.o, none⟩), .int .i64 (i : Int)] w fun x w' => ∃ v : Nat, x = .returned (.int .i64 (v : Int)) ∧ Due (e.sys o.bx) (li ls) (nbl e.W e.D e.T i) i v ∧ Below w.heap.size w w' := by
  rcases hs : e.sky with _ | _
  · exact due_lamp e o hs ls hll hlv i hi w hM hp
  · exact due_sky e o hs ls hll hlv i hi w hM hp
end Go.Proofs.YtmfjmcaaoljjlaaDoor
