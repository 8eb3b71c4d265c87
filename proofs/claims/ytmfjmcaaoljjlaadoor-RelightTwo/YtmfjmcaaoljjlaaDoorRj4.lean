/-
  The landed New.
  The landed relight answers as JSpec asks.
-/
import Derived.Test.YtmfjmcaaoljjlaaDoorRj2
import Derived.Test.YtmfjmcaaoljjlaaDoorRtl
set_option maxRecDepth 20000
namespace Go.Proofs.YtmfjmcaaoljjlaaDoor
section
open C Go.RowKit L
attribute [local go_sem] Oper.semAt_some

/-- What New makes. -/
def NewR (W D T : Int) (bs : List Int) (w : World) (p : Nat) (w' : World) : Prop := ∃ (f : FP) (W1 D1 T1 : Nat), f.p = p ∧ W = W1 ∧ D = D1 ∧ T = T1 ∧ FA W1 D1 T1 bs f w' ∧ ∀ j, f.own j → w.heap.size ≤ j
def mn3 (x y z : Int) : Int := min (min x y) z
def mx3 (x y z : Int) : Int := max (max x y) z
theorem run_min3 {P : Program} (w : World) (ts : Array TypeId) (t : TypeId) (k k' k'' : IntKind) (x y z : Int) : (Builtin.min_ ts t #[.int k x, .int k' y, .int k'' z]).run P w = .ok (.int k (mn3 x y z)) w := by
  have e : (if z < (if y < x then y else x) then z else (if y < x then y else x)) = mn3 x y z := by
    unfold mn3
    rw [Int.min_def, Int.min_def]
    repeat' split
    all_goals omega
  simp [Builtin.min_, Builtin.min2, e]
theorem run_max3 {P : Program} (w : World) (ts : Array TypeId) (t : TypeId) (k k' k'' : IntKind) (x y z : Int) : (Builtin.max_ ts t #[.int k x, .int k' y, .int k'' z]).run P w = .ok (.int k (mx3 x y z)) w := by
  have e : (if (if x < y then y else x) < z then z else (if x < y then y else x)) = mx3 x y z := by
    unfold mx3
    rw [Int.max_def, Int.max_def]
    repeat' split
    all_goals omega
  simp [Builtin.max_, Builtin.max2, e]
attribute [local go_sem high] run_min3 run_max3
theorem mn3_iff {x y z : Int} : 1 ≤ mn3 x y z ↔ 1 ≤ x ∧ 1 ≤ y ∧ 1 ≤ z := by
  unfold mn3
  rw [Int.min_def, Int.min_def]
  repeat' split
  all_goals omega
theorem mx3_iff {x y z : Int} : mx3 x y z ≤ 32 ↔ x ≤ 32 ∧ y ≤ 32 ∧ z ≤ 32 := by
  unfold mx3
  rw [Int.max_def, Int.max_def]
  repeat' split
  all_goals omega
set_option maxRecDepth 1000000 in
set_option maxHeartbeats 8000000 in
theorem pnew_c (W D T : Int) (a : Option Addr) (n c : Nat) (bs : List Int) (w : World) (hT : Tabs w) (hn : n ≤ 1000000) (hS : Src w a n bs) :
    Calls Tryd.prog 10 #[.int .i64 W, .int .i64 D, .int .i64 T, .slice a n c] w (NewAs W D T n bs w (NewR W D T bs w)) := by
  obtain ⟨Post, hPost⟩ : ∃ Post, NewAs W D T n bs w (NewR W D T bs w) = Post := ⟨_, rfl⟩
  rw [hPost]
  have H1 : Hid (¬ OkDims W D T n → Post (.returned (.tuple #[.pointer none, .int .i64 1])) w) := fun h => by rw [← hPost]; exact .inl ⟨h, rfl, Below.refl _ _⟩
  have H2 : Hid (OkDims W D T n → ¬ Kinds bs → Post (.returned (.tuple #[.pointer none, .int .i64 10])) w) := fun h k => by rw [← hPost]; exact .inr (.inl ⟨h, k, rfl, Below.refl _ _⟩)
  have H3 : Hid (∀ g w', OkDims W D T n → Kinds bs → NewR W D T bs w g w' → Below w.heap.size w w' → Post (.returned (.tuple #[.pointer (some ⟨g, 0, none⟩), .int .i64 0])) w') := fun g w' h k r b => by rw [← hPost]; exact .inr (.inr ⟨h, k, g, rfl, r, b⟩)
  have HS : Hid (Src w a n bs ∧ Tabs w) := ⟨hS, hT⟩
  clear hPost hS hT
  go_enter Tryd.func10, Tryd.ntmps10
  by_cases a1 : 1 ≤ mn3 W D T
  case neg =>
    have R := H1.out (fun h => a1 (mn3_iff.2 (by have := h.1; omega)))
    clear H1 H2 H3 HS
    have a1' : mn3 W D T < 1 := by omega
    go_wp2
    first | exact R | (go_ret2; exact R)
  by_cases a2 : mx3 W D T ≤ 32
  case neg =>
    have R := H1.out (fun h => a2 (mx3_iff.2 (by have := h.1; omega)))
    clear H1 H2 H3 HS
    go_wp2
    first | exact R | (go_ret2; exact R)
  obtain ⟨x1, x2, x3⟩ := mn3_iff.1 a1
  obtain ⟨y1, y2, y3⟩ := mx3_iff.1 a2
  obtain ⟨M, N, m1, m2, mb, nb, n1, hN⟩ := dims_nat (n := n) ⟨x1, y1, x2, y2, x3, y3⟩
  by_cases hnN : n = N
  case neg =>
    have R := H1.out (fun h => hnN (hN.1 h))
    have hne : ¬ (n : Int) = (N : Int) := by omega
    have hne2 : ((n : Int) != (N : Int)) = true := by simpa using hne
    clear H1 H2 H3 hN HS
    go_wp2
    first | exact R | (go_ret2; exact R)
  have HOk : Hid (OkDims W D T n) := hN.2 hnN
  clear H1 hN
  obtain rfl : n = N := hnN
  have hmx := max_c a n c bs w (by omega) hn HS.out.1
  go_wp2_with fail
  refine hmx.mono ?_
  rintro _ w' ⟨Mx, rfl, hMx, hw'⟩
  subst w'
  clear hmx
  by_cases hk : 16 < Mx
  case pos =>
    have R := H2.out HOk.out (hMx.1 hk)
    clear H2 H3 HS HOk hMx
    go_wp2
    first | exact R | (go_ret2; exact R)
  have HKs : Hid (Kinds bs) := Classical.not_not.1 (fun h => hk (hMx.2 h))
  have hcl := clone_c a n c bs w (by omega) hn HS.out.1
  clear H2 hMx
  go_wp2_with fail
  refine hcl.mono ?_
  rintro _ w1 ⟨kb, cap, rfl, hp1, hb1, hk1⟩
  have hT1 := HS.out.2.on hb1
  have hlen := HS.out.1.len
  obtain ⟨W, rfl⟩ := Int.eq_ofNat_of_zero_le (show 0 ≤ W by omega)
  obtain ⟨D, rfl⟩ := Int.eq_ofNat_of_zero_le (show 0 ≤ D by omega)
  obtain ⟨T, rfl⟩ := Int.eq_ofNat_of_zero_le (show 0 ≤ T by omega)
  have hbx : Bx W D T := ⟨by omega, by omega, by omega, by omega, by omega, by omega⟩
  have hnn : n = W * D * T := by
    have := HOk.out.2
    norm_cast at this
  have hkl : bs.length = W * D * T := by rw [hlen, hnn]
  have hb2 : Below w1.heap.size w1 (w1.alloc (.cells #[.int .i64 (W : Int), .int .i64 (D : Int), .int .i64 (T : Int), .slice (some ⟨kb, 0, none⟩) n cap, .pointer none, .nilIface, .slice none 0 0, .pointer none, .nilIface, .slice none 0 0] 54)) := (Below.refl _ _).alloc (Nat.le_refl _) _
  have hrow0 := heap_alloc_new w1 (.cells #[.int .i64 (W : Int), .int .i64 (D : Int), .int .i64 (T : Int), .slice (some ⟨kb, 0, none⟩) n cap, .pointer none, .nilIface, .slice none 0 0, .pointer none, .nilIface, .slice none 0 0] 54)
  have HU1 : Hid ((w1.alloc (.cells #[.int .i64 (W : Int), .int .i64 (D : Int), .int .i64 (T : Int), .slice (some ⟨kb, 0, none⟩) n cap, .pointer none, .nilIface, .slice none 0 0, .pointer none, .nilIface, .slice none 0 0] 54)).heap[w1.heap.size]? = some (.cells #[.int .i64 (W : Int), .int .i64 (D : Int), .int .i64 (T : Int), .slice (some ⟨kb, 0, none⟩) n cap, .pointer none, .nilIface, .slice none 0 0, .pointer none, .nilIface, .slice none 0 0] 54 (0, 0)) ∧ Below w.heap.size w (w1.alloc (.cells #[.int .i64 (W : Int), .int .i64 (D : Int), .int .i64 (T : Int), .slice (some ⟨kb, 0, none⟩) n cap, .pointer none, .nilIface, .slice none 0 0, .pointer none, .nilIface, .slice none 0 0] 54)) ∧ Pre (w1.alloc (.cells #[.int .i64 (W : Int), .int .i64 (D : Int), .int .i64 (T : Int), .slice (some ⟨kb, 0, none⟩) n cap, .pointer none, .nilIface, .slice none 0 0, .pointer none, .nilIface, .slice none 0 0] 54)) kb 5 bs ∧ Tabs (w1.alloc (.cells #[.int .i64 (W : Int), .int .i64 (D : Int), .int .i64 (T : Int), .slice (some ⟨kb, 0, none⟩) n cap, .pointer none, .nilIface, .slice none 0 0, .pointer none, .nilIface, .slice none 0 0] 54))) := ⟨hrow0, hb1.trans (hb2.mono hb1.size), hp1.on hb2, hT1.on hb2⟩
  clear x1 x2 x3 y1 y2 y3 m1 m2 mb nb n1 a1 a2
  have hrow3 : some (Value.slice (some ⟨kb, 0, none⟩) n cap) = some (.slice (some ⟨kb, 0, none⟩) (W * D * T) cap) := by rw [hnn]
  have hwp : w.heap.size ≤ w1.heap.size := hb1.size
  have hkp : kb < w1.heap.size := hp1.lt
  have hp0 : 0 < w1.heap.size := by omega
  have hkz : 0 < kb := by
    obtain ⟨t, fr, h1⟩ := HS.out.2.kinds
    have := (Array.getElem?_eq_some_iff.1 h1).1
    omega
  have Hnn : Hid (n = W * D * T ∧ some (Value.slice (some ⟨kb, 0, none⟩) n cap) = some (.slice (some ⟨kb, 0, none⟩) (W * D * T) cap) ∧ bs.length = W * D * T) := ⟨hnn, hrow3, hkl⟩
  clear hcl hp1 hb1 hT1 hb2 hrow0 HS hlen hnn hrow3 hkl
  go_wp2_with fail
  generalize w1.alloc (.cells #[.int .i64 (W : Int), .int .i64 (D : Int), .int .i64 (T : Int), .slice (some ⟨kb, 0, none⟩) n cap, .pointer none, .nilIface, .slice none 0 0, .pointer none, .nilIface, .slice none 0 0] 54) = w2 at *
  generalize w1.heap.size = p at *
  refine region_L (fun _ => True) 12 (by kernel_rfl) ?_
  have hd1 : Below w2.heap.size w2 w2.drew := (Below.refl _ _).drew
  have HV1 : Hid (w2.drew.heap[p]? = some (.cells #[.int .i64 (W : Int), .int .i64 (D : Int), .int .i64 (T : Int), .slice (some ⟨kb, 0, none⟩) n cap, .pointer none, .nilIface, .slice none 0 0, .pointer none, .nilIface, .slice none 0 0] 54 (0, 0)) ∧ Below w.heap.size w w2.drew ∧ Pre w2.drew kb 5 bs ∧ Tabs w2.drew) := ⟨(hd1.block p (Array.getElem?_eq_some_iff.1 HU1.out.1).1).trans HU1.out.1, HU1.out.2.1.trans (hd1.mono HU1.out.2.1.size), HU1.out.2.2.1.on hd1, HU1.out.2.2.2.on hd1⟩
  clear HU1 hd1
  generalize w2.drew = va1 at *
  have hHeld : (fun _ : World => True) va1 := trivial
  have hne : Nonempty (Sub (fun _ : World => True)) := ⟨⟨va1, trivial⟩⟩
  refine take_L (i := 0) rfl (by kernel_rfl) (by kernel_rfl) (by kernel_rfl) (by kernel_rfl) (fun _ _ _ _ h => h) (by exact hHeld) (fun K hK => ?_)
  go_simp
  refine hK _ ?_
  clear hK K
  refine take_L (i := 1) rfl (by kernel_rfl) (by kernel_rfl) (by kernel_rfl) (by kernel_rfl) (fun _ _ _ _ h => h) (by exact hHeld) (fun K hK => ?_)
  go_simp
  refine hK _ ?_
  clear hK K
  refine take_L (i := 2) rfl (by kernel_rfl) (by kernel_rfl) (by kernel_rfl) (by kernel_rfl) (fun _ _ _ _ h => h) (by exact hHeld) (fun K hK => ?_)
  go_simp
  refine hK _ ?_
  clear hK K
  refine take_L (i := 3) rfl (by kernel_rfl) (by kernel_rfl) (by kernel_rfl) (by kernel_rfl) (fun _ _ _ _ h => h) (by exact hHeld) (fun K hK => ?_)
  go_simp
  refine hK _ ?_
  clear hK K
  refine take_L (i := 4) rfl (by kernel_rfl) (by kernel_rfl) (by kernel_rfl) (by kernel_rfl) (fun _ _ _ _ h => h) (by exact hHeld) (fun K hK => ?_)
  go_simp
  refine hK _ ?_
  clear hK K
  refine take_L (i := 5) rfl (by kernel_rfl) (by kernel_rfl) (by kernel_rfl) (by kernel_rfl) (fun _ _ _ _ h => h) (by exact hHeld) (fun K hK => ?_)
  go_simp
  refine hK _ ?_
  clear hK K
  refine take_L (i := 6) rfl (by kernel_rfl) (by kernel_rfl) (by kernel_rfl) (by kernel_rfl) (fun _ _ _ _ h => h) (by exact hHeld) (fun K hK => ?_)
  go_simp
  refine hK _ ?_
  clear hK K
  refine take_L (i := 7) rfl (by kernel_rfl) (by kernel_rfl) (by kernel_rfl) (by kernel_rfl) (fun _ _ _ _ h => h) (by exact hHeld) (fun K hK => ?_)
  go_simp
  refine hK _ ?_
  clear hK K
  refine take_L (i := 8) rfl (by kernel_rfl) (by kernel_rfl) (by kernel_rfl) (by kernel_rfl) (fun _ _ _ _ h => h) (by exact hHeld) (fun K hK => ?_)
  go_simp
  refine hK _ ?_
  clear hK K
  have hl1 := lit_c (eSky ⟨p, kb, cap, 0, 0, 0, 0⟩ W D T bs) hbx Hnn.out.2.2 HKs.out va1 ⟨(cell_of_row va1 p 0 _ 54 (0, 0) HV1.out.1).trans rfl, (cell_of_row va1 p 1 _ 54 (0, 0) HV1.out.1).trans rfl, (cell_of_row va1 p 2 _ 54 (0, 0) HV1.out.1).trans rfl, (cell_of_row va1 p 3 _ 54 (0, 0) HV1.out.1).trans Hnn.out.2.1, HV1.out.2.2.1, HV1.out.2.2.2⟩
  have hm1 : Calls Tryd.prog 20 #[.pointer (some ⟨p, 0, none⟩), .iface 57 (.agg #[.pointer (some ⟨p, 0, none⟩)])] va1 fun x w' => ∃ g ls, x = .returned (.agg #[.pointer (some ⟨p, 0, none⟩), .iface 57 (.agg #[.pointer (some ⟨p, 0, none⟩)]), .slice (some ⟨g, 0, none⟩) n n]) ∧ LightOf (L.skyS W D T (fun j => bs.getD j 0) hbx.w0 hbx.d0) n ls ∧ Pre w' g 5 ls ∧ Below va1.heap.size va1 w' ∧ va1.heap.size ≤ g := by
    have e1 : n = W * D * T := Hnn.out.1
    rw [e1]
    exact hl1
  clear hl1
  refine one_L (i := 9) (by kernel_rfl) rfl (fun K hK => ?_)
  go_simp
  refine hm1.mono ?_
  rintro _ wb1 ⟨g1, l1, rfl, hL1, hP1, hb1, hg1⟩
  refine hK.out _ _ (fun _ => trivial) ?_
  clear hK K hm1
  refine take_LC (i := 10) [11] rfl (by kernel_rfl) (by kernel_rfl) (by kernel_rfl) (by kernel_rfl) (by kernel_rfl) (fun _ _ _ _ h => h) (by exact hHeld) (fun K hK => ?_)
  go_simp
  refine hK _ ?_
  clear hK K
  refine take_L (i := 11) rfl (by kernel_rfl) (by kernel_rfl) (by kernel_rfl) (by kernel_rfl) (fun _ _ _ _ h => h) (by exact hHeld) (fun K hK => ?_)
  go_simp
  refine hK _ ?_
  clear hK K
  have hr1 : wb1.heap[p]? = some (.cells #[.int .i64 (W : Int), .int .i64 (D : Int), .int .i64 (T : Int), .slice (some ⟨kb, 0, none⟩) n cap, .pointer none, .nilIface, .slice none 0 0, .pointer none, .nilIface, .slice none 0 0] 54 (0, 0)) := (hb1.block p (Array.getElem?_eq_some_iff.1 HV1.out.1).1).trans HV1.out.1
  have x10 : wb1.cell? ⟨p, 4, none⟩ = some (.pointer none) := (cell_of_row wb1 p 4 _ 54 (0, 0) hr1).trans rfl
  have x11 : wb1.cell? ⟨p, 5, none⟩ = some .nilIface := (cell_of_row wb1 p 5 _ 54 (0, 0) hr1).trans rfl
  have x12 : wb1.cell? ⟨p, 6, none⟩ = some (.slice none 0 0) := (cell_of_row wb1 p 6 _ 54 (0, 0) hr1).trans rfl
  have f1 : ∀ j, wb1.frozen? ⟨p, j, none⟩ = false := fun j => frozen_of_row wb1 p j _ 54 hr1
  have HW1 : Hid (∀ w4, w4 = ((wb1.setCell ⟨p, 4, none⟩ (.pointer (some ⟨p, 0, none⟩))).setCell ⟨p, 5, none⟩ (.iface 57 (.agg #[.pointer (some ⟨p, 0, none⟩)]))).setCell ⟨p, 6, none⟩ (.slice (some ⟨g1, 0, none⟩) n n) → w4.heap[p]? = some (.cells #[.int .i64 (W : Int), .int .i64 (D : Int), .int .i64 (T : Int), .slice (some ⟨kb, 0, none⟩) n cap, .pointer (some ⟨p, 0, none⟩), .iface 57 (.agg #[.pointer (some ⟨p, 0, none⟩)]), .slice (some ⟨g1, 0, none⟩) n n, .pointer none, .nilIface, .slice none 0 0] 54 (0, 0)) ∧ Below w.heap.size w w4 ∧ Pre w4 kb 5 bs ∧ Tabs w4 ∧ Pre w4 g1 5 l1) := fun w4 h4 => by
    have hset : ∀ {b : Nat}, b ≠ p → w4.heap[b]? = wb1.heap[b]? := fun {b} hne => by
      rw [h4]
      exact (Below.heap_setCell _ ⟨p, 6, none⟩ _ b hne).trans ((Below.heap_setCell _ ⟨p, 5, none⟩ _ b hne).trans (Below.heap_setCell wb1 ⟨p, 4, none⟩ _ b hne))
    have hpre : ∀ {b : Nat} {cs : List Int}, Pre wb1 b 5 cs → Pre w4 b 5 cs := fun {b cs} h => by
      have hne := pre_ne h hr1 (by decide)
      obtain ⟨cu, hcu, hrr⟩ := h
      exact ⟨cu, (hset hne).trans hcu, hrr⟩
    have hbw : Below w.heap.size w wb1 := HV1.out.2.1.trans (hb1.mono HV1.out.2.1.size)
    refine ⟨?_, ?_, hpre (HV1.out.2.2.1.on hb1), ?_, hpre hP1⟩
    · rw [h4]
      exact heap_setCell_same _ p 6 _ 54 _ (heap_setCell_same _ p 5 _ 54 _ (heap_setCell_same wb1 p 4 _ 54 _ hr1))
    · rw [h4]
      exact ((hbw.setCell (p := ⟨p, 4, none⟩) hwp _).setCell (p := ⟨p, 5, none⟩) hwp _).setCell (p := ⟨p, 6, none⟩) hwp _
    · obtain ⟨t, fr, h1⟩ := (HV1.out.2.2.2.on hb1).kinds
      exact ⟨⟨t, fr, (hset (by omega)).trans h1⟩⟩
  refine one_L (i := 12) (by kernel_rfl) rfl (fun K hK => ?_)
  go_simp
  refine hK.out _ _ (fun h => absurd rfl h) ?_
  clear hK K
  refine done_L (by kernel_rfl) ?_ _
  have hwz1 := HW1.out _ rfl
  have HZ1 : Hid (LightOf (L.skyS W D T (fun j => bs.getD j 0) hbx.w0 hbx.d0) n l1 ∧ va1.heap.size ≤ g1 ∧ kb < g1 ∧ p < g1 ∧ w.heap.size ≤ g1) := ⟨hL1, hg1, by have := HV1.out.2.2.1.lt; omega, by have := (Array.getElem?_eq_some_iff.1 HV1.out.1).1; omega, by have := HV1.out.2.1.size; omega⟩
  clear HW1 hr1 hP1 hb1 hL1 HV1 hg1 x10 x11 x12 f1 hHeld hne
  generalize ((wb1.setCell ⟨p, 4, none⟩ (.pointer (some ⟨p, 0, none⟩))).setCell ⟨p, 5, none⟩ (.iface 57 (.agg #[.pointer (some ⟨p, 0, none⟩)]))).setCell ⟨p, 6, none⟩ (.slice (some ⟨g1, 0, none⟩) n n) = wc1 at *
  have HU2 : Hid (wc1.heap[p]? = some (.cells #[.int .i64 (W : Int), .int .i64 (D : Int), .int .i64 (T : Int), .slice (some ⟨kb, 0, none⟩) n cap, .pointer (some ⟨p, 0, none⟩), .iface 57 (.agg #[.pointer (some ⟨p, 0, none⟩)]), .slice (some ⟨g1, 0, none⟩) n n, .pointer none, .nilIface, .slice none 0 0] 54 (0, 0)) ∧ Below w.heap.size w wc1 ∧ Pre wc1 kb 5 bs ∧ Tabs wc1 ∧ Pre wc1 g1 5 l1) := hwz1
  clear hwz1
  go_wp2_with fail
  refine region_L (fun _ => True) 12 (by kernel_rfl) ?_
  have hd2 : Below wc1.heap.size wc1 wc1.drew := (Below.refl _ _).drew
  have HV2 : Hid (wc1.drew.heap[p]? = some (.cells #[.int .i64 (W : Int), .int .i64 (D : Int), .int .i64 (T : Int), .slice (some ⟨kb, 0, none⟩) n cap, .pointer (some ⟨p, 0, none⟩), .iface 57 (.agg #[.pointer (some ⟨p, 0, none⟩)]), .slice (some ⟨g1, 0, none⟩) n n, .pointer none, .nilIface, .slice none 0 0] 54 (0, 0)) ∧ Below w.heap.size w wc1.drew ∧ Pre wc1.drew kb 5 bs ∧ Tabs wc1.drew ∧ Pre wc1.drew g1 5 l1) := ⟨(hd2.block p (Array.getElem?_eq_some_iff.1 HU2.out.1).1).trans HU2.out.1, HU2.out.2.1.trans (hd2.mono HU2.out.2.1.size), HU2.out.2.2.1.on hd2, HU2.out.2.2.2.1.on hd2, HU2.out.2.2.2.2.on hd2⟩
  clear HU2 hd2
  generalize wc1.drew = va2 at *
  have hHeld : (fun _ : World => True) va2 := trivial
  have hne : Nonempty (Sub (fun _ : World => True)) := ⟨⟨va2, trivial⟩⟩
  refine take_L (i := 0) rfl (by kernel_rfl) (by kernel_rfl) (by kernel_rfl) (by kernel_rfl) (fun _ _ _ _ h => h) (by exact hHeld) (fun K hK => ?_)
  go_simp
  refine hK _ ?_
  clear hK K
  refine take_L (i := 1) rfl (by kernel_rfl) (by kernel_rfl) (by kernel_rfl) (by kernel_rfl) (fun _ _ _ _ h => h) (by exact hHeld) (fun K hK => ?_)
  go_simp
  refine hK _ ?_
  clear hK K
  refine take_L (i := 2) rfl (by kernel_rfl) (by kernel_rfl) (by kernel_rfl) (by kernel_rfl) (fun _ _ _ _ h => h) (by exact hHeld) (fun K hK => ?_)
  go_simp
  refine hK _ ?_
  clear hK K
  refine take_L (i := 3) rfl (by kernel_rfl) (by kernel_rfl) (by kernel_rfl) (by kernel_rfl) (fun _ _ _ _ h => h) (by exact hHeld) (fun K hK => ?_)
  go_simp
  refine hK _ ?_
  clear hK K
  refine take_L (i := 4) rfl (by kernel_rfl) (by kernel_rfl) (by kernel_rfl) (by kernel_rfl) (fun _ _ _ _ h => h) (by exact hHeld) (fun K hK => ?_)
  go_simp
  refine hK _ ?_
  clear hK K
  refine take_L (i := 5) rfl (by kernel_rfl) (by kernel_rfl) (by kernel_rfl) (by kernel_rfl) (fun _ _ _ _ h => h) (by exact hHeld) (fun K hK => ?_)
  go_simp
  refine hK _ ?_
  clear hK K
  refine take_L (i := 6) rfl (by kernel_rfl) (by kernel_rfl) (by kernel_rfl) (by kernel_rfl) (fun _ _ _ _ h => h) (by exact hHeld) (fun K hK => ?_)
  go_simp
  refine hK _ ?_
  clear hK K
  refine take_L (i := 7) rfl (by kernel_rfl) (by kernel_rfl) (by kernel_rfl) (by kernel_rfl) (fun _ _ _ _ h => h) (by exact hHeld) (fun K hK => ?_)
  go_simp
  refine hK _ ?_
  clear hK K
  refine take_L (i := 8) rfl (by kernel_rfl) (by kernel_rfl) (by kernel_rfl) (by kernel_rfl) (fun _ _ _ _ h => h) (by exact hHeld) (fun K hK => ?_)
  go_simp
  refine hK _ ?_
  clear hK K
  have hl2 := lit_c (eLamp ⟨p, kb, cap, 0, 0, 0, 0⟩ W D T bs) hbx Hnn.out.2.2 HKs.out va2 ⟨(cell_of_row va2 p 0 _ 54 (0, 0) HV2.out.1).trans rfl, (cell_of_row va2 p 1 _ 54 (0, 0) HV2.out.1).trans rfl, (cell_of_row va2 p 2 _ 54 (0, 0) HV2.out.1).trans rfl, (cell_of_row va2 p 3 _ 54 (0, 0) HV2.out.1).trans Hnn.out.2.1, HV2.out.2.2.1, HV2.out.2.2.2.1⟩
  have hm2 : Calls Tryd.prog 20 #[.pointer (some ⟨p, 0, none⟩), .iface 58 (.agg #[.pointer (some ⟨p, 0, none⟩)])] va2 fun x w' => ∃ g ls, x = .returned (.agg #[.pointer (some ⟨p, 0, none⟩), .iface 58 (.agg #[.pointer (some ⟨p, 0, none⟩)]), .slice (some ⟨g, 0, none⟩) n n]) ∧ LightOf (L.lampS W D T (fun j => bs.getD j 0) hbx.w0 hbx.d0) n ls ∧ Pre w' g 5 ls ∧ Below va2.heap.size va2 w' ∧ va2.heap.size ≤ g := by
    have e1 : n = W * D * T := Hnn.out.1
    rw [e1]
    exact hl2
  clear hl2
  refine one_L (i := 9) (by kernel_rfl) rfl (fun K hK => ?_)
  go_simp
  refine hm2.mono ?_
  rintro _ wb2 ⟨g2, l2, rfl, hL2, hP2, hb2, hg2⟩
  refine hK.out _ _ (fun _ => trivial) ?_
  clear hK K hm2
  refine take_LC (i := 10) [11] rfl (by kernel_rfl) (by kernel_rfl) (by kernel_rfl) (by kernel_rfl) (by kernel_rfl) (fun _ _ _ _ h => h) (by exact hHeld) (fun K hK => ?_)
  go_simp
  refine hK _ ?_
  clear hK K
  refine take_L (i := 11) rfl (by kernel_rfl) (by kernel_rfl) (by kernel_rfl) (by kernel_rfl) (fun _ _ _ _ h => h) (by exact hHeld) (fun K hK => ?_)
  go_simp
  refine hK _ ?_
  clear hK K
  have hr2 : wb2.heap[p]? = some (.cells #[.int .i64 (W : Int), .int .i64 (D : Int), .int .i64 (T : Int), .slice (some ⟨kb, 0, none⟩) n cap, .pointer (some ⟨p, 0, none⟩), .iface 57 (.agg #[.pointer (some ⟨p, 0, none⟩)]), .slice (some ⟨g1, 0, none⟩) n n, .pointer none, .nilIface, .slice none 0 0] 54 (0, 0)) := (hb2.block p (Array.getElem?_eq_some_iff.1 HV2.out.1).1).trans HV2.out.1
  have x20 : wb2.cell? ⟨p, 7, none⟩ = some (.pointer none) := (cell_of_row wb2 p 7 _ 54 (0, 0) hr2).trans rfl
  have x21 : wb2.cell? ⟨p, 8, none⟩ = some .nilIface := (cell_of_row wb2 p 8 _ 54 (0, 0) hr2).trans rfl
  have x22 : wb2.cell? ⟨p, 9, none⟩ = some (.slice none 0 0) := (cell_of_row wb2 p 9 _ 54 (0, 0) hr2).trans rfl
  have f2 : ∀ j, wb2.frozen? ⟨p, j, none⟩ = false := fun j => frozen_of_row wb2 p j _ 54 hr2
  have HW2 : Hid (∀ w4, w4 = ((wb2.setCell ⟨p, 7, none⟩ (.pointer (some ⟨p, 0, none⟩))).setCell ⟨p, 8, none⟩ (.iface 58 (.agg #[.pointer (some ⟨p, 0, none⟩)]))).setCell ⟨p, 9, none⟩ (.slice (some ⟨g2, 0, none⟩) n n) → w4.heap[p]? = some (.cells #[.int .i64 (W : Int), .int .i64 (D : Int), .int .i64 (T : Int), .slice (some ⟨kb, 0, none⟩) n cap, .pointer (some ⟨p, 0, none⟩), .iface 57 (.agg #[.pointer (some ⟨p, 0, none⟩)]), .slice (some ⟨g1, 0, none⟩) n n, .pointer (some ⟨p, 0, none⟩), .iface 58 (.agg #[.pointer (some ⟨p, 0, none⟩)]), .slice (some ⟨g2, 0, none⟩) n n] 54 (0, 0)) ∧ Below w.heap.size w w4 ∧ Pre w4 kb 5 bs ∧ Tabs w4 ∧ Pre w4 g2 5 l2 ∧ Pre w4 g1 5 l1) := fun w4 h4 => by
    have hset : ∀ {b : Nat}, b ≠ p → w4.heap[b]? = wb2.heap[b]? := fun {b} hne => by
      rw [h4]
      exact (Below.heap_setCell _ ⟨p, 9, none⟩ _ b hne).trans ((Below.heap_setCell _ ⟨p, 8, none⟩ _ b hne).trans (Below.heap_setCell wb2 ⟨p, 7, none⟩ _ b hne))
    have hpre : ∀ {b : Nat} {cs : List Int}, Pre wb2 b 5 cs → Pre w4 b 5 cs := fun {b cs} h => by
      have hne := pre_ne h hr2 (by decide)
      obtain ⟨cu, hcu, hrr⟩ := h
      exact ⟨cu, (hset hne).trans hcu, hrr⟩
    have hbw : Below w.heap.size w wb2 := HV2.out.2.1.trans (hb2.mono HV2.out.2.1.size)
    refine ⟨?_, ?_, hpre (HV2.out.2.2.1.on hb2), ?_, hpre hP2, hpre (HV2.out.2.2.2.2.on hb2)⟩
    · rw [h4]
      exact heap_setCell_same _ p 9 _ 54 _ (heap_setCell_same _ p 8 _ 54 _ (heap_setCell_same wb2 p 7 _ 54 _ hr2))
    · rw [h4]
      exact ((hbw.setCell (p := ⟨p, 7, none⟩) hwp _).setCell (p := ⟨p, 8, none⟩) hwp _).setCell (p := ⟨p, 9, none⟩) hwp _
    · obtain ⟨t, fr, h1⟩ := (HV2.out.2.2.2.1.on hb2).kinds
      exact ⟨⟨t, fr, (hset (by omega)).trans h1⟩⟩
  refine one_L (i := 12) (by kernel_rfl) rfl (fun K hK => ?_)
  go_simp
  refine hK.out _ _ (fun h => absurd rfl h) ?_
  clear hK K
  refine done_L (by kernel_rfl) ?_ _
  have hwz2 := HW2.out _ rfl
  have HZ2 : Hid (LightOf (L.lampS W D T (fun j => bs.getD j 0) hbx.w0 hbx.d0) n l2 ∧ va2.heap.size ≤ g2 ∧ kb < g2 ∧ p < g2 ∧ w.heap.size ≤ g2 ∧ g1 < g2) := ⟨hL2, hg2, by have := HV2.out.2.2.1.lt; omega, by have := (Array.getElem?_eq_some_iff.1 HV2.out.1).1; omega, by have := HV2.out.2.1.size; omega, by have := HV2.out.2.2.2.2.lt; omega⟩
  clear HW2 hr2 hP2 hb2 hL2 HV2 hg2 x20 x21 x22 f2 hHeld hne
  generalize ((wb2.setCell ⟨p, 7, none⟩ (.pointer (some ⟨p, 0, none⟩))).setCell ⟨p, 8, none⟩ (.iface 58 (.agg #[.pointer (some ⟨p, 0, none⟩)]))).setCell ⟨p, 9, none⟩ (.slice (some ⟨g2, 0, none⟩) n n) = wc2 at *
  have HU3 : Hid (wc2.heap[p]? = some (.cells #[.int .i64 (W : Int), .int .i64 (D : Int), .int .i64 (T : Int), .slice (some ⟨kb, 0, none⟩) n cap, .pointer (some ⟨p, 0, none⟩), .iface 57 (.agg #[.pointer (some ⟨p, 0, none⟩)]), .slice (some ⟨g1, 0, none⟩) n n, .pointer (some ⟨p, 0, none⟩), .iface 58 (.agg #[.pointer (some ⟨p, 0, none⟩)]), .slice (some ⟨g2, 0, none⟩) n n] 54 (0, 0)) ∧ Below w.heap.size w wc2 ∧ Pre wc2 kb 5 bs ∧ Tabs wc2 ∧ Pre wc2 g2 5 l2 ∧ Pre wc2 g1 5 l1) := hwz2
  clear hwz2
  have R := H3.out p wc2 HOk.out HKs.out ⟨⟨p, kb, cap, g1, n, g2, n⟩, W, D, T, rfl, rfl, rfl, rfl, ⟨hbx, l1, l2, ⟨by
      have := HU3.out.1
      rw [Hnn.out.1] at this
      rw [Hnn.out.1]
      exact this, HU3.out.2.2.1, HU3.out.2.2.2.2.2, HU3.out.2.2.2.2.1, Nat.ne_of_lt HZ1.out.2.2.1, Nat.ne_of_lt HZ2.out.2.2.1, Nat.ne_of_lt HZ2.out.2.2.2.2.2, hp0, hkz, by have := HZ1.out.2.2.1; show 0 < g1; omega, by have := HZ2.out.2.2.1; show 0 < g2; omega⟩, by rw [← Hnn.out.1]; exact HZ1.out.1, by rw [← Hnn.out.1]; exact HZ2.out.1⟩, fun j hj => by
      rcases hj with rfl | rfl | rfl | rfl
      · exact hwp
      · exact hk1
      · exact HZ1.out.2.2.2.2
      · exact HZ2.out.2.2.2.2.1⟩ HU3.out.2.1
  clear H3 HU3 HZ1 HZ2 HOk HKs
  go_wp2
  first | exact R | (go_ret2; exact R)
end
section
open C Go.RowKit L

theorem NewAs.mono {W D T : Int} {n : Nat} {bs : List Int} {w : World} {R R' : Nat → World → Prop} {e : Ending} {w' : World} (h : NewAs W D T n bs w R e w') (hR : ∀ g w', R g w' → R' g w') : NewAs W D T n bs w R' e w' := by
  rcases h with h | h | ⟨h1, h2, g, h3, h4, h5⟩
  · exact .inl h
  · exact .inr (.inl h)
  · exact .inr (.inr ⟨h1, h2, g, h3, hR g w' h4, h5⟩)
/-- A copy that was handed out. -/
theorem copied {f : FP} {W D T : Nat} {bs : List Int} {w w' : World} (hA : FA W D T bs f w) (hb : Below w.heap.size w w') : FA W D T bs f w' ∧ OnlyF f.own w w' := by
  obtain ⟨bx, sl, ll, h1, h2, h3⟩ := hA
  exact ⟨⟨bx, sl, ll, h1.keep (fun j hj => hb.block j (h1.lt hj)), h2, h3⟩, only_below hb⟩
def jspec : JSpec where
  G := Tabs
  A := JA
  gon h hb := h.on hb
  gof {W D T bs p F w w'} h ha ho := by
    obtain ⟨f, _, rfl, bx, sl, ll, h1, _, _⟩ := ha
    exact onlyF_tabs ho (fun q => by have := h1.pos q; omega) h
  lt {W D T bs p F w} h j hj := by
    obtain ⟨f, _, rfl, bx, sl, ll, h1, _, _⟩ := h
    exact h1.lt hj
  keep {W D T bs p F w w'} h _ hk := by
    obtain ⟨f, hp, rfl, hA⟩ := h
    exact ⟨f, hp, rfl, hA.keep hk⟩
  new W D T a n c bs w hG hn hS := (pnew_c W D T a n c bs w hG hn hS).mono (fun e w' h => h.mono (fun g w' ⟨f, W1, D1, T1, h1, h2, h3, h4, h5, h6⟩ => ⟨f.own, W1, D1, T1, h2, h3, h4, ⟨f, h1, rfl, h5⟩, h6⟩))
  set W D T bs p F i k w _ hG hA hk hl := by
    obtain ⟨f, rfl, rfl, hA⟩ := hA
    refine (pset_c W D T bs f i k w hG hA hk hl).mono ?_
    rintro e w' (⟨h1, h2, h3, h4⟩ | ⟨h1, h2, h3, h4, h5⟩ | ⟨I, h1, h2, h3, h4, h5, h6⟩)
    · exact .inl ⟨h1, h2, f.own, ⟨f, rfl, rfl, h3⟩, h4, fun j q => .inl q⟩
    · exact .inr (.inl ⟨h1, h2, h3, f.own, ⟨f, rfl, rfl, h4⟩, h5, fun j q => .inl q⟩)
    · exact .inr (.inr ⟨I, h1, h2, h3, h4, f.own, ⟨f, rfl, rfl, h5⟩, h6, fun j q => .inl q⟩)
  kinds W D T bs p F w hb _ hA hk hl := by
    obtain ⟨f, rfl, rfl, hA⟩ := hA
    have hA0 := hA
    obtain ⟨bx, sl, ll, h1, h2, h3⟩ := hA
    refine (copy_c 17 3 w17 bs f.kb f.cap bx h1 rfl h1.kp hk hl).mono ?_
    rintro e w' ⟨g, c', he, hp, hg, hbl⟩
    obtain ⟨q1, q2⟩ := copied hA0 hbl
    exact ⟨g, c', f.own, he, hp, hg, fun q => by have := h1.lt q; omega, ⟨f, rfl, rfl, q1⟩, q2, fun j q => .inl q⟩
  sky W D T bs p F w hb _ hA hk hl := by
    obtain ⟨f, rfl, rfl, hA⟩ := hA
    have hA0 := hA
    obtain ⟨bx, sl, ll, h1, h2, h3⟩ := hA
    refine (copy_c 12 6 w12 sl f.sb f.sc bx h1 rfl h1.sp (lv_kinds h2) h2.len).mono ?_
    rintro e w' ⟨g, c', he, hp, hg, hbl⟩
    obtain ⟨q1, q2⟩ := copied hA0 hbl
    exact ⟨g, c', f.own, sl, he, hp, h2, hg, fun q => by have := h1.lt q; omega, ⟨f, rfl, rfl, q1⟩, q2, fun j q => .inl q⟩
  lamp W D T bs p F w hb _ hA hk hl := by
    obtain ⟨f, rfl, rfl, hA⟩ := hA
    have hA0 := hA
    obtain ⟨bx, sl, ll, h1, h2, h3⟩ := hA
    refine (copy_c 16 9 w16 ll f.lb f.lc bx h1 rfl h1.lp (lv_kinds h3) h3.len).mono ?_
    rintro e w' ⟨g, c', he, hp, hg, hbl⟩
    obtain ⟨q1, q2⟩ := copied hA0 hbl
    exact ⟨g, c', f.own, ll, he, hp, h3, hg, fun q => by have := h1.lt q; omega, ⟨f, rfl, rfl, q1⟩, q2, fun j q => .inl q⟩
end
end Go.Proofs.YtmfjmcaaoljjlaaDoor
