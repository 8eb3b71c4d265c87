/-
  Walk of BuildRefuses.
-/
import Derived.Test.YtbdjgaagafnfaaaBrefp
set_option maxRecDepth 20000
namespace Go.Proofs.Ytbdjgaagafnfaaa
open C Go.RowKit

theorem land_make {w0 w : World} {fh fb : Nat → List Int} {nh nb : Nat} {ah ab : Option Addr} {ch cb : Nat} {gh gb : List (Nat × Nat)} {Z : List Int} (h : LandI w0 fh fb nh nb ah ch gh ab cb gb w) :
    LandI w0 fh fb nh nb ah ch gh ab cb gb ((w.alloc (.cells (vals64 Z) 3)).alloc (.cells #[slI (w.heap.size, 256)] 24)) ∧ PreI ((w.alloc (.cells (vals64 Z) 3)).alloc (.cells #[slI (w.heap.size, 256)] 24)) w.heap.size Z ∧ (∀ x ∈ gh ++ gb, x.1 ≠ w.heap.size) ∧ w0.heap.size ≤ w.heap.size := by
  have hb : Below w.heap.size w ((w.alloc (.cells (vals64 Z) 3)).alloc (.cells #[slI (w.heap.size, 256)] 24)) := ((Below.refl _ _).alloc (Nat.le_refl _) _).alloc (by simp) _
  refine ⟨h.on hb, ?_, fun x hx e => by have := h.lt x hx; omega, h.bel.size⟩
  have h1 : IBlk (w.alloc (.cells (vals64 Z) 3)) w.heap.size Z := heap_alloc_new w _
  exact h1.preI.below ((Below.refl (w.alloc (.cells (vals64 Z) 3)).heap.size _).alloc (Nat.le_refl _) _) (by simp)
theorem cell_new2 (w : World) (o : Obj) (T : TypeId) (u : Value) : ∀ (j : Nat) (x : Value), [u][j]? = some x → ((w.alloc o).alloc (.cells #[u] T)).cell? (Addr.add ⟨w.heap.size + 1, 0, none⟩ j) = some x := by
  have := cell_new (w.alloc o) T u
  rwa [World.size_alloc] at this
def Caps (gh gb : List (Nat × Nat)) (n : Nat) : Prop := (∀ i, i < n → (gh.getD i (0, 0)).2 = 256) ∧ (∀ i, i < n → (gb.getD i (0, 0)).2 = 256)
theorem caps_snoc {g : List (Nat × Nat)} {n k : Nat} (hl : g.length = n) (h : ∀ i, i < n → (g.getD i (0, 0)).2 = 256) : ∀ i, i < n + 1 → ((g ++ [(k, 256)]).getD i (0, 0)).2 = 256 := fun i hi => by
  by_cases e : i < n
  · rw [List.getD_eq_getElem?_getD, List.getElem?_append_left (by omega), ← List.getD_eq_getElem?_getD]
    exact h i e
  · obtain rfl : i = n := by omega
    rw [List.getD_eq_getElem?_getD, List.getElem?_append_right (by omega), hl, Nat.sub_self]
    rfl
set_option maxRecDepth 1000000 in
set_option maxHeartbeats 8000000 in
theorem buildRefuses_walk (J : BSpec) (n at_ less : Int) (high : Bool) (v : Int) (w : World) (hG : J.G w) :
    Calls Try.prog 3 #[.int .i64 n, .int .i64 at_, .int .i64 less, .bool high, .int .i64 v] w fun e w' => e = .returned (.bool true) ∧ Below w.heap.size w w' := by
  have HG : Hid (J.G w) := hG
  clear hG
  by_cases e0 : n < 0
  case pos =>
    go_enter Try.func3, Try.ntmps3
    go_wp2_with fail
    refine (awake_c J _ HG.out).mono ?_
    rintro _ w1 ⟨rfl, hw1⟩
    have R : Hid (Below w.heap.size w w1) := hw1
    clear hw1
    go_wp2
    go_ret
    exact ⟨rfl, R.out⟩
  by_cases e1 : 20 < n
  case pos =>
    go_enter Try.func3, Try.ntmps3
    go_wp2_with fail
    refine (awake_c J _ HG.out).mono ?_
    rintro _ w1 ⟨rfl, hw1⟩
    have R : Hid (Below w.heap.size w w1) := hw1
    clear hw1
    go_wp2
    go_ret
    exact ⟨rfl, R.out⟩
  by_cases e2 : less < 0
  case pos =>
    go_enter Try.func3, Try.ntmps3
    go_wp2_with fail
    refine (awake_c J _ HG.out).mono ?_
    rintro _ w1 ⟨rfl, hw1⟩
    have R : Hid (Below w.heap.size w w1) := hw1
    clear hw1
    go_wp2
    go_ret
    exact ⟨rfl, R.out⟩
  by_cases e3 : 256 < less
  case pos =>
    go_enter Try.func3, Try.ntmps3
    go_wp2_with fail
    refine (awake_c J _ HG.out).mono ?_
    rintro _ w1 ⟨rfl, hw1⟩
    have R : Hid (Below w.heap.size w w1) := hw1
    clear hw1
    go_wp2
    go_ret
    exact ⟨rfl, R.out⟩
  obtain ⟨N, rfl⟩ := Int.eq_ofNat_of_zero_le (show 0 ≤ n by omega)
  obtain ⟨M, rfl⟩ := Int.eq_ofNat_of_zero_le (show 0 ≤ less by omega)
  have hN : N ≤ 20 := by omega
  have hM : M ≤ 256 := by omega
  have hmk := make256
  obtain ⟨Z, hZ⟩ : ∃ Z, Z = List.replicate 256 (0 : Int) := ⟨_, rfl⟩
  have HZ0 : Hid (Z = List.replicate 256 (0 : Int)) := hZ
  rw [← hZ] at hmk
  clear hZ
  go_enter Try.func3, Try.ntmps3
  go_wp2_with fail
  refine (awake_c J _ HG.out).mono ?_
  rintro _ w1 ⟨rfl, hw1⟩
  have HW : Hid (Below w.heap.size w w1) := hw1
  clear hw1
  go_wp2
  clear e0 e1 e2 e3
  go_loopw [12, 13, 14] (fun vh vb vi wr => ∃ (i : Nat) (ah : Option Addr) (ch : Nat) (gh : List (Nat × Nat)) (ab : Option Addr) (cb : Nat) (gb : List (Nat × Nat)), vi = .int .i64 (i : Int) ∧ vh = .slice ah i ch ∧ vb = .slice ab i cb ∧ i ≤ N ∧ Hid (LandI w1 (fun _ => List.replicate 256 0) (fun _ => List.replicate 256 0) i i ah ch gh ab cb gb wr) ∧ Hid (Caps gh gb i)) (fun _ _ vi _ => N - (intOf vi).toNat)
  case atStart => exact ⟨0, none, 0, [], none, 0, [], rfl, rfl, rfl, by omega, LandI.init, fun i hi => by omega, fun i hi => by omega⟩
  case round =>
    obtain ⟨i, ah, ch, gh, ab, cb, gb, rfl, rfl, rfl, hi, HM, HCap⟩ := hrel
    by_cases hlt : i < N
    case pos =>
      have hlt' : (i : Int) < (N : Int) := by omega
      obtain ⟨hM2, hp2, hn2, hl2⟩ := land_make (Z := Z) HM.out
      have HM2 : Hid (LandI w1 (fun _ => List.replicate 256 0) (fun _ => List.replicate 256 0) i i ah ch gh ab cb gb ((wr.alloc (.cells (vals64 Z) 3)).alloc (.cells #[slI (wr.heap.size, 256)] 24))) := hM2
      have Hp2 : Hid (PreI ((wr.alloc (.cells (vals64 Z) 3)).alloc (.cells #[slI (wr.heap.size, 256)] 24)) wr.heap.size (List.replicate 256 0) ∧ (∀ x ∈ gh ++ gb, x.1 ≠ wr.heap.size) ∧ w1.heap.size ≤ wr.heap.size) := ⟨by rw [← HZ0.out]; exact hp2, hn2, hl2⟩
      clear hM2 hp2 hn2 hl2 HM
      go_wp2_with (first
        | (at_builtin; refine wpList_append_row rfl _ _ rfl w1.heap.size ah i ch (gh.map slI) rfl HM2.out.oh ⟨wr.heap.size + 1, 0, none⟩ (wr.heap.size, 256) rfl (cell_new2 _ _ _ _) (by omega) HM2.out.bel.size ?_; intro a3 c3 w3 hO3 hgr3 hat3; have HM3 : Hid (LandI w1 (fun _ => List.replicate 256 0) (fun _ => List.replicate 256 0) (i + 1) i a3 c3 (gh ++ [(wr.heap.size, 256)]) ab cb gb w3) := HM2.out.add Hp2.out.1 Hp2.out.2.2 Hp2.out.2.1 hO3 hgr3 hat3; clear hO3 hgr3 hat3 HM2 Hp2; obtain ⟨hM4, hp4, hn4, hl4⟩ := land_make (Z := Z) HM3.out.swap; have HM4 : Hid (LandI w1 (fun _ => List.replicate 256 0) (fun _ => List.replicate 256 0) i (i + 1) ab cb gb a3 c3 (gh ++ [(wr.heap.size, 256)]) ((w3.alloc (.cells (vals64 Z) 3)).alloc (.cells #[slI (w3.heap.size, 256)] 24))) := hM4; have Hp4 : Hid (PreI ((w3.alloc (.cells (vals64 Z) 3)).alloc (.cells #[slI (w3.heap.size, 256)] 24)) w3.heap.size (List.replicate 256 0) ∧ (∀ x ∈ gb ++ (gh ++ [(wr.heap.size, 256)]), x.1 ≠ w3.heap.size) ∧ w1.heap.size ≤ w3.heap.size) := ⟨by rw [← HZ0.out]; exact hp4, hn4, hl4⟩; clear hM4 hp4 hn4 hl4 HM3)
        | (at_builtin; refine wpList_append_row rfl _ _ rfl w1.heap.size ab i cb (gb.map slI) rfl HM4.out.oh ⟨w3.heap.size + 1, 0, none⟩ (w3.heap.size, 256) rfl (cell_new2 _ _ _ _) (by omega) HM4.out.bel.size ?_; intro a5 c5 w5 hO5 hgr5 hat5; have HM5 : Hid (LandI w1 (fun _ => List.replicate 256 0) (fun _ => List.replicate 256 0) (i + 1) (i + 1) a3 c3 (gh ++ [(wr.heap.size, 256)]) a5 c5 (gb ++ [(w3.heap.size, 256)]) w5) := (HM4.out.add Hp4.out.1 Hp4.out.2.2 Hp4.out.2.1 hO5 hgr5 hat5).swap; have HC5 : Hid (Caps (gh ++ [(wr.heap.size, 256)]) (gb ++ [(w3.heap.size, 256)]) (i + 1)) := ⟨caps_snoc (by have := HM5.out.lh; simp at this; exact this) HCap.out.1, caps_snoc (by have := HM5.out.lb; simp at this; exact this) HCap.out.2⟩; clear hO5 hgr5 hat5 HM4))
      exact ⟨⟨i + 1, a3, c3, _, a5, c5, _, by simp, rfl, rfl, by omega, HM5, HC5⟩, by simp [intOf]; omega⟩
    have hge : ¬ (i : Int) < (N : Int) := by omega
    have hiN : i = N := by omega
    subst hiN
    clear hmk HZ0
    by_cases a0 : 0 ≤ at_
    case neg =>
      by_cases h9 : i = 9
      · have HR : Hid (Rows2 wr ah (zr i) ∧ Rows2 wr ab (zr i) ∧ Below w.heap.size w wr) := ⟨HM.out.zrows, HM.out.swap.zrows, HW.out.trans (HM.out.bel.mono HW.out.size)⟩
        subst h9
        clear HM HCap
        go_wp2_with fail
        generalize wr = W2 at *
        have hnew := new_c W2
        have HZ : Hid ((List.replicate 32768 (0 : Int)).length = 32768 ∧ Kinds (List.replicate 32768 (0 : Int))) := ⟨List.length_replicate, zero_kinds⟩
        generalize List.replicate 32768 (0 : Int) = Zc at *
        refine hnew.mono ?_
        clear hnew
        rintro _ w5 ⟨rfl, hw5⟩
        have hb5 : Below W2.heap.size W2 w5 := by rw [hw5]; exact (Below.refl _ _).alloc (Nat.le_refl _) _
        have hZ5 : Blk w5 W2.heap.size 74 Zc := by rw [hw5]; exact Blk.new W2 74 Zc
        have HB5 : Hid (Below w.heap.size w w5) := HR.out.2.2.trans (hb5.mono HR.out.2.2.size)
        clear hw5
        have hap := J.apply_ 1 0 0 W2.heap.size Zc ah ab ch cb (zr 9) (zr 9) w5 (by omega) (by unfold Far; omega) (by unfold Far; omega) hZ5 HZ.out.1 HZ.out.2 (HR.out.1.on hb5) (HR.out.2.1.on hb5) (zr_ok (by omega)) (zr_ok (by omega)) (J.on HG.out HB5.out)
        clear hb5 hZ5 HR
        generalize W2.heap.size = xg at *
        go_wp2_with fail
        refine hap.mono ?_
        clear hap
        rintro _ w6 ⟨hb6, yg, rfl, _⟩
        have R : Hid (Below w.heap.size w w6) := HB5.out.trans (hb6.mono HB5.out.size)
        clear hb6
        go_wp2
        go_ret
        exact ⟨rfl, R.out⟩

      · have HR : Hid (Rows2 wr ah (zr i) ∧ Rows2 wr ab (zr i) ∧ Below w.heap.size w wr) := ⟨HM.out.zrows, HM.out.swap.zrows, HW.out.trans (HM.out.bel.mono HW.out.size)⟩
        have HLen : Hid ((∀ j, j < i → ((zr i).getD j []).length ≤ 256) ∧ (∀ j, j < i → ((zr i).getD j []).length ≤ 256)) := ⟨(fun j hj => by rw [zr_at i j hj, List.length_replicate]; omega), (fun j hj => by rw [zr_at i j hj, List.length_replicate]; omega)⟩
        have h9b : ((i : Int) == 9) = false := by simp; omega
        clear HM HCap
        go_wp2_with fail
        generalize wr = W2 at *
        have hnew := new_c W2
        have HZ : Hid ((List.replicate 32768 (0 : Int)).length = 32768 ∧ Kinds (List.replicate 32768 (0 : Int))) := ⟨List.length_replicate, zero_kinds⟩
        generalize List.replicate 32768 (0 : Int) = Zc at *
        refine hnew.mono ?_
        clear hnew
        rintro _ w5 ⟨rfl, hw5⟩
        have hb5 : Below W2.heap.size W2 w5 := by rw [hw5]; exact (Below.refl _ _).alloc (Nat.le_refl _) _
        have hZ5 : Blk w5 W2.heap.size 74 Zc := by rw [hw5]; exact Blk.new W2 74 Zc
        have HB5 : Hid (Below w.heap.size w w5) := HR.out.2.2.trans (hb5.mono HR.out.2.2.size)
        clear hw5
        have hno := J.no_ 1 0 0 (some W2.heap.size) ah ab i i ch cb (zr i) (zr i) w5 (by omega) (by unfold Far; omega) (by unfold Far; omega) (fun g hg => by cases hg; exact ⟨Zc, hZ5, HZ.out.1, HZ.out.2⟩) (HR.out.1.on hb5) (HR.out.2.1.on hb5) (by first | exact zr_len _ | exact cutN_len _ _ _ _) (by first | exact zr_len _ | exact cutN_len _ _ _ _) (by omega) (by omega) HLen.out.1 HLen.out.2 (.inr (.inl (fun h => h9 (by have := h.1; rwa [zr_len] at this)))) (J.on HG.out HB5.out)
        simp only [Option.map_some] at hno
        clear hb5 hZ5 HR HLen
        generalize W2.heap.size = xg at *
        go_wp2_with fail
        refine hno.mono ?_
        clear hno
        rintro _ w6 ⟨rfl, hb6⟩
        have R : Hid (Below w.heap.size w w6) := HB5.out.trans (hb6.mono HB5.out.size)
        clear hb6
        go_wp2
        go_ret
        exact ⟨rfl, R.out⟩

    by_cases a1 : at_ < (i : Int)
    case neg =>
      by_cases h9 : i = 9
      · have HR : Hid (Rows2 wr ah (zr i) ∧ Rows2 wr ab (zr i) ∧ Below w.heap.size w wr) := ⟨HM.out.zrows, HM.out.swap.zrows, HW.out.trans (HM.out.bel.mono HW.out.size)⟩
        subst h9
        clear HM HCap
        go_wp2_with fail
        generalize wr = W2 at *
        have hnew := new_c W2
        have HZ : Hid ((List.replicate 32768 (0 : Int)).length = 32768 ∧ Kinds (List.replicate 32768 (0 : Int))) := ⟨List.length_replicate, zero_kinds⟩
        generalize List.replicate 32768 (0 : Int) = Zc at *
        refine hnew.mono ?_
        clear hnew
        rintro _ w5 ⟨rfl, hw5⟩
        have hb5 : Below W2.heap.size W2 w5 := by rw [hw5]; exact (Below.refl _ _).alloc (Nat.le_refl _) _
        have hZ5 : Blk w5 W2.heap.size 74 Zc := by rw [hw5]; exact Blk.new W2 74 Zc
        have HB5 : Hid (Below w.heap.size w w5) := HR.out.2.2.trans (hb5.mono HR.out.2.2.size)
        clear hw5
        have hap := J.apply_ 1 0 0 W2.heap.size Zc ah ab ch cb (zr 9) (zr 9) w5 (by omega) (by unfold Far; omega) (by unfold Far; omega) hZ5 HZ.out.1 HZ.out.2 (HR.out.1.on hb5) (HR.out.2.1.on hb5) (zr_ok (by omega)) (zr_ok (by omega)) (J.on HG.out HB5.out)
        clear hb5 hZ5 HR
        generalize W2.heap.size = xg at *
        go_wp2_with fail
        refine hap.mono ?_
        clear hap
        rintro _ w6 ⟨hb6, yg, rfl, _⟩
        have R : Hid (Below w.heap.size w w6) := HB5.out.trans (hb6.mono HB5.out.size)
        clear hb6
        go_wp2
        go_ret
        exact ⟨rfl, R.out⟩

      · have HR : Hid (Rows2 wr ah (zr i) ∧ Rows2 wr ab (zr i) ∧ Below w.heap.size w wr) := ⟨HM.out.zrows, HM.out.swap.zrows, HW.out.trans (HM.out.bel.mono HW.out.size)⟩
        have HLen : Hid ((∀ j, j < i → ((zr i).getD j []).length ≤ 256) ∧ (∀ j, j < i → ((zr i).getD j []).length ≤ 256)) := ⟨(fun j hj => by rw [zr_at i j hj, List.length_replicate]; omega), (fun j hj => by rw [zr_at i j hj, List.length_replicate]; omega)⟩
        have h9b : ((i : Int) == 9) = false := by simp; omega
        clear HM HCap
        go_wp2_with fail
        generalize wr = W2 at *
        have hnew := new_c W2
        have HZ : Hid ((List.replicate 32768 (0 : Int)).length = 32768 ∧ Kinds (List.replicate 32768 (0 : Int))) := ⟨List.length_replicate, zero_kinds⟩
        generalize List.replicate 32768 (0 : Int) = Zc at *
        refine hnew.mono ?_
        clear hnew
        rintro _ w5 ⟨rfl, hw5⟩
        have hb5 : Below W2.heap.size W2 w5 := by rw [hw5]; exact (Below.refl _ _).alloc (Nat.le_refl _) _
        have hZ5 : Blk w5 W2.heap.size 74 Zc := by rw [hw5]; exact Blk.new W2 74 Zc
        have HB5 : Hid (Below w.heap.size w w5) := HR.out.2.2.trans (hb5.mono HR.out.2.2.size)
        clear hw5
        have hno := J.no_ 1 0 0 (some W2.heap.size) ah ab i i ch cb (zr i) (zr i) w5 (by omega) (by unfold Far; omega) (by unfold Far; omega) (fun g hg => by cases hg; exact ⟨Zc, hZ5, HZ.out.1, HZ.out.2⟩) (HR.out.1.on hb5) (HR.out.2.1.on hb5) (by first | exact zr_len _ | exact cutN_len _ _ _ _) (by first | exact zr_len _ | exact cutN_len _ _ _ _) (by omega) (by omega) HLen.out.1 HLen.out.2 (.inr (.inl (fun h => h9 (by have := h.1; rwa [zr_len] at this)))) (J.on HG.out HB5.out)
        simp only [Option.map_some] at hno
        clear hb5 hZ5 HR HLen
        generalize W2.heap.size = xg at *
        go_wp2_with fail
        refine hno.mono ?_
        clear hno
        rintro _ w6 ⟨rfl, hb6⟩
        have R : Hid (Below w.heap.size w w6) := HB5.out.trans (hb6.mono HB5.out.size)
        clear hb6
        go_wp2
        go_ret
        exact ⟨rfl, R.out⟩

    obtain ⟨A, rfl⟩ := Int.eq_ofNat_of_zero_le a0
    have hA : A < i := by omega
    rcases high with _ | _
    · by_cases h256 : M = 256
      · subst h256
        by_cases h9 : i = 9
        · have HM0 := HM.out.swap
          obtain ⟨b, cur, hbe, hh, _, hc⟩ := HM0.outer (by omega)
          subst hbe
          have hcA := hc A hA
          have hcap : slI (gb.getD A (0, 0)) = .slice (some ⟨(gb.getD A (0, 0)).1, 0, none⟩) 256 256 := by
            unfold slI
            rw [HCap.out.2 A hA]
          rw [hcap] at hcA
          have kA : wr.cell? ⟨b, A, none⟩ = some (.slice (some ⟨(gb.getD A (0, 0)).1, 0, none⟩) 256 256) := (cell_of_row wr b A cur 24 (0, 0) hh).trans hcA
          have fA := frozen_of_row wr b A cur 24 hh
          have hpA := HM0.ph A hA
          have hcut := LandI.cut (v := v) HM0 (m := 256) (o' := 0) hA (by omega) (.inl rfl) rfl (w' := wr.setCell ⟨b, A, none⟩ (.slice (some ⟨(gb.getD A (0, 0)).1, 0, none⟩) 0 0)) (by rw [if_neg (by omega)])
          have hcut3 : Below w.heap.size w _ := HW.out.trans (hcut.2.2.mono HW.out.size)
          generalize (gb.getD A (0, 0)).1 = gA at *
          have HR : Hid (Rows2 (wr.setCell ⟨b, A, none⟩ (.slice (some ⟨gA, 0, none⟩) 0 0)) ah (zr i) ∧ Rows2 (wr.setCell ⟨b, A, none⟩ (.slice (some ⟨gA, 0, none⟩) 0 0)) (some ⟨b, 0, none⟩) (cutN i A 256 v) ∧ Below w.heap.size w (wr.setCell ⟨b, A, none⟩ (.slice (some ⟨gA, 0, none⟩) 0 0))) := ⟨hcut.2.1, hcut.1, hcut3⟩
          have HLen : Hid ((∀ j, j < i → ((zr i).getD j []).length ≤ 256) ∧ (∀ j, j < i → ((cutN i A 256 v).getD j []).length ≤ 256)) := ⟨(fun j hj => by rw [zr_at i j hj, List.length_replicate]; omega), (fun j hj => by rw [cutN_at i A 256 v hA j hj]; split; (rw [cutRow_len 256 v (by omega)]; omega); (rw [List.length_replicate]; omega))⟩
          subst h9
          clear HM HM0 HCap hcut hcut3 hcA hcap hc hh hpA
          go_wp2_with fail
          generalize wr.setCell ⟨b, A, none⟩ (.slice (some ⟨gA, 0, none⟩) 0 0) = W2 at *
          have hnew := new_c W2
          have HZ : Hid ((List.replicate 32768 (0 : Int)).length = 32768 ∧ Kinds (List.replicate 32768 (0 : Int))) := ⟨List.length_replicate, zero_kinds⟩
          generalize List.replicate 32768 (0 : Int) = Zc at *
          refine hnew.mono ?_
          clear hnew
          rintro _ w5 ⟨rfl, hw5⟩
          have hb5 : Below W2.heap.size W2 w5 := by rw [hw5]; exact (Below.refl _ _).alloc (Nat.le_refl _) _
          have hZ5 : Blk w5 W2.heap.size 74 Zc := by rw [hw5]; exact Blk.new W2 74 Zc
          have HB5 : Hid (Below w.heap.size w w5) := HR.out.2.2.trans (hb5.mono HR.out.2.2.size)
          clear hw5
          have hno := J.no_ 1 0 0 (some W2.heap.size) ah (some ⟨b, 0, none⟩) 9 9 ch cb (zr 9) (cutN 9 A 256 v) w5 (by omega) (by unfold Far; omega) (by unfold Far; omega) (fun g hg => by cases hg; exact ⟨Zc, hZ5, HZ.out.1, HZ.out.2⟩) (HR.out.1.on hb5) (HR.out.2.1.on hb5) (by first | exact zr_len _ | exact cutN_len _ _ _ _) (by first | exact zr_len _ | exact cutN_len _ _ _ _) (by omega) (by omega) HLen.out.1 HLen.out.2 (.inr (.inr (fun h => by have h2 := (cutN_ok (by omega) hA (by omega)).1 h; exact absurd h2.2.1 (by omega)))) (J.on HG.out HB5.out)
          simp only [Option.map_some] at hno
          clear hb5 hZ5 HR HLen
          generalize W2.heap.size = xg at *
          go_wp2_with fail
          refine hno.mono ?_
          clear hno
          rintro _ w6 ⟨rfl, hb6⟩
          have R : Hid (Below w.heap.size w w6) := HB5.out.trans (hb6.mono HB5.out.size)
          clear hb6
          go_wp2
          go_ret
          exact ⟨rfl, R.out⟩
        · have HM0 := HM.out.swap
          obtain ⟨b, cur, hbe, hh, _, hc⟩ := HM0.outer (by omega)
          subst hbe
          have hcA := hc A hA
          have hcap : slI (gb.getD A (0, 0)) = .slice (some ⟨(gb.getD A (0, 0)).1, 0, none⟩) 256 256 := by
            unfold slI
            rw [HCap.out.2 A hA]
          rw [hcap] at hcA
          have kA : wr.cell? ⟨b, A, none⟩ = some (.slice (some ⟨(gb.getD A (0, 0)).1, 0, none⟩) 256 256) := (cell_of_row wr b A cur 24 (0, 0) hh).trans hcA
          have fA := frozen_of_row wr b A cur 24 hh
          have hpA := HM0.ph A hA
          have hcut := LandI.cut (v := v) HM0 (m := 256) (o' := 0) hA (by omega) (.inl rfl) rfl (w' := wr.setCell ⟨b, A, none⟩ (.slice (some ⟨(gb.getD A (0, 0)).1, 0, none⟩) 0 0)) (by rw [if_neg (by omega)])
          have hcut3 : Below w.heap.size w _ := HW.out.trans (hcut.2.2.mono HW.out.size)
          generalize (gb.getD A (0, 0)).1 = gA at *
          have HR : Hid (Rows2 (wr.setCell ⟨b, A, none⟩ (.slice (some ⟨gA, 0, none⟩) 0 0)) ah (zr i) ∧ Rows2 (wr.setCell ⟨b, A, none⟩ (.slice (some ⟨gA, 0, none⟩) 0 0)) (some ⟨b, 0, none⟩) (cutN i A 256 v) ∧ Below w.heap.size w (wr.setCell ⟨b, A, none⟩ (.slice (some ⟨gA, 0, none⟩) 0 0))) := ⟨hcut.2.1, hcut.1, hcut3⟩
          have HLen : Hid ((∀ j, j < i → ((zr i).getD j []).length ≤ 256) ∧ (∀ j, j < i → ((cutN i A 256 v).getD j []).length ≤ 256)) := ⟨(fun j hj => by rw [zr_at i j hj, List.length_replicate]; omega), (fun j hj => by rw [cutN_at i A 256 v hA j hj]; split; (rw [cutRow_len 256 v (by omega)]; omega); (rw [List.length_replicate]; omega))⟩
          have h9b : ((i : Int) == 9) = false := by simp; omega
          clear HM HM0 HCap hcut hcut3 hcA hcap hc hh hpA
          go_wp2_with fail
          generalize wr.setCell ⟨b, A, none⟩ (.slice (some ⟨gA, 0, none⟩) 0 0) = W2 at *
          have hnew := new_c W2
          have HZ : Hid ((List.replicate 32768 (0 : Int)).length = 32768 ∧ Kinds (List.replicate 32768 (0 : Int))) := ⟨List.length_replicate, zero_kinds⟩
          generalize List.replicate 32768 (0 : Int) = Zc at *
          refine hnew.mono ?_
          clear hnew
          rintro _ w5 ⟨rfl, hw5⟩
          have hb5 : Below W2.heap.size W2 w5 := by rw [hw5]; exact (Below.refl _ _).alloc (Nat.le_refl _) _
          have hZ5 : Blk w5 W2.heap.size 74 Zc := by rw [hw5]; exact Blk.new W2 74 Zc
          have HB5 : Hid (Below w.heap.size w w5) := HR.out.2.2.trans (hb5.mono HR.out.2.2.size)
          clear hw5
          have hno := J.no_ 1 0 0 (some W2.heap.size) ah (some ⟨b, 0, none⟩) i i ch cb (zr i) (cutN i A 256 v) w5 (by omega) (by unfold Far; omega) (by unfold Far; omega) (fun g hg => by cases hg; exact ⟨Zc, hZ5, HZ.out.1, HZ.out.2⟩) (HR.out.1.on hb5) (HR.out.2.1.on hb5) (by first | exact zr_len _ | exact cutN_len _ _ _ _) (by first | exact zr_len _ | exact cutN_len _ _ _ _) (by omega) (by omega) HLen.out.1 HLen.out.2 (.inr (.inr (fun h => by have h2 := (cutN_ok (by omega) hA (by omega)).1 h; exact h9 h2.1))) (J.on HG.out HB5.out)
          simp only [Option.map_some] at hno
          clear hb5 hZ5 HR HLen
          generalize W2.heap.size = xg at *
          go_wp2_with fail
          refine hno.mono ?_
          clear hno
          rintro _ w6 ⟨rfl, hb6⟩
          have R : Hid (Below w.heap.size w w6) := HB5.out.trans (hb6.mono HB5.out.size)
          clear hb6
          go_wp2
          go_ret
          exact ⟨rfl, R.out⟩
      by_cases h9 : i = 9
      case neg =>
        have HM0 := HM.out.swap
        obtain ⟨b, cur, hbe, hh, _, hc⟩ := HM0.outer (by omega)
        subst hbe
        have hcA := hc A hA
        have hcap : slI (gb.getD A (0, 0)) = .slice (some ⟨(gb.getD A (0, 0)).1, 0, none⟩) 256 256 := by
          unfold slI
          rw [HCap.out.2 A hA]
        rw [hcap] at hcA
        have kA : wr.cell? ⟨b, A, none⟩ = some (.slice (some ⟨(gb.getD A (0, 0)).1, 0, none⟩) 256 256) := (cell_of_row wr b A cur 24 (0, 0) hh).trans hcA
        have fA := frozen_of_row wr b A cur 24 hh
        have hpA := HM0.ph A hA
        obtain ⟨o', hsl, ho⟩ := slice24 (gb.getD A (0, 0)).1 M (by omega)
        obtain rfl : M = o' := by omega
        have hcut := LandI.cut (v := v) HM0 hA (by omega) (.inr rfl) rfl (w' := (wr.setCell ⟨b, A, none⟩ (.slice (some ⟨(gb.getD A (0, 0)).1, M, none⟩) (256 - M) (256 - M))).setCell ⟨(gb.getD A (0, 0)).1, M, none⟩ (.int .i64 v)) (by rw [if_pos (by omega)])
        have hbg : b ≠ (gb.getD A (0, 0)).1 := fun e => by
          obtain ⟨cur', h1, _⟩ := hpA
          rw [← e, hh] at h1
          simp at h1
        have kL : (wr.setCell ⟨b, A, none⟩ (.slice (some ⟨(gb.getD A (0, 0)).1, M, none⟩) (256 - M) (256 - M))).cell? ⟨(gb.getD A (0, 0)).1, M, none⟩ = some (.int .i64 0) := by
          rw [World.cell?_setCell_other _ _ _ _ (fun e => hbg (by cases e; rfl)), hpA.cell (by rw [List.length_replicate]; omega), rep_getD _ _ _ (by omega)]
        have fL : (wr.setCell ⟨b, A, none⟩ (.slice (some ⟨(gb.getD A (0, 0)).1, M, none⟩) (256 - M) (256 - M))).frozen? ⟨(gb.getD A (0, 0)).1, M, none⟩ = false := (hpA.other (Ne.symm hbg)).free _
        have kB : (wr.setCell ⟨b, A, none⟩ (.slice (some ⟨(gb.getD A (0, 0)).1, M, none⟩) (256 - M) (256 - M))).cell? ⟨b, A, none⟩ = some (.slice (some ⟨(gb.getD A (0, 0)).1, M, none⟩) (256 - M) (256 - M)) := by
          rw [cell_of_row _ b A _ 24 (0, 0) (heap_setCell_same wr b A _ 24 _ hh)]
          exact Array.getElem?_setIfInBounds_self_of_lt (Array.getElem?_eq_some_iff.1 hcA).1
        have hcut3 : Below w.heap.size w _ := HW.out.trans (hcut.2.2.mono HW.out.size)
        generalize (gb.getD A (0, 0)).1 = gA at *
        generalize hL : 256 - M = L at *
        have hL0 : (0 : Int) < (L : Int) := by omega
        have HR : Hid (Rows2 ((wr.setCell ⟨b, A, none⟩ (.slice (some ⟨gA, M, none⟩) L L)).setCell ⟨gA, M, none⟩ (.int .i64 v)) ah (zr i) ∧ Rows2 ((wr.setCell ⟨b, A, none⟩ (.slice (some ⟨gA, M, none⟩) L L)).setCell ⟨gA, M, none⟩ (.int .i64 v)) (some ⟨b, 0, none⟩) (cutN i A M v) ∧ Below w.heap.size w ((wr.setCell ⟨b, A, none⟩ (.slice (some ⟨gA, M, none⟩) L L)).setCell ⟨gA, M, none⟩ (.int .i64 v))) := ⟨hcut.2.1, hcut.1, hcut3⟩
        have HLen : Hid ((∀ j, j < i → ((zr i).getD j []).length ≤ 256) ∧ (∀ j, j < i → ((cutN i A M v).getD j []).length ≤ 256)) := ⟨(fun j hj => by rw [zr_at i j hj, List.length_replicate]; omega), (fun j hj => by rw [cutN_at i A M v hA j hj]; split; (rw [cutRow_len M v (by omega)]; omega); (rw [List.length_replicate]; omega))⟩
        have h9b : ((i : Int) == 9) = false := by simp; omega
        have hM2 : (M : Int) < 256 := by omega
        clear HM HM0 HCap hcut hcut3 hcA hcap hc hh hpA ho hL hbg
        go_wp2_with fail
        generalize (wr.setCell ⟨b, A, none⟩ (.slice (some ⟨gA, M, none⟩) L L)).setCell ⟨gA, M, none⟩ (.int .i64 v) = W2 at *
        have hnew := new_c W2
        have HZ : Hid ((List.replicate 32768 (0 : Int)).length = 32768 ∧ Kinds (List.replicate 32768 (0 : Int))) := ⟨List.length_replicate, zero_kinds⟩
        generalize List.replicate 32768 (0 : Int) = Zc at *
        refine hnew.mono ?_
        clear hnew
        rintro _ w5 ⟨rfl, hw5⟩
        have hb5 : Below W2.heap.size W2 w5 := by rw [hw5]; exact (Below.refl _ _).alloc (Nat.le_refl _) _
        have hZ5 : Blk w5 W2.heap.size 74 Zc := by rw [hw5]; exact Blk.new W2 74 Zc
        have HB5 : Hid (Below w.heap.size w w5) := HR.out.2.2.trans (hb5.mono HR.out.2.2.size)
        clear hw5
        have hno := J.no_ 1 0 0 (some W2.heap.size) ah (some ⟨b, 0, none⟩) i i ch cb (zr i) (cutN i A M v) w5 (by omega) (by unfold Far; omega) (by unfold Far; omega) (fun g hg => by cases hg; exact ⟨Zc, hZ5, HZ.out.1, HZ.out.2⟩) (HR.out.1.on hb5) (HR.out.2.1.on hb5) (by first | exact zr_len _ | exact cutN_len _ _ _ _) (by first | exact zr_len _ | exact cutN_len _ _ _ _) (by omega) (by omega) HLen.out.1 HLen.out.2 (.inr (.inr (fun h => by have h2 := (cutN_ok (by omega) hA (by omega)).1 h; exact h9 h2.1))) (J.on HG.out HB5.out)
        simp only [Option.map_some] at hno
        clear hb5 hZ5 HR HLen
        generalize W2.heap.size = xg at *
        go_wp2_with fail
        refine hno.mono ?_
        clear hno
        rintro _ w6 ⟨rfl, hb6⟩
        have R : Hid (Below w.heap.size w w6) := HB5.out.trans (hb6.mono HB5.out.size)
        clear hb6
        go_wp2
        go_ret
        exact ⟨rfl, R.out⟩
      by_cases h0 : M = 0
      case neg =>
        have HM0 := HM.out.swap
        obtain ⟨b, cur, hbe, hh, _, hc⟩ := HM0.outer (by omega)
        subst hbe
        have hcA := hc A hA
        have hcap : slI (gb.getD A (0, 0)) = .slice (some ⟨(gb.getD A (0, 0)).1, 0, none⟩) 256 256 := by
          unfold slI
          rw [HCap.out.2 A hA]
        rw [hcap] at hcA
        have kA : wr.cell? ⟨b, A, none⟩ = some (.slice (some ⟨(gb.getD A (0, 0)).1, 0, none⟩) 256 256) := (cell_of_row wr b A cur 24 (0, 0) hh).trans hcA
        have fA := frozen_of_row wr b A cur 24 hh
        have hpA := HM0.ph A hA
        obtain ⟨o', hsl, ho⟩ := slice24 (gb.getD A (0, 0)).1 M (by omega)
        obtain rfl : M = o' := by omega
        have hcut := LandI.cut (v := v) HM0 hA (by omega) (.inr rfl) rfl (w' := (wr.setCell ⟨b, A, none⟩ (.slice (some ⟨(gb.getD A (0, 0)).1, M, none⟩) (256 - M) (256 - M))).setCell ⟨(gb.getD A (0, 0)).1, M, none⟩ (.int .i64 v)) (by rw [if_pos (by omega)])
        have hbg : b ≠ (gb.getD A (0, 0)).1 := fun e => by
          obtain ⟨cur', h1, _⟩ := hpA
          rw [← e, hh] at h1
          simp at h1
        have kL : (wr.setCell ⟨b, A, none⟩ (.slice (some ⟨(gb.getD A (0, 0)).1, M, none⟩) (256 - M) (256 - M))).cell? ⟨(gb.getD A (0, 0)).1, M, none⟩ = some (.int .i64 0) := by
          rw [World.cell?_setCell_other _ _ _ _ (fun e => hbg (by cases e; rfl)), hpA.cell (by rw [List.length_replicate]; omega), rep_getD _ _ _ (by omega)]
        have fL : (wr.setCell ⟨b, A, none⟩ (.slice (some ⟨(gb.getD A (0, 0)).1, M, none⟩) (256 - M) (256 - M))).frozen? ⟨(gb.getD A (0, 0)).1, M, none⟩ = false := (hpA.other (Ne.symm hbg)).free _
        have kB : (wr.setCell ⟨b, A, none⟩ (.slice (some ⟨(gb.getD A (0, 0)).1, M, none⟩) (256 - M) (256 - M))).cell? ⟨b, A, none⟩ = some (.slice (some ⟨(gb.getD A (0, 0)).1, M, none⟩) (256 - M) (256 - M)) := by
          rw [cell_of_row _ b A _ 24 (0, 0) (heap_setCell_same wr b A _ 24 _ hh)]
          exact Array.getElem?_setIfInBounds_self_of_lt (Array.getElem?_eq_some_iff.1 hcA).1
        have hcut3 : Below w.heap.size w _ := HW.out.trans (hcut.2.2.mono HW.out.size)
        generalize (gb.getD A (0, 0)).1 = gA at *
        generalize hL : 256 - M = L at *
        have hL0 : (0 : Int) < (L : Int) := by omega
        have HR : Hid (Rows2 ((wr.setCell ⟨b, A, none⟩ (.slice (some ⟨gA, M, none⟩) L L)).setCell ⟨gA, M, none⟩ (.int .i64 v)) ah (zr i) ∧ Rows2 ((wr.setCell ⟨b, A, none⟩ (.slice (some ⟨gA, M, none⟩) L L)).setCell ⟨gA, M, none⟩ (.int .i64 v)) (some ⟨b, 0, none⟩) (cutN i A M v) ∧ Below w.heap.size w ((wr.setCell ⟨b, A, none⟩ (.slice (some ⟨gA, M, none⟩) L L)).setCell ⟨gA, M, none⟩ (.int .i64 v))) := ⟨hcut.2.1, hcut.1, hcut3⟩
        have HLen : Hid ((∀ j, j < i → ((zr i).getD j []).length ≤ 256) ∧ (∀ j, j < i → ((cutN i A M v).getD j []).length ≤ 256)) := ⟨(fun j hj => by rw [zr_at i j hj, List.length_replicate]; omega), (fun j hj => by rw [cutN_at i A M v hA j hj]; split; (rw [cutRow_len M v (by omega)]; omega); (rw [List.length_replicate]; omega))⟩
        subst h9
        have h0b : ((M : Int) == 0) = false := by simp; omega
        have hM2 : (M : Int) < 256 := by omega
        clear HM HM0 HCap hcut hcut3 hcA hcap hc hh hpA ho hL hbg
        go_wp2_with fail
        generalize (wr.setCell ⟨b, A, none⟩ (.slice (some ⟨gA, M, none⟩) L L)).setCell ⟨gA, M, none⟩ (.int .i64 v) = W2 at *
        have hnew := new_c W2
        have HZ : Hid ((List.replicate 32768 (0 : Int)).length = 32768 ∧ Kinds (List.replicate 32768 (0 : Int))) := ⟨List.length_replicate, zero_kinds⟩
        generalize List.replicate 32768 (0 : Int) = Zc at *
        refine hnew.mono ?_
        clear hnew
        rintro _ w5 ⟨rfl, hw5⟩
        have hb5 : Below W2.heap.size W2 w5 := by rw [hw5]; exact (Below.refl _ _).alloc (Nat.le_refl _) _
        have hZ5 : Blk w5 W2.heap.size 74 Zc := by rw [hw5]; exact Blk.new W2 74 Zc
        have HB5 : Hid (Below w.heap.size w w5) := HR.out.2.2.trans (hb5.mono HR.out.2.2.size)
        clear hw5
        have hno := J.no_ 1 0 0 (some W2.heap.size) ah (some ⟨b, 0, none⟩) 9 9 ch cb (zr 9) (cutN 9 A M v) w5 (by omega) (by unfold Far; omega) (by unfold Far; omega) (fun g hg => by cases hg; exact ⟨Zc, hZ5, HZ.out.1, HZ.out.2⟩) (HR.out.1.on hb5) (HR.out.2.1.on hb5) (by first | exact zr_len _ | exact cutN_len _ _ _ _) (by first | exact zr_len _ | exact cutN_len _ _ _ _) (by omega) (by omega) HLen.out.1 HLen.out.2 (.inr (.inr (fun h => by have h2 := (cutN_ok (by omega) hA (by omega)).1 h; exact h0 h2.2.1))) (J.on HG.out HB5.out)
        simp only [Option.map_some] at hno
        clear hb5 hZ5 HR HLen
        generalize W2.heap.size = xg at *
        go_wp2_with fail
        refine hno.mono ?_
        clear hno
        rintro _ w6 ⟨rfl, hb6⟩
        have R : Hid (Below w.heap.size w w6) := HB5.out.trans (hb6.mono HB5.out.size)
        clear hb6
        go_wp2
        go_ret
        exact ⟨rfl, R.out⟩
      by_cases hv0 : 0 ≤ v
      case neg =>
        subst h0
        have HM0 := HM.out.swap
        obtain ⟨b, cur, hbe, hh, _, hc⟩ := HM0.outer (by omega)
        subst hbe
        have hcA := hc A hA
        have hcap : slI (gb.getD A (0, 0)) = .slice (some ⟨(gb.getD A (0, 0)).1, 0, none⟩) 256 256 := by
          unfold slI
          rw [HCap.out.2 A hA]
        rw [hcap] at hcA
        have kA : wr.cell? ⟨b, A, none⟩ = some (.slice (some ⟨(gb.getD A (0, 0)).1, 0, none⟩) 256 256) := (cell_of_row wr b A cur 24 (0, 0) hh).trans hcA
        have fA := frozen_of_row wr b A cur 24 hh
        have hpA := HM0.ph A hA
        have hcut := LandI.cut (v := v) HM0 hA (by omega) (.inr rfl) rfl (w' := (wr.setCell ⟨b, A, none⟩ (.slice (some ⟨(gb.getD A (0, 0)).1, 0, none⟩) 256 256)).setCell ⟨(gb.getD A (0, 0)).1, 0, none⟩ (.int .i64 v)) (by rw [if_pos (by omega)])
        have hbg : b ≠ (gb.getD A (0, 0)).1 := fun e => by
          obtain ⟨cur', h1, _⟩ := hpA
          rw [← e, hh] at h1
          simp at h1
        have kL : (wr.setCell ⟨b, A, none⟩ (.slice (some ⟨(gb.getD A (0, 0)).1, 0, none⟩) 256 256)).cell? ⟨(gb.getD A (0, 0)).1, 0, none⟩ = some (.int .i64 0) := by
          rw [World.cell?_setCell_other _ _ _ _ (fun e => hbg (by cases e; rfl)), hpA.cell (by rw [List.length_replicate]; omega), rep_getD _ _ _ (by omega)]
        have fL : (wr.setCell ⟨b, A, none⟩ (.slice (some ⟨(gb.getD A (0, 0)).1, 0, none⟩) 256 256)).frozen? ⟨(gb.getD A (0, 0)).1, 0, none⟩ = false := (hpA.other (Ne.symm hbg)).free _
        have kB : (wr.setCell ⟨b, A, none⟩ (.slice (some ⟨(gb.getD A (0, 0)).1, 0, none⟩) 256 256)).cell? ⟨b, A, none⟩ = some (.slice (some ⟨(gb.getD A (0, 0)).1, 0, none⟩) 256 256) := by
          rw [cell_of_row _ b A _ 24 (0, 0) (heap_setCell_same wr b A _ 24 _ hh)]
          exact Array.getElem?_setIfInBounds_self_of_lt (Array.getElem?_eq_some_iff.1 hcA).1
        have hcut3 : Below w.heap.size w _ := HW.out.trans (hcut.2.2.mono HW.out.size)
        generalize (gb.getD A (0, 0)).1 = gA at *
        have HR : Hid (Rows2 ((wr.setCell ⟨b, A, none⟩ (.slice (some ⟨gA, 0, none⟩) 256 256)).setCell ⟨gA, 0, none⟩ (.int .i64 v)) ah (zr i) ∧ Rows2 ((wr.setCell ⟨b, A, none⟩ (.slice (some ⟨gA, 0, none⟩) 256 256)).setCell ⟨gA, 0, none⟩ (.int .i64 v)) (some ⟨b, 0, none⟩) (cutN i A 0 v) ∧ Below w.heap.size w ((wr.setCell ⟨b, A, none⟩ (.slice (some ⟨gA, 0, none⟩) 256 256)).setCell ⟨gA, 0, none⟩ (.int .i64 v))) := ⟨hcut.2.1, hcut.1, hcut3⟩
        have HLen : Hid ((∀ j, j < i → ((zr i).getD j []).length ≤ 256) ∧ (∀ j, j < i → ((cutN i A 0 v).getD j []).length ≤ 256)) := ⟨(fun j hj => by rw [zr_at i j hj, List.length_replicate]; omega), (fun j hj => by rw [cutN_at i A 0 v hA j hj]; split; (rw [cutRow_len 0 v (by omega)]; omega); (rw [List.length_replicate]; omega))⟩
        subst h9
        clear HM HM0 HCap hcut hcut3 hcA hcap hc hh hpA hbg
        go_wp2_with fail
        generalize (wr.setCell ⟨b, A, none⟩ (.slice (some ⟨gA, 0, none⟩) 256 256)).setCell ⟨gA, 0, none⟩ (.int .i64 v) = W2 at *
        have hnew := new_c W2
        have HZ : Hid ((List.replicate 32768 (0 : Int)).length = 32768 ∧ Kinds (List.replicate 32768 (0 : Int))) := ⟨List.length_replicate, zero_kinds⟩
        generalize List.replicate 32768 (0 : Int) = Zc at *
        refine hnew.mono ?_
        clear hnew
        rintro _ w5 ⟨rfl, hw5⟩
        have hb5 : Below W2.heap.size W2 w5 := by rw [hw5]; exact (Below.refl _ _).alloc (Nat.le_refl _) _
        have hZ5 : Blk w5 W2.heap.size 74 Zc := by rw [hw5]; exact Blk.new W2 74 Zc
        have HB5 : Hid (Below w.heap.size w w5) := HR.out.2.2.trans (hb5.mono HR.out.2.2.size)
        clear hw5
        have hno := J.no_ 1 0 0 (some W2.heap.size) ah (some ⟨b, 0, none⟩) 9 9 ch cb (zr 9) (cutN 9 A 0 v) w5 (by omega) (by unfold Far; omega) (by unfold Far; omega) (fun g hg => by cases hg; exact ⟨Zc, hZ5, HZ.out.1, HZ.out.2⟩) (HR.out.1.on hb5) (HR.out.2.1.on hb5) (by first | exact zr_len _ | exact cutN_len _ _ _ _) (by first | exact zr_len _ | exact cutN_len _ _ _ _) (by omega) (by omega) HLen.out.1 HLen.out.2 (.inr (.inr (fun h => by have h2 := (cutN_ok (by omega) hA (by omega)).1 h; exact absurd h2.2.2.1 (by omega)))) (J.on HG.out HB5.out)
        simp only [Option.map_some] at hno
        clear hb5 hZ5 HR HLen
        generalize W2.heap.size = xg at *
        go_wp2_with fail
        refine hno.mono ?_
        clear hno
        rintro _ w6 ⟨rfl, hb6⟩
        have R : Hid (Below w.heap.size w w6) := HB5.out.trans (hb6.mono HB5.out.size)
        clear hb6
        go_wp2
        go_ret
        exact ⟨rfl, R.out⟩
      by_cases hv1 : v < 4
      case neg =>
        subst h0
        have HM0 := HM.out.swap
        obtain ⟨b, cur, hbe, hh, _, hc⟩ := HM0.outer (by omega)
        subst hbe
        have hcA := hc A hA
        have hcap : slI (gb.getD A (0, 0)) = .slice (some ⟨(gb.getD A (0, 0)).1, 0, none⟩) 256 256 := by
          unfold slI
          rw [HCap.out.2 A hA]
        rw [hcap] at hcA
        have kA : wr.cell? ⟨b, A, none⟩ = some (.slice (some ⟨(gb.getD A (0, 0)).1, 0, none⟩) 256 256) := (cell_of_row wr b A cur 24 (0, 0) hh).trans hcA
        have fA := frozen_of_row wr b A cur 24 hh
        have hpA := HM0.ph A hA
        have hcut := LandI.cut (v := v) HM0 hA (by omega) (.inr rfl) rfl (w' := (wr.setCell ⟨b, A, none⟩ (.slice (some ⟨(gb.getD A (0, 0)).1, 0, none⟩) 256 256)).setCell ⟨(gb.getD A (0, 0)).1, 0, none⟩ (.int .i64 v)) (by rw [if_pos (by omega)])
        have hbg : b ≠ (gb.getD A (0, 0)).1 := fun e => by
          obtain ⟨cur', h1, _⟩ := hpA
          rw [← e, hh] at h1
          simp at h1
        have kL : (wr.setCell ⟨b, A, none⟩ (.slice (some ⟨(gb.getD A (0, 0)).1, 0, none⟩) 256 256)).cell? ⟨(gb.getD A (0, 0)).1, 0, none⟩ = some (.int .i64 0) := by
          rw [World.cell?_setCell_other _ _ _ _ (fun e => hbg (by cases e; rfl)), hpA.cell (by rw [List.length_replicate]; omega), rep_getD _ _ _ (by omega)]
        have fL : (wr.setCell ⟨b, A, none⟩ (.slice (some ⟨(gb.getD A (0, 0)).1, 0, none⟩) 256 256)).frozen? ⟨(gb.getD A (0, 0)).1, 0, none⟩ = false := (hpA.other (Ne.symm hbg)).free _
        have kB : (wr.setCell ⟨b, A, none⟩ (.slice (some ⟨(gb.getD A (0, 0)).1, 0, none⟩) 256 256)).cell? ⟨b, A, none⟩ = some (.slice (some ⟨(gb.getD A (0, 0)).1, 0, none⟩) 256 256) := by
          rw [cell_of_row _ b A _ 24 (0, 0) (heap_setCell_same wr b A _ 24 _ hh)]
          exact Array.getElem?_setIfInBounds_self_of_lt (Array.getElem?_eq_some_iff.1 hcA).1
        have hcut3 : Below w.heap.size w _ := HW.out.trans (hcut.2.2.mono HW.out.size)
        generalize (gb.getD A (0, 0)).1 = gA at *
        have HR : Hid (Rows2 ((wr.setCell ⟨b, A, none⟩ (.slice (some ⟨gA, 0, none⟩) 256 256)).setCell ⟨gA, 0, none⟩ (.int .i64 v)) ah (zr i) ∧ Rows2 ((wr.setCell ⟨b, A, none⟩ (.slice (some ⟨gA, 0, none⟩) 256 256)).setCell ⟨gA, 0, none⟩ (.int .i64 v)) (some ⟨b, 0, none⟩) (cutN i A 0 v) ∧ Below w.heap.size w ((wr.setCell ⟨b, A, none⟩ (.slice (some ⟨gA, 0, none⟩) 256 256)).setCell ⟨gA, 0, none⟩ (.int .i64 v))) := ⟨hcut.2.1, hcut.1, hcut3⟩
        have HLen : Hid ((∀ j, j < i → ((zr i).getD j []).length ≤ 256) ∧ (∀ j, j < i → ((cutN i A 0 v).getD j []).length ≤ 256)) := ⟨(fun j hj => by rw [zr_at i j hj, List.length_replicate]; omega), (fun j hj => by rw [cutN_at i A 0 v hA j hj]; split; (rw [cutRow_len 0 v (by omega)]; omega); (rw [List.length_replicate]; omega))⟩
        subst h9
        clear HM HM0 HCap hcut hcut3 hcA hcap hc hh hpA hbg
        go_wp2_with fail
        generalize (wr.setCell ⟨b, A, none⟩ (.slice (some ⟨gA, 0, none⟩) 256 256)).setCell ⟨gA, 0, none⟩ (.int .i64 v) = W2 at *
        have hnew := new_c W2
        have HZ : Hid ((List.replicate 32768 (0 : Int)).length = 32768 ∧ Kinds (List.replicate 32768 (0 : Int))) := ⟨List.length_replicate, zero_kinds⟩
        generalize List.replicate 32768 (0 : Int) = Zc at *
        refine hnew.mono ?_
        clear hnew
        rintro _ w5 ⟨rfl, hw5⟩
        have hb5 : Below W2.heap.size W2 w5 := by rw [hw5]; exact (Below.refl _ _).alloc (Nat.le_refl _) _
        have hZ5 : Blk w5 W2.heap.size 74 Zc := by rw [hw5]; exact Blk.new W2 74 Zc
        have HB5 : Hid (Below w.heap.size w w5) := HR.out.2.2.trans (hb5.mono HR.out.2.2.size)
        clear hw5
        have hno := J.no_ 1 0 0 (some W2.heap.size) ah (some ⟨b, 0, none⟩) 9 9 ch cb (zr 9) (cutN 9 A 0 v) w5 (by omega) (by unfold Far; omega) (by unfold Far; omega) (fun g hg => by cases hg; exact ⟨Zc, hZ5, HZ.out.1, HZ.out.2⟩) (HR.out.1.on hb5) (HR.out.2.1.on hb5) (by first | exact zr_len _ | exact cutN_len _ _ _ _) (by first | exact zr_len _ | exact cutN_len _ _ _ _) (by omega) (by omega) HLen.out.1 HLen.out.2 (.inr (.inr (fun h => by have h2 := (cutN_ok (by omega) hA (by omega)).1 h; exact absurd h2.2.2.2 (by omega)))) (J.on HG.out HB5.out)
        simp only [Option.map_some] at hno
        clear hb5 hZ5 HR HLen
        generalize W2.heap.size = xg at *
        go_wp2_with fail
        refine hno.mono ?_
        clear hno
        rintro _ w6 ⟨rfl, hb6⟩
        have R : Hid (Below w.heap.size w w6) := HB5.out.trans (hb6.mono HB5.out.size)
        clear hb6
        go_wp2
        go_ret
        exact ⟨rfl, R.out⟩
      subst h0
      have HM0 := HM.out.swap
      obtain ⟨b, cur, hbe, hh, _, hc⟩ := HM0.outer (by omega)
      subst hbe
      have hcA := hc A hA
      have hcap : slI (gb.getD A (0, 0)) = .slice (some ⟨(gb.getD A (0, 0)).1, 0, none⟩) 256 256 := by
        unfold slI
        rw [HCap.out.2 A hA]
      rw [hcap] at hcA
      have kA : wr.cell? ⟨b, A, none⟩ = some (.slice (some ⟨(gb.getD A (0, 0)).1, 0, none⟩) 256 256) := (cell_of_row wr b A cur 24 (0, 0) hh).trans hcA
      have fA := frozen_of_row wr b A cur 24 hh
      have hpA := HM0.ph A hA
      have hcut := LandI.cut (v := v) HM0 hA (by omega) (.inr rfl) rfl (w' := (wr.setCell ⟨b, A, none⟩ (.slice (some ⟨(gb.getD A (0, 0)).1, 0, none⟩) 256 256)).setCell ⟨(gb.getD A (0, 0)).1, 0, none⟩ (.int .i64 v)) (by rw [if_pos (by omega)])
      have hbg : b ≠ (gb.getD A (0, 0)).1 := fun e => by
        obtain ⟨cur', h1, _⟩ := hpA
        rw [← e, hh] at h1
        simp at h1
      have kL : (wr.setCell ⟨b, A, none⟩ (.slice (some ⟨(gb.getD A (0, 0)).1, 0, none⟩) 256 256)).cell? ⟨(gb.getD A (0, 0)).1, 0, none⟩ = some (.int .i64 0) := by
        rw [World.cell?_setCell_other _ _ _ _ (fun e => hbg (by cases e; rfl)), hpA.cell (by rw [List.length_replicate]; omega), rep_getD _ _ _ (by omega)]
      have fL : (wr.setCell ⟨b, A, none⟩ (.slice (some ⟨(gb.getD A (0, 0)).1, 0, none⟩) 256 256)).frozen? ⟨(gb.getD A (0, 0)).1, 0, none⟩ = false := (hpA.other (Ne.symm hbg)).free _
      have kB : (wr.setCell ⟨b, A, none⟩ (.slice (some ⟨(gb.getD A (0, 0)).1, 0, none⟩) 256 256)).cell? ⟨b, A, none⟩ = some (.slice (some ⟨(gb.getD A (0, 0)).1, 0, none⟩) 256 256) := by
        rw [cell_of_row _ b A _ 24 (0, 0) (heap_setCell_same wr b A _ 24 _ hh)]
        exact Array.getElem?_setIfInBounds_self_of_lt (Array.getElem?_eq_some_iff.1 hcA).1
      have hcut3 : Below w.heap.size w _ := HW.out.trans (hcut.2.2.mono HW.out.size)
      generalize (gb.getD A (0, 0)).1 = gA at *
      have HR : Hid (Rows2 ((wr.setCell ⟨b, A, none⟩ (.slice (some ⟨gA, 0, none⟩) 256 256)).setCell ⟨gA, 0, none⟩ (.int .i64 v)) ah (zr i) ∧ Rows2 ((wr.setCell ⟨b, A, none⟩ (.slice (some ⟨gA, 0, none⟩) 256 256)).setCell ⟨gA, 0, none⟩ (.int .i64 v)) (some ⟨b, 0, none⟩) (cutN i A 0 v) ∧ Below w.heap.size w ((wr.setCell ⟨b, A, none⟩ (.slice (some ⟨gA, 0, none⟩) 256 256)).setCell ⟨gA, 0, none⟩ (.int .i64 v))) := ⟨hcut.2.1, hcut.1, hcut3⟩
      subst h9
      clear HM HM0 HCap hcut hcut3 hcA hcap hc hh hpA hbg
      go_wp2_with fail
      generalize (wr.setCell ⟨b, A, none⟩ (.slice (some ⟨gA, 0, none⟩) 256 256)).setCell ⟨gA, 0, none⟩ (.int .i64 v) = W2 at *
      have hnew := new_c W2
      have HZ : Hid ((List.replicate 32768 (0 : Int)).length = 32768 ∧ Kinds (List.replicate 32768 (0 : Int))) := ⟨List.length_replicate, zero_kinds⟩
      generalize List.replicate 32768 (0 : Int) = Zc at *
      refine hnew.mono ?_
      clear hnew
      rintro _ w5 ⟨rfl, hw5⟩
      have hb5 : Below W2.heap.size W2 w5 := by rw [hw5]; exact (Below.refl _ _).alloc (Nat.le_refl _) _
      have hZ5 : Blk w5 W2.heap.size 74 Zc := by rw [hw5]; exact Blk.new W2 74 Zc
      have HB5 : Hid (Below w.heap.size w w5) := HR.out.2.2.trans (hb5.mono HR.out.2.2.size)
      clear hw5
      have hap := J.apply_ 1 0 0 W2.heap.size Zc ah (some ⟨b, 0, none⟩) ch cb (zr 9) (cutN 9 A 0 v) w5 (by omega) (by unfold Far; omega) (by unfold Far; omega) hZ5 HZ.out.1 HZ.out.2 (HR.out.1.on hb5) (HR.out.2.1.on hb5) (zr_ok (by omega)) ((cutN_ok (by omega) hA (by omega)).2 ⟨rfl, rfl, hv0, hv1⟩) (J.on HG.out HB5.out)
      clear hb5 hZ5 HR
      generalize W2.heap.size = xg at *
      go_wp2_with fail
      refine hap.mono ?_
      clear hap
      rintro _ w6 ⟨hb6, yg, rfl, _⟩
      have R : Hid (Below w.heap.size w w6) := HB5.out.trans (hb6.mono HB5.out.size)
      clear hb6
      go_wp2
      go_ret
      exact ⟨rfl, R.out⟩

    · by_cases h256 : M = 256
      · subst h256
        by_cases h9 : i = 9
        · have HM0 := HM.out
          obtain ⟨b, cur, hbe, hh, _, hc⟩ := HM0.outer (by omega)
          subst hbe
          have hcA := hc A hA
          have hcap : slI (gh.getD A (0, 0)) = .slice (some ⟨(gh.getD A (0, 0)).1, 0, none⟩) 256 256 := by
            unfold slI
            rw [HCap.out.1 A hA]
          rw [hcap] at hcA
          have kA : wr.cell? ⟨b, A, none⟩ = some (.slice (some ⟨(gh.getD A (0, 0)).1, 0, none⟩) 256 256) := (cell_of_row wr b A cur 24 (0, 0) hh).trans hcA
          have fA := frozen_of_row wr b A cur 24 hh
          have hpA := HM0.ph A hA
          have hcut := LandI.cut (v := v) HM0 (m := 256) (o' := 0) hA (by omega) (.inl rfl) rfl (w' := wr.setCell ⟨b, A, none⟩ (.slice (some ⟨(gh.getD A (0, 0)).1, 0, none⟩) 0 0)) (by rw [if_neg (by omega)])
          have hcut3 : Below w.heap.size w _ := HW.out.trans (hcut.2.2.mono HW.out.size)
          generalize (gh.getD A (0, 0)).1 = gA at *
          have HR : Hid (Rows2 (wr.setCell ⟨b, A, none⟩ (.slice (some ⟨gA, 0, none⟩) 0 0)) (some ⟨b, 0, none⟩) (cutN i A 256 v) ∧ Rows2 (wr.setCell ⟨b, A, none⟩ (.slice (some ⟨gA, 0, none⟩) 0 0)) ab (zr i) ∧ Below w.heap.size w (wr.setCell ⟨b, A, none⟩ (.slice (some ⟨gA, 0, none⟩) 0 0))) := ⟨hcut.1, hcut.2.1, hcut3⟩
          have HLen : Hid ((∀ j, j < i → ((cutN i A 256 v).getD j []).length ≤ 256) ∧ (∀ j, j < i → ((zr i).getD j []).length ≤ 256)) := ⟨(fun j hj => by rw [cutN_at i A 256 v hA j hj]; split; (rw [cutRow_len 256 v (by omega)]; omega); (rw [List.length_replicate]; omega)), (fun j hj => by rw [zr_at i j hj, List.length_replicate]; omega)⟩
          subst h9
          clear HM HM0 HCap hcut hcut3 hcA hcap hc hh hpA
          go_wp2_with fail
          generalize wr.setCell ⟨b, A, none⟩ (.slice (some ⟨gA, 0, none⟩) 0 0) = W2 at *
          have hnew := new_c W2
          have HZ : Hid ((List.replicate 32768 (0 : Int)).length = 32768 ∧ Kinds (List.replicate 32768 (0 : Int))) := ⟨List.length_replicate, zero_kinds⟩
          generalize List.replicate 32768 (0 : Int) = Zc at *
          refine hnew.mono ?_
          clear hnew
          rintro _ w5 ⟨rfl, hw5⟩
          have hb5 : Below W2.heap.size W2 w5 := by rw [hw5]; exact (Below.refl _ _).alloc (Nat.le_refl _) _
          have hZ5 : Blk w5 W2.heap.size 74 Zc := by rw [hw5]; exact Blk.new W2 74 Zc
          have HB5 : Hid (Below w.heap.size w w5) := HR.out.2.2.trans (hb5.mono HR.out.2.2.size)
          clear hw5
          have hno := J.no_ 1 0 0 (some W2.heap.size) (some ⟨b, 0, none⟩) ab 9 9 ch cb (cutN 9 A 256 v) (zr 9) w5 (by omega) (by unfold Far; omega) (by unfold Far; omega) (fun g hg => by cases hg; exact ⟨Zc, hZ5, HZ.out.1, HZ.out.2⟩) (HR.out.1.on hb5) (HR.out.2.1.on hb5) (by first | exact zr_len _ | exact cutN_len _ _ _ _) (by first | exact zr_len _ | exact cutN_len _ _ _ _) (by omega) (by omega) HLen.out.1 HLen.out.2 (.inr (.inl (fun h => by have h2 := (cutN_ok (by omega) hA (by omega)).1 h; exact absurd h2.2.1 (by omega)))) (J.on HG.out HB5.out)
          simp only [Option.map_some] at hno
          clear hb5 hZ5 HR HLen
          generalize W2.heap.size = xg at *
          go_wp2_with fail
          refine hno.mono ?_
          clear hno
          rintro _ w6 ⟨rfl, hb6⟩
          have R : Hid (Below w.heap.size w w6) := HB5.out.trans (hb6.mono HB5.out.size)
          clear hb6
          go_wp2
          go_ret
          exact ⟨rfl, R.out⟩
        · have HM0 := HM.out
          obtain ⟨b, cur, hbe, hh, _, hc⟩ := HM0.outer (by omega)
          subst hbe
          have hcA := hc A hA
          have hcap : slI (gh.getD A (0, 0)) = .slice (some ⟨(gh.getD A (0, 0)).1, 0, none⟩) 256 256 := by
            unfold slI
            rw [HCap.out.1 A hA]
          rw [hcap] at hcA
          have kA : wr.cell? ⟨b, A, none⟩ = some (.slice (some ⟨(gh.getD A (0, 0)).1, 0, none⟩) 256 256) := (cell_of_row wr b A cur 24 (0, 0) hh).trans hcA
          have fA := frozen_of_row wr b A cur 24 hh
          have hpA := HM0.ph A hA
          have hcut := LandI.cut (v := v) HM0 (m := 256) (o' := 0) hA (by omega) (.inl rfl) rfl (w' := wr.setCell ⟨b, A, none⟩ (.slice (some ⟨(gh.getD A (0, 0)).1, 0, none⟩) 0 0)) (by rw [if_neg (by omega)])
          have hcut3 : Below w.heap.size w _ := HW.out.trans (hcut.2.2.mono HW.out.size)
          generalize (gh.getD A (0, 0)).1 = gA at *
          have HR : Hid (Rows2 (wr.setCell ⟨b, A, none⟩ (.slice (some ⟨gA, 0, none⟩) 0 0)) (some ⟨b, 0, none⟩) (cutN i A 256 v) ∧ Rows2 (wr.setCell ⟨b, A, none⟩ (.slice (some ⟨gA, 0, none⟩) 0 0)) ab (zr i) ∧ Below w.heap.size w (wr.setCell ⟨b, A, none⟩ (.slice (some ⟨gA, 0, none⟩) 0 0))) := ⟨hcut.1, hcut.2.1, hcut3⟩
          have HLen : Hid ((∀ j, j < i → ((cutN i A 256 v).getD j []).length ≤ 256) ∧ (∀ j, j < i → ((zr i).getD j []).length ≤ 256)) := ⟨(fun j hj => by rw [cutN_at i A 256 v hA j hj]; split; (rw [cutRow_len 256 v (by omega)]; omega); (rw [List.length_replicate]; omega)), (fun j hj => by rw [zr_at i j hj, List.length_replicate]; omega)⟩
          have h9b : ((i : Int) == 9) = false := by simp; omega
          clear HM HM0 HCap hcut hcut3 hcA hcap hc hh hpA
          go_wp2_with fail
          generalize wr.setCell ⟨b, A, none⟩ (.slice (some ⟨gA, 0, none⟩) 0 0) = W2 at *
          have hnew := new_c W2
          have HZ : Hid ((List.replicate 32768 (0 : Int)).length = 32768 ∧ Kinds (List.replicate 32768 (0 : Int))) := ⟨List.length_replicate, zero_kinds⟩
          generalize List.replicate 32768 (0 : Int) = Zc at *
          refine hnew.mono ?_
          clear hnew
          rintro _ w5 ⟨rfl, hw5⟩
          have hb5 : Below W2.heap.size W2 w5 := by rw [hw5]; exact (Below.refl _ _).alloc (Nat.le_refl _) _
          have hZ5 : Blk w5 W2.heap.size 74 Zc := by rw [hw5]; exact Blk.new W2 74 Zc
          have HB5 : Hid (Below w.heap.size w w5) := HR.out.2.2.trans (hb5.mono HR.out.2.2.size)
          clear hw5
          have hno := J.no_ 1 0 0 (some W2.heap.size) (some ⟨b, 0, none⟩) ab i i ch cb (cutN i A 256 v) (zr i) w5 (by omega) (by unfold Far; omega) (by unfold Far; omega) (fun g hg => by cases hg; exact ⟨Zc, hZ5, HZ.out.1, HZ.out.2⟩) (HR.out.1.on hb5) (HR.out.2.1.on hb5) (by first | exact zr_len _ | exact cutN_len _ _ _ _) (by first | exact zr_len _ | exact cutN_len _ _ _ _) (by omega) (by omega) HLen.out.1 HLen.out.2 (.inr (.inl (fun h => by have h2 := (cutN_ok (by omega) hA (by omega)).1 h; exact h9 h2.1))) (J.on HG.out HB5.out)
          simp only [Option.map_some] at hno
          clear hb5 hZ5 HR HLen
          generalize W2.heap.size = xg at *
          go_wp2_with fail
          refine hno.mono ?_
          clear hno
          rintro _ w6 ⟨rfl, hb6⟩
          have R : Hid (Below w.heap.size w w6) := HB5.out.trans (hb6.mono HB5.out.size)
          clear hb6
          go_wp2
          go_ret
          exact ⟨rfl, R.out⟩
      by_cases h9 : i = 9
      case neg =>
        have HM0 := HM.out
        obtain ⟨b, cur, hbe, hh, _, hc⟩ := HM0.outer (by omega)
        subst hbe
        have hcA := hc A hA
        have hcap : slI (gh.getD A (0, 0)) = .slice (some ⟨(gh.getD A (0, 0)).1, 0, none⟩) 256 256 := by
          unfold slI
          rw [HCap.out.1 A hA]
        rw [hcap] at hcA
        have kA : wr.cell? ⟨b, A, none⟩ = some (.slice (some ⟨(gh.getD A (0, 0)).1, 0, none⟩) 256 256) := (cell_of_row wr b A cur 24 (0, 0) hh).trans hcA
        have fA := frozen_of_row wr b A cur 24 hh
        have hpA := HM0.ph A hA
        obtain ⟨o', hsl, ho⟩ := slice24 (gh.getD A (0, 0)).1 M (by omega)
        obtain rfl : M = o' := by omega
        have hcut := LandI.cut (v := v) HM0 hA (by omega) (.inr rfl) rfl (w' := (wr.setCell ⟨b, A, none⟩ (.slice (some ⟨(gh.getD A (0, 0)).1, M, none⟩) (256 - M) (256 - M))).setCell ⟨(gh.getD A (0, 0)).1, M, none⟩ (.int .i64 v)) (by rw [if_pos (by omega)])
        have hbg : b ≠ (gh.getD A (0, 0)).1 := fun e => by
          obtain ⟨cur', h1, _⟩ := hpA
          rw [← e, hh] at h1
          simp at h1
        have kL : (wr.setCell ⟨b, A, none⟩ (.slice (some ⟨(gh.getD A (0, 0)).1, M, none⟩) (256 - M) (256 - M))).cell? ⟨(gh.getD A (0, 0)).1, M, none⟩ = some (.int .i64 0) := by
          rw [World.cell?_setCell_other _ _ _ _ (fun e => hbg (by cases e; rfl)), hpA.cell (by rw [List.length_replicate]; omega), rep_getD _ _ _ (by omega)]
        have fL : (wr.setCell ⟨b, A, none⟩ (.slice (some ⟨(gh.getD A (0, 0)).1, M, none⟩) (256 - M) (256 - M))).frozen? ⟨(gh.getD A (0, 0)).1, M, none⟩ = false := (hpA.other (Ne.symm hbg)).free _
        have kB : (wr.setCell ⟨b, A, none⟩ (.slice (some ⟨(gh.getD A (0, 0)).1, M, none⟩) (256 - M) (256 - M))).cell? ⟨b, A, none⟩ = some (.slice (some ⟨(gh.getD A (0, 0)).1, M, none⟩) (256 - M) (256 - M)) := by
          rw [cell_of_row _ b A _ 24 (0, 0) (heap_setCell_same wr b A _ 24 _ hh)]
          exact Array.getElem?_setIfInBounds_self_of_lt (Array.getElem?_eq_some_iff.1 hcA).1
        have hcut3 : Below w.heap.size w _ := HW.out.trans (hcut.2.2.mono HW.out.size)
        generalize (gh.getD A (0, 0)).1 = gA at *
        generalize hL : 256 - M = L at *
        have hL0 : (0 : Int) < (L : Int) := by omega
        have HR : Hid (Rows2 ((wr.setCell ⟨b, A, none⟩ (.slice (some ⟨gA, M, none⟩) L L)).setCell ⟨gA, M, none⟩ (.int .i64 v)) (some ⟨b, 0, none⟩) (cutN i A M v) ∧ Rows2 ((wr.setCell ⟨b, A, none⟩ (.slice (some ⟨gA, M, none⟩) L L)).setCell ⟨gA, M, none⟩ (.int .i64 v)) ab (zr i) ∧ Below w.heap.size w ((wr.setCell ⟨b, A, none⟩ (.slice (some ⟨gA, M, none⟩) L L)).setCell ⟨gA, M, none⟩ (.int .i64 v))) := ⟨hcut.1, hcut.2.1, hcut3⟩
        have HLen : Hid ((∀ j, j < i → ((cutN i A M v).getD j []).length ≤ 256) ∧ (∀ j, j < i → ((zr i).getD j []).length ≤ 256)) := ⟨(fun j hj => by rw [cutN_at i A M v hA j hj]; split; (rw [cutRow_len M v (by omega)]; omega); (rw [List.length_replicate]; omega)), (fun j hj => by rw [zr_at i j hj, List.length_replicate]; omega)⟩
        have h9b : ((i : Int) == 9) = false := by simp; omega
        have hM2 : (M : Int) < 256 := by omega
        clear HM HM0 HCap hcut hcut3 hcA hcap hc hh hpA ho hL hbg
        go_wp2_with fail
        generalize (wr.setCell ⟨b, A, none⟩ (.slice (some ⟨gA, M, none⟩) L L)).setCell ⟨gA, M, none⟩ (.int .i64 v) = W2 at *
        have hnew := new_c W2
        have HZ : Hid ((List.replicate 32768 (0 : Int)).length = 32768 ∧ Kinds (List.replicate 32768 (0 : Int))) := ⟨List.length_replicate, zero_kinds⟩
        generalize List.replicate 32768 (0 : Int) = Zc at *
        refine hnew.mono ?_
        clear hnew
        rintro _ w5 ⟨rfl, hw5⟩
        have hb5 : Below W2.heap.size W2 w5 := by rw [hw5]; exact (Below.refl _ _).alloc (Nat.le_refl _) _
        have hZ5 : Blk w5 W2.heap.size 74 Zc := by rw [hw5]; exact Blk.new W2 74 Zc
        have HB5 : Hid (Below w.heap.size w w5) := HR.out.2.2.trans (hb5.mono HR.out.2.2.size)
        clear hw5
        have hno := J.no_ 1 0 0 (some W2.heap.size) (some ⟨b, 0, none⟩) ab i i ch cb (cutN i A M v) (zr i) w5 (by omega) (by unfold Far; omega) (by unfold Far; omega) (fun g hg => by cases hg; exact ⟨Zc, hZ5, HZ.out.1, HZ.out.2⟩) (HR.out.1.on hb5) (HR.out.2.1.on hb5) (by first | exact zr_len _ | exact cutN_len _ _ _ _) (by first | exact zr_len _ | exact cutN_len _ _ _ _) (by omega) (by omega) HLen.out.1 HLen.out.2 (.inr (.inl (fun h => by have h2 := (cutN_ok (by omega) hA (by omega)).1 h; exact h9 h2.1))) (J.on HG.out HB5.out)
        simp only [Option.map_some] at hno
        clear hb5 hZ5 HR HLen
        generalize W2.heap.size = xg at *
        go_wp2_with fail
        refine hno.mono ?_
        clear hno
        rintro _ w6 ⟨rfl, hb6⟩
        have R : Hid (Below w.heap.size w w6) := HB5.out.trans (hb6.mono HB5.out.size)
        clear hb6
        go_wp2
        go_ret
        exact ⟨rfl, R.out⟩
      by_cases h0 : M = 0
      case neg =>
        have HM0 := HM.out
        obtain ⟨b, cur, hbe, hh, _, hc⟩ := HM0.outer (by omega)
        subst hbe
        have hcA := hc A hA
        have hcap : slI (gh.getD A (0, 0)) = .slice (some ⟨(gh.getD A (0, 0)).1, 0, none⟩) 256 256 := by
          unfold slI
          rw [HCap.out.1 A hA]
        rw [hcap] at hcA
        have kA : wr.cell? ⟨b, A, none⟩ = some (.slice (some ⟨(gh.getD A (0, 0)).1, 0, none⟩) 256 256) := (cell_of_row wr b A cur 24 (0, 0) hh).trans hcA
        have fA := frozen_of_row wr b A cur 24 hh
        have hpA := HM0.ph A hA
        obtain ⟨o', hsl, ho⟩ := slice24 (gh.getD A (0, 0)).1 M (by omega)
        obtain rfl : M = o' := by omega
        have hcut := LandI.cut (v := v) HM0 hA (by omega) (.inr rfl) rfl (w' := (wr.setCell ⟨b, A, none⟩ (.slice (some ⟨(gh.getD A (0, 0)).1, M, none⟩) (256 - M) (256 - M))).setCell ⟨(gh.getD A (0, 0)).1, M, none⟩ (.int .i64 v)) (by rw [if_pos (by omega)])
        have hbg : b ≠ (gh.getD A (0, 0)).1 := fun e => by
          obtain ⟨cur', h1, _⟩ := hpA
          rw [← e, hh] at h1
          simp at h1
        have kL : (wr.setCell ⟨b, A, none⟩ (.slice (some ⟨(gh.getD A (0, 0)).1, M, none⟩) (256 - M) (256 - M))).cell? ⟨(gh.getD A (0, 0)).1, M, none⟩ = some (.int .i64 0) := by
          rw [World.cell?_setCell_other _ _ _ _ (fun e => hbg (by cases e; rfl)), hpA.cell (by rw [List.length_replicate]; omega), rep_getD _ _ _ (by omega)]
        have fL : (wr.setCell ⟨b, A, none⟩ (.slice (some ⟨(gh.getD A (0, 0)).1, M, none⟩) (256 - M) (256 - M))).frozen? ⟨(gh.getD A (0, 0)).1, M, none⟩ = false := (hpA.other (Ne.symm hbg)).free _
        have kB : (wr.setCell ⟨b, A, none⟩ (.slice (some ⟨(gh.getD A (0, 0)).1, M, none⟩) (256 - M) (256 - M))).cell? ⟨b, A, none⟩ = some (.slice (some ⟨(gh.getD A (0, 0)).1, M, none⟩) (256 - M) (256 - M)) := by
          rw [cell_of_row _ b A _ 24 (0, 0) (heap_setCell_same wr b A _ 24 _ hh)]
          exact Array.getElem?_setIfInBounds_self_of_lt (Array.getElem?_eq_some_iff.1 hcA).1
        have hcut3 : Below w.heap.size w _ := HW.out.trans (hcut.2.2.mono HW.out.size)
        generalize (gh.getD A (0, 0)).1 = gA at *
        generalize hL : 256 - M = L at *
        have hL0 : (0 : Int) < (L : Int) := by omega
        have HR : Hid (Rows2 ((wr.setCell ⟨b, A, none⟩ (.slice (some ⟨gA, M, none⟩) L L)).setCell ⟨gA, M, none⟩ (.int .i64 v)) (some ⟨b, 0, none⟩) (cutN i A M v) ∧ Rows2 ((wr.setCell ⟨b, A, none⟩ (.slice (some ⟨gA, M, none⟩) L L)).setCell ⟨gA, M, none⟩ (.int .i64 v)) ab (zr i) ∧ Below w.heap.size w ((wr.setCell ⟨b, A, none⟩ (.slice (some ⟨gA, M, none⟩) L L)).setCell ⟨gA, M, none⟩ (.int .i64 v))) := ⟨hcut.1, hcut.2.1, hcut3⟩
        have HLen : Hid ((∀ j, j < i → ((cutN i A M v).getD j []).length ≤ 256) ∧ (∀ j, j < i → ((zr i).getD j []).length ≤ 256)) := ⟨(fun j hj => by rw [cutN_at i A M v hA j hj]; split; (rw [cutRow_len M v (by omega)]; omega); (rw [List.length_replicate]; omega)), (fun j hj => by rw [zr_at i j hj, List.length_replicate]; omega)⟩
        subst h9
        have h0b : ((M : Int) == 0) = false := by simp; omega
        have hM2 : (M : Int) < 256 := by omega
        clear HM HM0 HCap hcut hcut3 hcA hcap hc hh hpA ho hL hbg
        go_wp2_with fail
        generalize (wr.setCell ⟨b, A, none⟩ (.slice (some ⟨gA, M, none⟩) L L)).setCell ⟨gA, M, none⟩ (.int .i64 v) = W2 at *
        have hnew := new_c W2
        have HZ : Hid ((List.replicate 32768 (0 : Int)).length = 32768 ∧ Kinds (List.replicate 32768 (0 : Int))) := ⟨List.length_replicate, zero_kinds⟩
        generalize List.replicate 32768 (0 : Int) = Zc at *
        refine hnew.mono ?_
        clear hnew
        rintro _ w5 ⟨rfl, hw5⟩
        have hb5 : Below W2.heap.size W2 w5 := by rw [hw5]; exact (Below.refl _ _).alloc (Nat.le_refl _) _
        have hZ5 : Blk w5 W2.heap.size 74 Zc := by rw [hw5]; exact Blk.new W2 74 Zc
        have HB5 : Hid (Below w.heap.size w w5) := HR.out.2.2.trans (hb5.mono HR.out.2.2.size)
        clear hw5
        have hno := J.no_ 1 0 0 (some W2.heap.size) (some ⟨b, 0, none⟩) ab 9 9 ch cb (cutN 9 A M v) (zr 9) w5 (by omega) (by unfold Far; omega) (by unfold Far; omega) (fun g hg => by cases hg; exact ⟨Zc, hZ5, HZ.out.1, HZ.out.2⟩) (HR.out.1.on hb5) (HR.out.2.1.on hb5) (by first | exact zr_len _ | exact cutN_len _ _ _ _) (by first | exact zr_len _ | exact cutN_len _ _ _ _) (by omega) (by omega) HLen.out.1 HLen.out.2 (.inr (.inl (fun h => by have h2 := (cutN_ok (by omega) hA (by omega)).1 h; exact h0 h2.2.1))) (J.on HG.out HB5.out)
        simp only [Option.map_some] at hno
        clear hb5 hZ5 HR HLen
        generalize W2.heap.size = xg at *
        go_wp2_with fail
        refine hno.mono ?_
        clear hno
        rintro _ w6 ⟨rfl, hb6⟩
        have R : Hid (Below w.heap.size w w6) := HB5.out.trans (hb6.mono HB5.out.size)
        clear hb6
        go_wp2
        go_ret
        exact ⟨rfl, R.out⟩
      by_cases hv0 : 0 ≤ v
      case neg =>
        subst h0
        have HM0 := HM.out
        obtain ⟨b, cur, hbe, hh, _, hc⟩ := HM0.outer (by omega)
        subst hbe
        have hcA := hc A hA
        have hcap : slI (gh.getD A (0, 0)) = .slice (some ⟨(gh.getD A (0, 0)).1, 0, none⟩) 256 256 := by
          unfold slI
          rw [HCap.out.1 A hA]
        rw [hcap] at hcA
        have kA : wr.cell? ⟨b, A, none⟩ = some (.slice (some ⟨(gh.getD A (0, 0)).1, 0, none⟩) 256 256) := (cell_of_row wr b A cur 24 (0, 0) hh).trans hcA
        have fA := frozen_of_row wr b A cur 24 hh
        have hpA := HM0.ph A hA
        have hcut := LandI.cut (v := v) HM0 hA (by omega) (.inr rfl) rfl (w' := (wr.setCell ⟨b, A, none⟩ (.slice (some ⟨(gh.getD A (0, 0)).1, 0, none⟩) 256 256)).setCell ⟨(gh.getD A (0, 0)).1, 0, none⟩ (.int .i64 v)) (by rw [if_pos (by omega)])
        have hbg : b ≠ (gh.getD A (0, 0)).1 := fun e => by
          obtain ⟨cur', h1, _⟩ := hpA
          rw [← e, hh] at h1
          simp at h1
        have kL : (wr.setCell ⟨b, A, none⟩ (.slice (some ⟨(gh.getD A (0, 0)).1, 0, none⟩) 256 256)).cell? ⟨(gh.getD A (0, 0)).1, 0, none⟩ = some (.int .i64 0) := by
          rw [World.cell?_setCell_other _ _ _ _ (fun e => hbg (by cases e; rfl)), hpA.cell (by rw [List.length_replicate]; omega), rep_getD _ _ _ (by omega)]
        have fL : (wr.setCell ⟨b, A, none⟩ (.slice (some ⟨(gh.getD A (0, 0)).1, 0, none⟩) 256 256)).frozen? ⟨(gh.getD A (0, 0)).1, 0, none⟩ = false := (hpA.other (Ne.symm hbg)).free _
        have kB : (wr.setCell ⟨b, A, none⟩ (.slice (some ⟨(gh.getD A (0, 0)).1, 0, none⟩) 256 256)).cell? ⟨b, A, none⟩ = some (.slice (some ⟨(gh.getD A (0, 0)).1, 0, none⟩) 256 256) := by
          rw [cell_of_row _ b A _ 24 (0, 0) (heap_setCell_same wr b A _ 24 _ hh)]
          exact Array.getElem?_setIfInBounds_self_of_lt (Array.getElem?_eq_some_iff.1 hcA).1
        have hcut3 : Below w.heap.size w _ := HW.out.trans (hcut.2.2.mono HW.out.size)
        generalize (gh.getD A (0, 0)).1 = gA at *
        have HR : Hid (Rows2 ((wr.setCell ⟨b, A, none⟩ (.slice (some ⟨gA, 0, none⟩) 256 256)).setCell ⟨gA, 0, none⟩ (.int .i64 v)) (some ⟨b, 0, none⟩) (cutN i A 0 v) ∧ Rows2 ((wr.setCell ⟨b, A, none⟩ (.slice (some ⟨gA, 0, none⟩) 256 256)).setCell ⟨gA, 0, none⟩ (.int .i64 v)) ab (zr i) ∧ Below w.heap.size w ((wr.setCell ⟨b, A, none⟩ (.slice (some ⟨gA, 0, none⟩) 256 256)).setCell ⟨gA, 0, none⟩ (.int .i64 v))) := ⟨hcut.1, hcut.2.1, hcut3⟩
        have HLen : Hid ((∀ j, j < i → ((cutN i A 0 v).getD j []).length ≤ 256) ∧ (∀ j, j < i → ((zr i).getD j []).length ≤ 256)) := ⟨(fun j hj => by rw [cutN_at i A 0 v hA j hj]; split; (rw [cutRow_len 0 v (by omega)]; omega); (rw [List.length_replicate]; omega)), (fun j hj => by rw [zr_at i j hj, List.length_replicate]; omega)⟩
        subst h9
        clear HM HM0 HCap hcut hcut3 hcA hcap hc hh hpA hbg
        go_wp2_with fail
        generalize (wr.setCell ⟨b, A, none⟩ (.slice (some ⟨gA, 0, none⟩) 256 256)).setCell ⟨gA, 0, none⟩ (.int .i64 v) = W2 at *
        have hnew := new_c W2
        have HZ : Hid ((List.replicate 32768 (0 : Int)).length = 32768 ∧ Kinds (List.replicate 32768 (0 : Int))) := ⟨List.length_replicate, zero_kinds⟩
        generalize List.replicate 32768 (0 : Int) = Zc at *
        refine hnew.mono ?_
        clear hnew
        rintro _ w5 ⟨rfl, hw5⟩
        have hb5 : Below W2.heap.size W2 w5 := by rw [hw5]; exact (Below.refl _ _).alloc (Nat.le_refl _) _
        have hZ5 : Blk w5 W2.heap.size 74 Zc := by rw [hw5]; exact Blk.new W2 74 Zc
        have HB5 : Hid (Below w.heap.size w w5) := HR.out.2.2.trans (hb5.mono HR.out.2.2.size)
        clear hw5
        have hno := J.no_ 1 0 0 (some W2.heap.size) (some ⟨b, 0, none⟩) ab 9 9 ch cb (cutN 9 A 0 v) (zr 9) w5 (by omega) (by unfold Far; omega) (by unfold Far; omega) (fun g hg => by cases hg; exact ⟨Zc, hZ5, HZ.out.1, HZ.out.2⟩) (HR.out.1.on hb5) (HR.out.2.1.on hb5) (by first | exact zr_len _ | exact cutN_len _ _ _ _) (by first | exact zr_len _ | exact cutN_len _ _ _ _) (by omega) (by omega) HLen.out.1 HLen.out.2 (.inr (.inl (fun h => by have h2 := (cutN_ok (by omega) hA (by omega)).1 h; exact absurd h2.2.2.1 (by omega)))) (J.on HG.out HB5.out)
        simp only [Option.map_some] at hno
        clear hb5 hZ5 HR HLen
        generalize W2.heap.size = xg at *
        go_wp2_with fail
        refine hno.mono ?_
        clear hno
        rintro _ w6 ⟨rfl, hb6⟩
        have R : Hid (Below w.heap.size w w6) := HB5.out.trans (hb6.mono HB5.out.size)
        clear hb6
        go_wp2
        go_ret
        exact ⟨rfl, R.out⟩
      by_cases hv1 : v < 128
      case neg =>
        subst h0
        have HM0 := HM.out
        obtain ⟨b, cur, hbe, hh, _, hc⟩ := HM0.outer (by omega)
        subst hbe
        have hcA := hc A hA
        have hcap : slI (gh.getD A (0, 0)) = .slice (some ⟨(gh.getD A (0, 0)).1, 0, none⟩) 256 256 := by
          unfold slI
          rw [HCap.out.1 A hA]
        rw [hcap] at hcA
        have kA : wr.cell? ⟨b, A, none⟩ = some (.slice (some ⟨(gh.getD A (0, 0)).1, 0, none⟩) 256 256) := (cell_of_row wr b A cur 24 (0, 0) hh).trans hcA
        have fA := frozen_of_row wr b A cur 24 hh
        have hpA := HM0.ph A hA
        have hcut := LandI.cut (v := v) HM0 hA (by omega) (.inr rfl) rfl (w' := (wr.setCell ⟨b, A, none⟩ (.slice (some ⟨(gh.getD A (0, 0)).1, 0, none⟩) 256 256)).setCell ⟨(gh.getD A (0, 0)).1, 0, none⟩ (.int .i64 v)) (by rw [if_pos (by omega)])
        have hbg : b ≠ (gh.getD A (0, 0)).1 := fun e => by
          obtain ⟨cur', h1, _⟩ := hpA
          rw [← e, hh] at h1
          simp at h1
        have kL : (wr.setCell ⟨b, A, none⟩ (.slice (some ⟨(gh.getD A (0, 0)).1, 0, none⟩) 256 256)).cell? ⟨(gh.getD A (0, 0)).1, 0, none⟩ = some (.int .i64 0) := by
          rw [World.cell?_setCell_other _ _ _ _ (fun e => hbg (by cases e; rfl)), hpA.cell (by rw [List.length_replicate]; omega), rep_getD _ _ _ (by omega)]
        have fL : (wr.setCell ⟨b, A, none⟩ (.slice (some ⟨(gh.getD A (0, 0)).1, 0, none⟩) 256 256)).frozen? ⟨(gh.getD A (0, 0)).1, 0, none⟩ = false := (hpA.other (Ne.symm hbg)).free _
        have kB : (wr.setCell ⟨b, A, none⟩ (.slice (some ⟨(gh.getD A (0, 0)).1, 0, none⟩) 256 256)).cell? ⟨b, A, none⟩ = some (.slice (some ⟨(gh.getD A (0, 0)).1, 0, none⟩) 256 256) := by
          rw [cell_of_row _ b A _ 24 (0, 0) (heap_setCell_same wr b A _ 24 _ hh)]
          exact Array.getElem?_setIfInBounds_self_of_lt (Array.getElem?_eq_some_iff.1 hcA).1
        have hcut3 : Below w.heap.size w _ := HW.out.trans (hcut.2.2.mono HW.out.size)
        generalize (gh.getD A (0, 0)).1 = gA at *
        have HR : Hid (Rows2 ((wr.setCell ⟨b, A, none⟩ (.slice (some ⟨gA, 0, none⟩) 256 256)).setCell ⟨gA, 0, none⟩ (.int .i64 v)) (some ⟨b, 0, none⟩) (cutN i A 0 v) ∧ Rows2 ((wr.setCell ⟨b, A, none⟩ (.slice (some ⟨gA, 0, none⟩) 256 256)).setCell ⟨gA, 0, none⟩ (.int .i64 v)) ab (zr i) ∧ Below w.heap.size w ((wr.setCell ⟨b, A, none⟩ (.slice (some ⟨gA, 0, none⟩) 256 256)).setCell ⟨gA, 0, none⟩ (.int .i64 v))) := ⟨hcut.1, hcut.2.1, hcut3⟩
        have HLen : Hid ((∀ j, j < i → ((cutN i A 0 v).getD j []).length ≤ 256) ∧ (∀ j, j < i → ((zr i).getD j []).length ≤ 256)) := ⟨(fun j hj => by rw [cutN_at i A 0 v hA j hj]; split; (rw [cutRow_len 0 v (by omega)]; omega); (rw [List.length_replicate]; omega)), (fun j hj => by rw [zr_at i j hj, List.length_replicate]; omega)⟩
        subst h9
        clear HM HM0 HCap hcut hcut3 hcA hcap hc hh hpA hbg
        go_wp2_with fail
        generalize (wr.setCell ⟨b, A, none⟩ (.slice (some ⟨gA, 0, none⟩) 256 256)).setCell ⟨gA, 0, none⟩ (.int .i64 v) = W2 at *
        have hnew := new_c W2
        have HZ : Hid ((List.replicate 32768 (0 : Int)).length = 32768 ∧ Kinds (List.replicate 32768 (0 : Int))) := ⟨List.length_replicate, zero_kinds⟩
        generalize List.replicate 32768 (0 : Int) = Zc at *
        refine hnew.mono ?_
        clear hnew
        rintro _ w5 ⟨rfl, hw5⟩
        have hb5 : Below W2.heap.size W2 w5 := by rw [hw5]; exact (Below.refl _ _).alloc (Nat.le_refl _) _
        have hZ5 : Blk w5 W2.heap.size 74 Zc := by rw [hw5]; exact Blk.new W2 74 Zc
        have HB5 : Hid (Below w.heap.size w w5) := HR.out.2.2.trans (hb5.mono HR.out.2.2.size)
        clear hw5
        have hno := J.no_ 1 0 0 (some W2.heap.size) (some ⟨b, 0, none⟩) ab 9 9 ch cb (cutN 9 A 0 v) (zr 9) w5 (by omega) (by unfold Far; omega) (by unfold Far; omega) (fun g hg => by cases hg; exact ⟨Zc, hZ5, HZ.out.1, HZ.out.2⟩) (HR.out.1.on hb5) (HR.out.2.1.on hb5) (by first | exact zr_len _ | exact cutN_len _ _ _ _) (by first | exact zr_len _ | exact cutN_len _ _ _ _) (by omega) (by omega) HLen.out.1 HLen.out.2 (.inr (.inl (fun h => by have h2 := (cutN_ok (by omega) hA (by omega)).1 h; exact absurd h2.2.2.2 (by omega)))) (J.on HG.out HB5.out)
        simp only [Option.map_some] at hno
        clear hb5 hZ5 HR HLen
        generalize W2.heap.size = xg at *
        go_wp2_with fail
        refine hno.mono ?_
        clear hno
        rintro _ w6 ⟨rfl, hb6⟩
        have R : Hid (Below w.heap.size w w6) := HB5.out.trans (hb6.mono HB5.out.size)
        clear hb6
        go_wp2
        go_ret
        exact ⟨rfl, R.out⟩
      subst h0
      have HM0 := HM.out
      obtain ⟨b, cur, hbe, hh, _, hc⟩ := HM0.outer (by omega)
      subst hbe
      have hcA := hc A hA
      have hcap : slI (gh.getD A (0, 0)) = .slice (some ⟨(gh.getD A (0, 0)).1, 0, none⟩) 256 256 := by
        unfold slI
        rw [HCap.out.1 A hA]
      rw [hcap] at hcA
      have kA : wr.cell? ⟨b, A, none⟩ = some (.slice (some ⟨(gh.getD A (0, 0)).1, 0, none⟩) 256 256) := (cell_of_row wr b A cur 24 (0, 0) hh).trans hcA
      have fA := frozen_of_row wr b A cur 24 hh
      have hpA := HM0.ph A hA
      have hcut := LandI.cut (v := v) HM0 hA (by omega) (.inr rfl) rfl (w' := (wr.setCell ⟨b, A, none⟩ (.slice (some ⟨(gh.getD A (0, 0)).1, 0, none⟩) 256 256)).setCell ⟨(gh.getD A (0, 0)).1, 0, none⟩ (.int .i64 v)) (by rw [if_pos (by omega)])
      have hbg : b ≠ (gh.getD A (0, 0)).1 := fun e => by
        obtain ⟨cur', h1, _⟩ := hpA
        rw [← e, hh] at h1
        simp at h1
      have kL : (wr.setCell ⟨b, A, none⟩ (.slice (some ⟨(gh.getD A (0, 0)).1, 0, none⟩) 256 256)).cell? ⟨(gh.getD A (0, 0)).1, 0, none⟩ = some (.int .i64 0) := by
        rw [World.cell?_setCell_other _ _ _ _ (fun e => hbg (by cases e; rfl)), hpA.cell (by rw [List.length_replicate]; omega), rep_getD _ _ _ (by omega)]
      have fL : (wr.setCell ⟨b, A, none⟩ (.slice (some ⟨(gh.getD A (0, 0)).1, 0, none⟩) 256 256)).frozen? ⟨(gh.getD A (0, 0)).1, 0, none⟩ = false := (hpA.other (Ne.symm hbg)).free _
      have kB : (wr.setCell ⟨b, A, none⟩ (.slice (some ⟨(gh.getD A (0, 0)).1, 0, none⟩) 256 256)).cell? ⟨b, A, none⟩ = some (.slice (some ⟨(gh.getD A (0, 0)).1, 0, none⟩) 256 256) := by
        rw [cell_of_row _ b A _ 24 (0, 0) (heap_setCell_same wr b A _ 24 _ hh)]
        exact Array.getElem?_setIfInBounds_self_of_lt (Array.getElem?_eq_some_iff.1 hcA).1
      have hcut3 : Below w.heap.size w _ := HW.out.trans (hcut.2.2.mono HW.out.size)
      generalize (gh.getD A (0, 0)).1 = gA at *
      have HR : Hid (Rows2 ((wr.setCell ⟨b, A, none⟩ (.slice (some ⟨gA, 0, none⟩) 256 256)).setCell ⟨gA, 0, none⟩ (.int .i64 v)) (some ⟨b, 0, none⟩) (cutN i A 0 v) ∧ Rows2 ((wr.setCell ⟨b, A, none⟩ (.slice (some ⟨gA, 0, none⟩) 256 256)).setCell ⟨gA, 0, none⟩ (.int .i64 v)) ab (zr i) ∧ Below w.heap.size w ((wr.setCell ⟨b, A, none⟩ (.slice (some ⟨gA, 0, none⟩) 256 256)).setCell ⟨gA, 0, none⟩ (.int .i64 v))) := ⟨hcut.1, hcut.2.1, hcut3⟩
      subst h9
      clear HM HM0 HCap hcut hcut3 hcA hcap hc hh hpA hbg
      go_wp2_with fail
      generalize (wr.setCell ⟨b, A, none⟩ (.slice (some ⟨gA, 0, none⟩) 256 256)).setCell ⟨gA, 0, none⟩ (.int .i64 v) = W2 at *
      have hnew := new_c W2
      have HZ : Hid ((List.replicate 32768 (0 : Int)).length = 32768 ∧ Kinds (List.replicate 32768 (0 : Int))) := ⟨List.length_replicate, zero_kinds⟩
      generalize List.replicate 32768 (0 : Int) = Zc at *
      refine hnew.mono ?_
      clear hnew
      rintro _ w5 ⟨rfl, hw5⟩
      have hb5 : Below W2.heap.size W2 w5 := by rw [hw5]; exact (Below.refl _ _).alloc (Nat.le_refl _) _
      have hZ5 : Blk w5 W2.heap.size 74 Zc := by rw [hw5]; exact Blk.new W2 74 Zc
      have HB5 : Hid (Below w.heap.size w w5) := HR.out.2.2.trans (hb5.mono HR.out.2.2.size)
      clear hw5
      have hap := J.apply_ 1 0 0 W2.heap.size Zc (some ⟨b, 0, none⟩) ab ch cb (cutN 9 A 0 v) (zr 9) w5 (by omega) (by unfold Far; omega) (by unfold Far; omega) hZ5 HZ.out.1 HZ.out.2 (HR.out.1.on hb5) (HR.out.2.1.on hb5) ((cutN_ok (by omega) hA (by omega)).2 ⟨rfl, rfl, hv0, hv1⟩) (zr_ok (by omega)) (J.on HG.out HB5.out)
      clear hb5 hZ5 HR
      generalize W2.heap.size = xg at *
      go_wp2_with fail
      refine hap.mono ?_
      clear hap
      rintro _ w6 ⟨hb6, yg, rfl, _⟩
      have R : Hid (Below w.heap.size w w6) := HB5.out.trans (hb6.mono HB5.out.size)
      clear hb6
      go_wp2
      go_ret
      exact ⟨rfl, R.out⟩

end Go.Proofs.Ytbdjgaagafnfaaa