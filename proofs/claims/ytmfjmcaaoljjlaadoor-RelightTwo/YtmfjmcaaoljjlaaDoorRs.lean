/-
  The landed sources: the sky's and the lamps' own light.
-/
import Derived.Test.YtmfjmcaaoljjlaaDoorRm
set_option maxRecDepth 20000
namespace Go.Proofs.YtmfjmcaaoljjlaaDoor
open C Go.RowKit L

set_option maxHeartbeats 1000000 in
theorem lamp_c (e : LE) (o : LO e) (i : Nat) (hi : i < e.n) (w : World) (h : BM e w) : Calls Tryd.prog 67 #[.agg #[.pointer (some ⟨e.p, 0, none⟩)], .int .i64 (i : Int)] w fun x w' => x = .returned (.int .i64 (lampN e.W e.D e.T (fun j => e.ks.getD j 0) i : Nat)) ∧ Below w.heap.size w w' := by
  have HB : Hid (Below w.heap.size w (w.alloc (.cells #[.pointer (some ⟨e.p, 0, none⟩)] 58))) := (Below.refl _ _).alloc (Nat.le_refl _) _
  have h1 := h.on HB.out
  have c3 := h1.b3
  have ck := h1.kp.cell (k := i) (by rw [o.kl]; exact hi)
  obtain ⟨k0, k1⟩ := Kinds.at o.kk i
  have hv : lampN e.W e.D e.T (fun j => e.ks.getD j 0) i = emitsK (e.ks.getD i 0) := by unfold lampN; rw [if_pos hi]
  rw [hv]
  obtain ⟨K, hK⟩ := Int.eq_ofNat_of_zero_le k0
  have T := h1.tb
  have hnb := o.nb
  rw [hK] at ck k1 ⊢
  have hK17 : K < 17 := by omega
  have hc := fun (w1 : World) (T1 : Tabs w1) => kind_shines K hK17 w1 T1
  rw [em_is K hK17] at hc
  have HC : Hid (∀ (w1 : World) (T1 : Tabs w1), Calls Tryd.prog 68 #[.int .i64 (K : Int)] w1 fun x w' => x = .returned (.int .i64 ((emitsK (K : Int) : Nat) : Int)) ∧ Below w1.heap.size w1 w') := hc
  obtain ⟨n, hn⟩ : ∃ n, e.n = n := ⟨_, rfl⟩
  rw [hn] at c3 hi hnb
  have hi1 : (i : Int) < n := by omega
  generalize ((emitsK (K : Int) : Nat) : Int) = R at *
  clear h h1 o k0 k1 hK hn hv hc
  go_enter Tryd.func67, Tryd.ntmps67
  go_wp2_with fail
  refine (HC.out _ T).mono ?_
  rintro _ w1 ⟨rfl, b⟩
  have B : Hid (Below w.heap.size w w1) := HB.out.trans (b.mono HB.out.size)
  clear HB b T HC c3 ck
  go_wp2
  go_ret
  exact ⟨rfl, B.out⟩
set_option maxRecDepth 1000000 in
set_option maxHeartbeats 4000000 in
theorem sky_c (e : LE) (o : LO e) (i : Nat) (hi : i < e.n) (w : World) (h : BM e w) : Calls Tryd.prog 64 #[.agg #[.pointer (some ⟨e.p, 0, none⟩)], .int .i64 (i : Int)] w fun x w' => x = .returned (.int .i64 (skyN e.W e.D e.T (fun j => e.ks.getD j 0) i : Nat)) ∧ Below w.heap.size w w' := by
  obtain ⟨Post, hPost⟩ : ∃ Post : Ending → World → Prop, Post = fun x w' => x = .returned (.int .i64 (skyN e.W e.D e.T (fun j => e.ks.getD j 0) i : Nat)) ∧ Below w.heap.size w w' := ⟨_, rfl⟩
  rw [← hPost]
  have HP : Hid (∀ (v : Int) w', v = (skyN e.W e.D e.T (fun j => e.ks.getD j 0) i : Nat) → Below w.heap.size w w' → Post (.returned (.int .i64 v)) w') := fun v w' hv h => by rw [hPost, hv]; exact ⟨rfl, h⟩
  clear hPost
  have HB0 : Hid (Below w.heap.size w (w.alloc (.cells #[.pointer (some ⟨e.p, 0, none⟩)] 57))) := (Below.refl _ _).alloc (Nat.le_refl _) _
  have HM : Hid (BM e (w.alloc (.cells #[.pointer (some ⟨e.p, 0, none⟩)] 57))) := h.on HB0.out
  have HO : Hid (LO e) := o
  have Hi : Hid (i < e.n) := hi
  have hcell := heap_alloc_new w (.cells #[.pointer (some ⟨e.p, 0, none⟩)] 57)
  have HC : Hid ((w.alloc (.cells #[.pointer (some ⟨e.p, 0, none⟩)] 57)).heap[w.heap.size]? = some (.cells #[.pointer (some ⟨e.p, 0, none⟩)] 57 (0, 0))) := hcell
  have hL0 : 0 < e.W * e.D := Nat.mul_pos o.bx.w0 o.bx.d0
  have hL1 : e.W * e.D ≤ 2304 := Nat.mul_le_mul o.bx.w1 o.bx.d1
  have hnb := o.nb
  clear h o hi hcell
  go_enter Tryd.func64, Tryd.ntmps64
  go_wp2_with fail
  obtain ⟨w1, hw1⟩ : ∃ w1, w.alloc (.cells #[.pointer (some ⟨e.p, 0, none⟩)] 57) = w1 := ⟨_, rfl⟩
  rw [hw1] at HB0 HM HC ⊢
  obtain ⟨B, hB⟩ : ∃ B, w.heap.size = B := ⟨_, rfl⟩
  have HBs : Hid (w.heap.size = B) := hB
  rw [hB] at HC ⊢
  clear hw1 hB
  go_loopw [1] (fun vx wr => ∃ j : Nat, vx = .int .i64 (j : Int) ∧ j < e.n + e.W * e.D ∧ Hid (Below w.heap.size w wr ∧ Below w1.heap.size w1 wr ∧ ((j < e.n ∧ openN e.W e.D e.T (fun j => e.ks.getD j 0) i = openN e.W e.D e.T (fun j => e.ks.getD j 0) j) ∨ (e.n ≤ j ∧ openN e.W e.D e.T (fun j => e.ks.getD j 0) i = true)))) (fun vx _ => e.n + e.W * e.D - (intOf vx).toNat)
  case atStart => exact ⟨i, rfl, by have := Hi.out; omega, HB0.out, Below.refl _ _, .inl ⟨Hi.out, rfl⟩⟩
  case round =>
    clear HB0
    obtain ⟨j, rfl, hj, HJ⟩ := hrel
    have hM := HM.out.on HJ.out.2.1
    have hcell := (HJ.out.2.1.block B (Array.getElem?_eq_some_iff.1 HC.out).1).trans HC.out
    have x0 : wr.cell? ⟨B, 0, none⟩ = some (.pointer (some ⟨e.p, 0, none⟩)) := (cell_of_row wr B 0 _ 57 (0, 0) hcell).trans rfl
    have c3 := hM.b3
    by_cases hx : j < e.n
    case neg =>
      have hx' : ¬ (j : Int) < ((e.n : Nat) : Int) := by omega
      obtain ⟨n, hn⟩ : ∃ n, e.n = n := ⟨_, rfl⟩
      have R := HP.out 15 wr (by
        unfold skyN
        rcases HJ.out.2.2 with ⟨h, _⟩ | ⟨_, h⟩
        · exact absurd h hx
        · rw [if_pos ⟨Hi.out, h⟩]; rfl) HJ.out.1
      rw [hn] at hx' c3
      clear hM hcell HJ HP HO Hi HM HC hn
      go_wp2
      exact R
    have hx' : (j : Int) < ((e.n : Nat) : Int) := by omega
    have ck := hM.kp.cell (k := j) (by rw [HO.out.kl]; exact hx)
    obtain ⟨k0, k1⟩ := Kinds.at HO.out.kk j
    obtain ⟨K, hK⟩ := Int.eq_ofNat_of_zero_le k0
    have T := hM.tb
    have hK17 : K < 17 := by omega
    have hcl := cl_is K hK17
    have HKc : Hid (∀ (w1 : World) (T1 : Tabs w1), Calls Tryd.prog 65 #[.int .i64 (K : Int)] w1 fun x w' => x = .returned (.bool (clK K)) ∧ Below w1.heap.size w1 w') := fun w1 T1 => kind_isClear K hK17 w1 T1
    have HK : Hid (e.ks.getD j 0 = (K : Int)) := hK
    rw [hK] at ck
    obtain ⟨n, hn⟩ : ∃ n, e.n = n := ⟨_, rfl⟩
    have Hn : Hid (e.n = n) := hn
    rw [hn] at hx' c3 hnb hj hx
    have HMr : Hid (BM e wr) := hM
    have HCr : Hid (wr.heap[B]? = some (.cells #[.pointer (some ⟨e.p, 0, none⟩)] 57 (0, 0))) := hcell
    have Hj : Hid (j < n) := hx
    clear hM hcell hK hn k0 k1 HM HC
    rcases hb : clK K with _ | _
    · rw [hb] at HKc hcl
      have HKd : Hid (∀ (w1 : World) (T1 : Tabs w1), Calls Tryd.prog 65 #[.int .i64 (K : Int)] w1 fun x w' => x = .returned (.bool false) ∧ Below w1.heap.size w1 w') := HKc.out
      have Hcl : Hid (clearK (K : Int) = false) := hcl.symm
      clear HKc hcl hb
      go_wp2_with fail
      refine (HKd.out _ T).mono ?_
      rintro _ w2 ⟨rfl, b⟩
      have R := HP.out 0 w2 (by
        have h1 := HJ.out.2.2.resolve_right (fun h => by have := h.1; have := Hn.out; have := Hj.out; omega)
        have h2 : openN e.W e.D e.T (fun j => e.ks.getD j 0) j = false := by
          rcases Nat.lt_or_ge (j + e.W * e.D) e.n with h | h
          · rw [open_step HO.out.bx.w0 HO.out.bx.d0 h]
            show (clearK (e.ks.getD j 0) && _) = false
            rw [HK.out, Hcl.out]; rfl
          · rw [open_top HO.out.bx.w0 HO.out.bx.d0 h1.1 h]
            show clearK (e.ks.getD j 0) = false
            rw [HK.out, Hcl.out]
        unfold skyN
        rw [if_neg (fun q => by rw [h1.2, h2] at q; exact Bool.noConfusion q.2)]; rfl) (HJ.out.1.trans (b.mono HJ.out.1.size))
      clear HJ HP HO Hi HMr HCr HK Hn T b HKd Hcl c3 ck x0 Hj
      go_wp2
      exact R
    · rw [hb] at HKc hcl
      have HKd : Hid (∀ (w1 : World) (T1 : Tabs w1), Calls Tryd.prog 65 #[.int .i64 (K : Int)] w1 fun x w' => x = .returned (.bool true) ∧ Below w1.heap.size w1 w') := HKc.out
      have Hcl : Hid (clearK (K : Int) = true) := hcl.symm
      clear HKc hcl hb
      go_wp2_with fail
      refine (HKd.out _ T).mono ?_
      rintro _ w2 ⟨rfl, b⟩
      have HM2 : Hid (BM e w2) := HMr.out.on b
      have hcell2 := (b.block B (Array.getElem?_eq_some_iff.1 HCr.out).1).trans HCr.out
      have y0 : w2.cell? ⟨B, 0, none⟩ = some (.pointer (some ⟨e.p, 0, none⟩)) := (cell_of_row w2 B 0 _ 57 (0, 0) hcell2).trans rfl
      have HLc := layer_c e HO.out w2 HM2.out
      have HJ2 : Hid (Below w.heap.size w w2 ∧ Below w1.heap.size w1 w2 ∧ ((j < n ∧ openN e.W e.D e.T (fun j => e.ks.getD j 0) i = openN e.W e.D e.T (fun j => e.ks.getD j 0) j))) := by
        obtain ⟨h1, h2, h3⟩ := HJ.out
        exact ⟨h1.trans (b.mono h1.size), h2.trans (b.mono h2.size), by have := Hn.out; have := Hj.out; exact h3.elim (fun h3 => ⟨this, h3.2⟩) (fun h3 => by omega)⟩
      obtain ⟨L, hL⟩ : ∃ L, e.W * e.D = L := ⟨_, rfl⟩
      have HLn : Hid (e.W * e.D = L) := hL
      rw [hL] at HLc hL0 hL1 hj
      have wj : IntKind.i64.wrap ((j : Int) + (L : Int)) = ((j + L : Nat) : Int) := by rw [IntKind.wrap_i64]; omega
      clear HJ HMr HCr T b hcell2 x0 c3 ck hL HKd
      go_wp2_with fail
      refine HLc.mono ?_
      rintro _ w3 ⟨rfl, b3⟩
      have HE : Hid (Below w.heap.size w w3 ∧ Below w1.heap.size w1 w3 ∧ ((j + L < n ∧ openN e.W e.D e.T (fun j => e.ks.getD j 0) i = openN e.W e.D e.T (fun j => e.ks.getD j 0) (j + L)) ∨ (n ≤ j + L ∧ openN e.W e.D e.T (fun j => e.ks.getD j 0) i = true))) := by
        obtain ⟨h1, h2, h3, h4⟩ := HJ2.out
        refine ⟨h1.trans (b3.mono h1.size), h2.trans (b3.mono h2.size), ?_⟩
        have hn := Hn.out
        have hl := HLn.out
        have hc := Hcl.out
        have hk := HK.out
        rcases Nat.lt_or_ge (j + L) n with h | h
        · refine .inl ⟨h, ?_⟩
          have q1 : j + e.W * e.D < e.n := by omega
          rw [h4, open_step HO.out.bx.w0 HO.out.bx.d0 q1, hl]
          show (clearK (e.ks.getD j 0) && _) = _
          rw [hk, hc]; rfl
        · refine .inr ⟨h, ?_⟩
          have q0 : j < e.n := by omega
          have q1 : e.n ≤ j + e.W * e.D := by omega
          rw [h4, open_top HO.out.bx.w0 HO.out.bx.d0 q0 q1]
          show clearK (e.ks.getD j 0) = true
          rw [hk, hc]
      have Hx := Hj.out
      clear HJ2 b3 HLc HM2 y0
      go_wp2
      exact ⟨⟨j + L, rfl, by rw [Hn.out, HLn.out]; omega, by rw [Hn.out]; exact HE⟩, by rw [Hn.out, HLn.out]; simp [intOf]; omega⟩
end Go.Proofs.YtmfjmcaaoljjlaaDoor
