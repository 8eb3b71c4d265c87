/-
  The landed walk round a cell, that shows its neighbours to the function 41.
-/
import Derived.Test.YtmfjmcaaoljjlaaDoorRa0
set_option maxRecDepth 20000
namespace Go.Proofs.YtmfjmcaaoljjlaaDoor
open C Go.RowKit L

set_option maxRecDepth 1000000 in
set_option maxHeartbeats 4000000 in
theorem around41_c (e : LE) (o : LO e) (i : Nat) (hi : i < e.n) (a1 a2 a3 : Nat) (Inv : List Nat → World → Prop) (hs : Sh e i 41 a1 a2 a3 Inv) (w : World) (h0 : Inv [] w) :
    Calls Tryd.prog 29 #[.pointer (some ⟨e.p, 0, none⟩), .int .i64 (i : Int), .func (.func 41) #[] #[.pointer (some ⟨a1, 0, none⟩), .pointer (some ⟨a2, 0, none⟩), .pointer (some ⟨a3, 0, none⟩)]] w fun x w' => x = .returned (.tuple #[]) ∧ Inv (nbl e.W e.D e.T i) w' := by
  obtain ⟨Post, hPost⟩ : ∃ Post : Ending → World → Prop, Post = fun x w' => x = .returned (.tuple #[]) ∧ Inv (nbl e.W e.D e.T i) w' := ⟨_, rfl⟩
  rw [← hPost]
  have HP : Hid (∀ w', Inv (dnK e.W e.D e.T i 6) w' → Post (.returned (.tuple #[])) w') := fun w' h => by rw [hPost]; exact ⟨rfl, h⟩
  clear hPost
  have H0 : Hid (Inv (dnK e.W e.D e.T i (2 * 0)) w) := h0
  have HS : Hid (Sh e i 41 a1 a2 a3 Inv) := hs
  have HO : Hid (LO e) := o
  have hM := hs.bm _ _ h0
  have HM : Hid (BM e w) := hM
  have c0 := hM.b0
  have c1 := hM.b1
  have c2 := hM.b2
  have HL : Hid (∀ w, BM e w → Calls Tryd.prog 38 #[.pointer (some ⟨e.p, 0, none⟩)] w fun x w' => x = .returned (.int .i64 ((e.W * e.D : Nat) : Int)) ∧ Below w.heap.size w w') := fun w h => layer_c e o w h
  obtain ⟨bw0, bw1, bd0, bd1, bt0, bt1⟩ := o.bx
  have hib : i ≤ 294911 := by have := o.nb; omega
  have Hi : Hid (i < e.n) := hi
  have hlb : 0 < e.W * e.D ∧ e.W * e.D ≤ 2304 := ⟨Nat.mul_pos bw0 bd0, Nat.mul_le_mul bw1 bd1⟩
  have t1 : Int.tmod (i : Int) (e.W : Int) = ((wayB e.W e.D i 0 : Nat) : Int) := by rw [tmod_nat]; rfl
  have t2 : Int.tdiv (i : Int) (e.W : Int) = ((i / e.W : Nat) : Int) := tdiv_nat i e.W
  have t3 : Int.tmod ((i / e.W : Nat) : Int) (e.D : Int) = ((wayB e.W e.D i 1 : Nat) : Int) := by rw [tmod_nat]; rfl
  have t4 : Int.tdiv (i : Int) ((e.W * e.D : Nat) : Int) = ((wayB e.W e.D i 2 : Nat) : Int) := by rw [tdiv_nat]; show _ = ((i / e.W / e.D : Nat) : Int); rw [Nat.div_div_eq_div_mul]
  have HB : Hid (∀ X, X < 3 → wayB e.W e.D i X ≤ 294911 ∧ wayM e.W e.D e.T X ≤ 128 ∧ 1 ≤ wayS e.W e.D X ∧ wayS e.W e.D X ≤ 2304 ∧ 1 ≤ wayM e.W e.D e.T X) := fun X hX => by
    have h : X = 0 ∨ X = 1 ∨ X = 2 := by omega
    rcases h with rfl | rfl | rfl
    · exact ⟨Nat.le_trans (Nat.mod_le _ _) hib, by show e.W ≤ 128; omega, Nat.le_refl _, by show 1 ≤ 2304; omega, bw0⟩
    · exact ⟨Nat.le_trans (Nat.mod_le _ _) (Nat.le_trans (Nat.div_le_self _ _) hib), by show e.D ≤ 128; omega, bw0, by show e.W ≤ 2304; omega, bd0⟩
    · exact ⟨Nat.le_trans (Nat.div_le_self _ _) (Nat.le_trans (Nat.div_le_self _ _) hib), bt1, hlb.1, hlb.2, bt0⟩
  have hqb : i / e.W ≤ 294911 := Nat.le_trans (Nat.div_le_self _ _) hib
  have h2b : wayB e.W e.D i 2 ≤ 294911 := (HB.out 2 (by omega)).1
  obtain ⟨L, hL⟩ : ∃ L, e.W * e.D = L := ⟨_, rfl⟩
  have HLx : Hid (e.W * e.D = L) := hL
  rw [hL] at HL t4 hlb
  obtain ⟨q, hq⟩ : ∃ q, i / e.W = q := ⟨_, rfl⟩
  rw [hq] at t2 t3 hqb
  obtain ⟨B0, hB0⟩ : ∃ x, wayB e.W e.D i 0 = x := ⟨_, rfl⟩
  obtain ⟨B1, hB1⟩ : ∃ x, wayB e.W e.D i 1 = x := ⟨_, rfl⟩
  obtain ⟨B2, hB2⟩ : ∃ x, wayB e.W e.D i 2 = x := ⟨_, rfl⟩
  rw [hB0] at t1
  rw [hB1] at t3
  rw [hB2] at t4 h2b
  have HBs : Hid (wayB e.W e.D i 0 = B0 ∧ wayB e.W e.D i 1 = B1 ∧ wayB e.W e.D i 2 = B2) := ⟨hB0, hB1, hB2⟩
  have hW0 : ¬ (e.W : Int) = 0 := by omega
  have hD0 : ¬ (e.D : Int) = 0 := by omega
  have hL0 : ¬ (L : Int) = 0 := by omega
  have hw2 : IntKind.i64.wrap (q : Int) = (q : Int) := by rw [IntKind.wrap_i64]; omega
  have hw4 : IntKind.i64.wrap (B2 : Int) = (B2 : Int) := by rw [IntKind.wrap_i64]; omega
  clear hM hs h0 o hi hL hq hB0 hB1 hB2 bw0 bw1 bd0 bd1 bt0 bt1 hib hlb hqb h2b
  go_enter Tryd.func29, Tryd.ntmps29
  go_wp2_with fail
  clear c0 c1 c2
  refine wp_region_since (by kernel_rfl) (by kernel_rfl) ?_
  have hsome := since_some w
  have q0 := fun s : Since w => Since.cell HM.out.b0 s
  have q1 := fun s : Since w => Since.cell HM.out.b1 s
  have q2 := fun s : Since w => Since.cell HM.out.b2 s
  have HLs : Hid (∀ s : Since w, Calls Tryd.prog 38 #[.pointer (some ⟨e.p, 0, none⟩)] s.w fun x w' => x = .returned (.int .i64 (L : Int)) ∧ Below s.w.heap.size s.w w') := fun s => HL.out s.w (HM.out.on s.bel)
  repeat (go_big_quiet_step (first | (go_at_call 38; exact Calls.since (HLs.out _))))
  refine wpQuiet_nil ?_
  rintro _ ⟨s, rfl⟩
  have H1 : Hid (Inv (dnK e.W e.D e.T i (2 * 0)) s.w) := HS.out.on _ _ _ H0.out s.bel
  generalize s.w = w1 at *
  clear hsome q0 q1 q2 HLs HL HM H0 t1 t2 t3 t4 hw2 hw4 hW0 hD0 hL0
  have HI : Hid (∀ (X : Nat) (wr : World), X < 3 → (Instr.index 78 (.agg #[.int .i64 (B0 : Int), .int .i64 (e.W : Int), .int .i64 1, .int .i64 (B1 : Int), .int .i64 (e.D : Int), .int .i64 (e.W : Int), .int .i64 (B2 : Int), .int .i64 (e.T : Int), .int .i64 (L : Int)]) (.int .i64 (X : Int))).run Tryd.prog wr = .ok (.agg #[.int .i64 (wayB e.W e.D i X : Int), .int .i64 (wayM e.W e.D e.T X : Int), .int .i64 (wayS e.W e.D X : Int)]) wr) := fun X wr hX => by
    obtain ⟨h1, h2, h3⟩ := HBs.out
    rw [← h1, ← h2, ← h3, ← HLx.out]
    have h : X = 0 ∨ X = 1 ∨ X = 2 := by omega
    rcases h with rfl | rfl | rfl
    · show _ = Result.ok (Value.agg #[.int .i64 (wayB e.W e.D i 0 : Int), .int .i64 (e.W : Int), .int .i64 1]) wr
      generalize wayB e.W e.D i 0 = b0
      generalize wayB e.W e.D i 1 = b1
      generalize wayB e.W e.D i 2 = b2
      generalize ((e.W * e.D : Nat) : Int) = b3
      kernel_rfl
    · show _ = Result.ok (Value.agg #[.int .i64 (wayB e.W e.D i 1 : Int), .int .i64 (e.D : Int), .int .i64 (e.W : Int)]) wr
      generalize wayB e.W e.D i 0 = b0
      generalize wayB e.W e.D i 1 = b1
      generalize wayB e.W e.D i 2 = b2
      generalize ((e.W * e.D : Nat) : Int) = b3
      kernel_rfl
    · show _ = Result.ok (Value.agg #[.int .i64 (wayB e.W e.D i 2 : Int), .int .i64 (e.T : Int), .int .i64 ((e.W * e.D : Nat) : Int)]) wr
      generalize wayB e.W e.D i 0 = b0
      generalize wayB e.W e.D i 1 = b1
      generalize wayB e.W e.D i 2 = b2
      generalize ((e.W * e.D : Nat) : Int) = b3
      kernel_rfl
  clear HBs
  go_wp2_with fail
  go_loopw [51] (fun vx wr => ∃ X : Nat, X ≤ 3 ∧ vx = .int .i64 (X : Int) ∧ Hid (Inv (dnK e.W e.D e.T i (2 * X)) wr)) (fun vx _ => 3 - (intOf vx).toNat)
  case atStart => exact ⟨0, by omega, rfl, H1⟩
  case round =>
    clear H1
    obtain ⟨X, hX, rfl, HJ⟩ := hrel
    by_cases hx : X < 3
    case neg =>
      have hx' : ¬ (X : Int) < 3 := by omega
      have R := HP.out wr (by obtain rfl : X = 3 := by omega
                              exact HJ.out)
      clear HJ HS HO HI HB HP Hi HLx
      go_wp2
      exact bodyPost_end (results_none rfl _ _ _) rfl R
    have hx' : (X : Int) < 3 := by omega
    have ix := HI.out X wr hx
    have hbd := HB.out X hx
    have hle := way_le e.W e.D i X hx
    have hdn := way_dn e.W e.D e.T i X hx
    have hup := way_up e.W e.D e.T i X hx
    have hlt : ∀ k j, nbr e.W e.D e.T i k = some j → j < e.n := fun k j h => nbr_lt HO.out.bx.w0 HO.out.bx.d0 Hi.out h
    have s1 := dnK_succ e.W e.D e.T i (2 * X)
    have s2 := dnK_succ e.W e.D e.T i (2 * X + 1)
    generalize wayB e.W e.D i X = B at ix hbd hdn hup hle
    generalize wayM e.W e.D e.T X = M at ix hbd hdn hup
    generalize wayS e.W e.D X = S at ix hbd hdn hup hle
    obtain ⟨hb1, hb2, hb3, hb4, hb5⟩ := hbd
    have hnb := HO.out.nb
    have hin := Hi.out
    have wX : IntKind.i64.wrap ((X : Int) + 1) = ((X + 1 : Nat) : Int) := by rw [IntKind.wrap_i64]; omega
    have hM1 : IntKind.i64.wrap ((M : Int) - 1) = (M : Int) - 1 := by rw [IntKind.wrap_i64]; omega
    -- the end of a round
    have HE : Hid (∀ w', Inv (dnK e.W e.D e.T i (2 * X + 1) ++ (nbr e.W e.D e.T i (2 * X + 1)).toList) w' → Hid (Inv (dnK e.W e.D e.T i (2 * (X + 1))) w')) := fun w' h => by
      show Inv _ _
      rw [show 2 * (X + 1) = 2 * X + 1 + 1 by omega, s2]
      exact h
    have HA : Hid (∀ w', Inv (dnK e.W e.D e.T i (2 * X) ++ (nbr e.W e.D e.T i (2 * X)).toList) w' → Inv (dnK e.W e.D e.T i (2 * X + 1)) w') := fun w' h => by rw [s1]; exact h
    have HJ2 : Hid (Inv (dnK e.W e.D e.T i (2 * X)) (wr.alloc (.cells #[.int .i64 (B : Int), .int .i64 (M : Int), .int .i64 (S : Int)] 77))) := HS.out.on _ _ _ HJ.out ((Below.refl _ _).alloc (Nat.le_refl _) _)
    have hcell := heap_alloc_new wr (.cells #[.int .i64 (B : Int), .int .i64 (M : Int), .int .i64 (S : Int)] 77)
    have Hdn : Hid (nbr e.W e.D e.T i (2 * X) = if 0 < B then some (i - S) else none) := hdn
    have Hup : Hid (nbr e.W e.D e.T i (2 * X + 1) = if B + 1 < M then some (i + S) else none) := hup
    have Hlt : Hid (∀ k j, nbr e.W e.D e.T i k = some j → j < e.n) := hlt
    have Hle : Hid (0 < B → S ≤ i) := hle
    clear HJ hdn hup hlt s1 s2 HI HB HLx hle
    go_upto_region 3 with fail
    generalize wr.alloc (.cells #[.int .i64 (B : Int), .int .i64 (M : Int), .int .i64 (S : Int)] 77) = w2 at *
    generalize wr.heap.size = WB at *
    have x0 : w2.cell? ⟨WB, 0, none⟩ = some (.int .i64 (B : Int)) := (cell_of_row w2 WB 0 _ 77 (0, 0) hcell).trans rfl
    have x1 : w2.cell? ⟨WB, 1, none⟩ = some (.int .i64 (M : Int)) := (cell_of_row w2 WB 1 _ 77 (0, 0) hcell).trans rfl
    have x2 : w2.cell? ⟨WB, 2, none⟩ = some (.int .i64 (S : Int)) := (cell_of_row w2 WB 2 _ 77 (0, 0) hcell).trans rfl
    have HC : Hid (w2.heap[WB]? = some (.cells #[.int .i64 (B : Int), .int .i64 (M : Int), .int .i64 (S : Int)] 77 (0, 0))) := hcell
    clear hcell
    have HX : Hid (X < 3) := hx
    by_cases hB : 0 < B
    · have hBi : (0 : Int) < (B : Int) := by omega
      have hSi := Hle.out hB
      obtain ⟨j, hj⟩ : ∃ j, i - S = j := ⟨_, rfl⟩
      have hn1 : nbr e.W e.D e.T i (2 * X) = some j := by rw [Hdn.out, if_pos hB, hj]
      have wj : IntKind.i64.wrap ((i : Int) - (S : Int)) = (j : Int) := by rw [IntKind.wrap_i64]; omega
      have HC1 := HS.out.call (2 * X) j _ w2 (by omega) (dnK_len _ _ _ _ _) hn1 HJ2.out
      have HA1 : Hid (∀ w', Inv (dnK e.W e.D e.T i (2 * X) ++ [j]) w' → Inv (dnK e.W e.D e.T i (2 * X + 1)) w') := fun w' h => HA.out w' (by rw [hn1]; exact h)
      clear hj hn1 HA Hdn hSi Hle HJ2
      go_wp2_with fail
      refine HC1.mono ?_
      rintro _ w3 ⟨rfl, hi3, ht3⟩
      have HJ3 : Hid (Inv (dnK e.W e.D e.T i (2 * X + 1)) w3) := HA1.out _ hi3
      have hcell := ht3 _ _ HC.out
      clear hi3 ht3 HC1 HC HA1 x0 x1 x2
      have x0 : w3.cell? ⟨WB, 0, none⟩ = some (.int .i64 (B : Int)) := (cell_of_row w3 WB 0 _ 77 (0, 0) hcell).trans rfl
      have x1 : w3.cell? ⟨WB, 1, none⟩ = some (.int .i64 (M : Int)) := (cell_of_row w3 WB 1 _ 77 (0, 0) hcell).trans rfl
      have x2 : w3.cell? ⟨WB, 2, none⟩ = some (.int .i64 (S : Int)) := (cell_of_row w3 WB 2 _ 77 (0, 0) hcell).trans rfl
      clear hcell
      generalize w3 = w4 at *
      by_cases hU : B + 1 < M
      · have hUi : (B : Int) < (M : Int) - 1 := by omega
        obtain ⟨j2, hj2⟩ : ∃ j2, i + S = j2 := ⟨_, rfl⟩
        have hn2 : nbr e.W e.D e.T i (2 * X + 1) = some j2 := by rw [Hup.out, if_pos hU, hj2]
        have wj2 : IntKind.i64.wrap ((i : Int) + (S : Int)) = (j2 : Int) := by rw [IntKind.wrap_i64]; have := Hlt.out _ _ hn2; omega
        have HC2 := HS.out.call (2 * X + 1) j2 _ w4 (by have := HX.out; omega) (dnK_len _ _ _ _ _) hn2 HJ3.out
        have HE1 : Hid (∀ w', Inv (dnK e.W e.D e.T i (2 * X + 1) ++ [j2]) w' → Hid (Inv (dnK e.W e.D e.T i (2 * (X + 1))) w')) := fun w' h => HE.out w' (by rw [hn2]; exact h)
        clear hj2 hn2 HE Hup HJ3
        go_wp2_with fail
        refine HC2.mono ?_
        rintro _ w5 ⟨rfl, hi5, _⟩
        have R := HE1.out _ hi5
        clear hi5 HC2 HE1 x0 x1 x2 HP
        go_wp2
        exact ⟨⟨X + 1, by have := HX.out; omega, rfl, R⟩, by have := HX.out; simp [intOf]; omega⟩
      · have hUi : ¬ (B : Int) < (M : Int) - 1 := by omega
        have R := HE.out w4 (by rw [Hup.out, if_neg hU]; simpa using HJ3.out)
        clear HE Hup HJ3 HP
        go_wp2
        exact ⟨⟨X + 1, by have := HX.out; omega, rfl, R⟩, by have := HX.out; simp [intOf]; omega⟩
    · have hBi : ¬ (0 : Int) < (B : Int) := by omega
      have HJ3 : Hid (Inv (dnK e.W e.D e.T i (2 * X + 1)) w2) := HA.out _ (by rw [Hdn.out, if_neg hB]; simpa using HJ2.out)
      clear HA Hdn Hle HJ2 HC
      generalize w2 = w4 at *
      by_cases hU : B + 1 < M
      · have hUi : (B : Int) < (M : Int) - 1 := by omega
        obtain ⟨j2, hj2⟩ : ∃ j2, i + S = j2 := ⟨_, rfl⟩
        have hn2 : nbr e.W e.D e.T i (2 * X + 1) = some j2 := by rw [Hup.out, if_pos hU, hj2]
        have wj2 : IntKind.i64.wrap ((i : Int) + (S : Int)) = (j2 : Int) := by rw [IntKind.wrap_i64]; have := Hlt.out _ _ hn2; omega
        have HC2 := HS.out.call (2 * X + 1) j2 _ w4 (by have := HX.out; omega) (dnK_len _ _ _ _ _) hn2 HJ3.out
        have HE1 : Hid (∀ w', Inv (dnK e.W e.D e.T i (2 * X + 1) ++ [j2]) w' → Hid (Inv (dnK e.W e.D e.T i (2 * (X + 1))) w')) := fun w' h => HE.out w' (by rw [hn2]; exact h)
        clear hj2 hn2 HE Hup HJ3
        go_wp2_with fail
        refine HC2.mono ?_
        rintro _ w5 ⟨rfl, hi5, _⟩
        have R := HE1.out _ hi5
        clear hi5 HC2 HE1 x0 x1 x2 HP
        go_wp2
        exact ⟨⟨X + 1, by have := HX.out; omega, rfl, R⟩, by have := HX.out; simp [intOf]; omega⟩
      · have hUi : ¬ (B : Int) < (M : Int) - 1 := by omega
        have R := HE.out w4 (by rw [Hup.out, if_neg hU]; simpa using HJ3.out)
        clear HE Hup HJ3 HP
        go_wp2
        exact ⟨⟨X + 1, by have := HX.out; omega, rfl, R⟩, by have := HX.out; simp [intOf]; omega⟩
end Go.Proofs.YtmfjmcaaoljjlaaDoor
