/-
  The document's Sky, of any box.
-/
import Derived.Test.YtmfjmcaaoljjlaaDoorLlamp
import Derived.Test.YtmfjmcaaoljjlaaDoorMnb
set_option maxRecDepth 20000
namespace Go.Proofs.YtmfjmcaaoljjlaaDoor
open C Go.RowKit L

theorem pos_ne {M y Y c i : Nat} (hc : c < M) (hi : i < M) (h : y ≠ Y ∨ c ≠ i) : y * M + c ≠ Y * M + i := fun e => by
  have h0 : 0 < M := by omega
  have e1 := congrArg (· / M) e
  have e2 := congrArg (· % M) e
  simp only [Nat.mul_comm y M, Nat.mul_comm Y M, Nat.mul_add_div h0, Nat.div_eq_of_lt hc, Nat.div_eq_of_lt hi, Nat.add_zero] at e1
  simp only [Nat.mul_comm y M, Nat.mul_comm Y M, Nat.mul_add_mod, Nat.mod_eq_of_lt hc, Nat.mod_eq_of_lt hi] at e2
  rcases h with h | h
  · exact h e1
  · exact h e2
theorem pos_lt {M T y c : Nat} (hc : c < M) (hy : y < T) : y * M + c < M * T := by
  have h1 : (y + 1) * M ≤ T * M := Nat.mul_le_mul_right _ hy
  rw [Nat.add_mul, Nat.one_mul] at h1
  rw [Nat.mul_comm M T]
  omega
/-- What the sky over a cell of a column is. -/
def SkyAs (M T : Nat) (S : Nat → Nat) (K : Nat → Int) : Prop := ∀ i y, i < M → y < T → (S (y * M + i) = 15 ∧ ∀ t, y ≤ t → t < T → clearK (K (t * M + i)) = true) ∨ (S (y * M + i) = 0 ∧ ¬ ∀ t, y ≤ t → t < T → clearK (K (t * M + i)) = true)
theorem sky_as {W D T : Nat} (K : Nat → Int) : SkyAs (W * D) T (skyN W D T K) K := fun i y hi hy => by
  have hd : (y * (W * D) + i) / W / D = y := by
    rw [Nat.div_div_eq_div_mul, Nat.mul_comm y, Nat.mul_add_div (by omega), Nat.div_eq_of_lt hi, Nat.add_zero]
  have hlt : y * (W * D) + i < W * D * T := pos_lt hi hy
  have ho : openN W D T K (y * (W * D) + i) = true ↔ ∀ t, y ≤ t → t < T → clearK (K (t * (W * D) + i)) = true := by
    unfold openN
    rw [hd, List.all_eq_true]
    constructor
    · intro h t h1 h2
      have := h (t - y) (List.mem_range.2 (by omega))
      rw [show y * (W * D) + i + (t - y) * (W * D) = t * (W * D) + i by
        obtain ⟨d, rfl⟩ : ∃ d, t = y + d := ⟨t - y, by omega⟩
        rw [Nat.add_sub_cancel_left, Nat.add_mul]; omega] at this
      exact this
    · intro h t ht
      rw [List.mem_range] at ht
      have := h (y + t) (by omega) (by omega)
      rw [show (y + t) * (W * D) + i = y * (W * D) + i + t * (W * D) by rw [Nat.add_mul]; omega] at this
      exact this
  unfold skyN
  by_cases h : openN W D T K (y * (W * D) + i) = true
  · exact .inl ⟨if_pos ⟨hlt, h⟩, ho.1 h⟩
  · exact .inr ⟨if_neg (fun x => h x.2), fun x => h (ho.2 x)⟩
/-- Columns ahead of i are told; of column i what lies above y. -/
structure SkG (M T : Nat) (S : Nat → Nat) (K : Nat → Int) (i Y : Nat) (ls : List Int) : Prop where
  len : ls.length = M * T
  done : ∀ c y, c < i → c < M → y < T → ls.getD (y * M + c) 0 = (S (y * M + c) : Int)
  now : i < M → ∀ y, y < T → ls.getD (y * M + i) 0 = if Y ≤ y then 15 else 0
  clr : ∀ y, Y ≤ y → y < T → clearK (K (y * M + i)) = true
  rest : ∀ c y, i < c → c < M → y < T → ls.getD (y * M + c) 0 = 0
theorem SkG.start (M T : Nat) (S : Nat → Nat) (K : Nat → Int) {ls : List Int} {n : Nat} (hn : n = M * T) (h : Upto K n 0 ls) : SkG M T S K 0 T ls where
  len := h.len.trans hn
  done := fun c y hc => by omega
  now := fun _ y hy => by rw [if_neg (by omega)]; exact h.rest _ (Nat.zero_le _)
  clr := fun y h1 h2 => by omega
  rest := fun c y _ _ _ => h.rest _ (Nat.zero_le _)
theorem SkG.out {M T : Nat} {S : Nat → Nat} {K : Nat → Int} {i Y : Nat} {ls : List Int} (h : SkG M T S K i Y ls) (hS : SkyAs M T S K) (hi : i < M) (hY : Y = 0 ∨ (Y ≤ T ∧ 1 ≤ Y ∧ clearK (K ((Y - 1) * M + i)) = false)) : SkG M T S K (i + 1) T ls := by
  refine ⟨h.len, fun c y hc hc2 hy => ?_, fun h1 y hy => ?_, fun y h1 h2 => (by omega), fun c y h1 h2 h3 => h.rest c y (by omega) h2 h3⟩
  · by_cases e : c = i
    · subst e
      rw [h.now hi y hy]
      rcases hS c y hi hy with ⟨hs, ha⟩ | ⟨hs, ha⟩
      · rw [hs, if_pos]
        · rfl
        · rcases hY with h3 | ⟨h3, h5, h4⟩
          · omega
          · refine Nat.le_of_not_lt fun hlt => ?_
            have := ha (Y - 1) (by omega) (by omega)
            rw [h4] at this
            cases this
      · rw [hs, if_neg]
        · rfl
        · exact fun hle => ha fun t h1 h2 => h.clr t (by omega) h2
    · exact h.done c y (by omega) hc2 hy
  · rw [if_neg (by omega)]
    exact h.rest (i + 1) y (by omega) h1 hy
theorem SkG.down {M T : Nat} {S : Nat → Nat} {K : Nat → Int} {i Y : Nat} {ls : List Int} (h : SkG M T S K i (Y + 1) ls) (hi : i < M) (hY : Y < T) (hc : clearK (K (Y * M + i)) = true) : SkG M T S K i Y (ls.set (Y * M + i) 15) := by
  have hl : Y * M + i < ls.length := by rw [h.len]; exact pos_lt hi hY
  refine ⟨by rw [List.length_set, h.len], fun c y hc1 hc2 hy => ?_, fun _ y hy => ?_, fun y h1 h2 => ?_, fun c y h1 h2 h3 => ?_⟩
  · rw [C.getD_set_ne ls 15 (pos_ne hi hc2 (.inr (by omega)))]; exact h.done c y hc1 hc2 hy
  · by_cases e : y = Y
    · subst e
      rw [C.getD_set_self ls _ 15 hl, if_pos (Nat.le_refl _)]
    · rw [C.getD_set_ne ls 15 (pos_ne hi hi (.inl (fun q => e q.symm))), h.now hi y hy]
      by_cases h1 : Y + 1 ≤ y
      · rw [if_pos h1, if_pos (by omega)]
      · rw [if_neg h1, if_neg (by omega)]
  · by_cases e : y = Y
    · subst e; exact hc
    · exact h.clr y (by omega) h2
  · rw [C.getD_set_ne ls 15 (pos_ne hi h2 (.inr (by omega)))]; exact h.rest c y h1 h2 h3
/-- A field that is told through. -/
theorem SkG.all {M T : Nat} {S : Nat → Nat} {K : Nat → Int} {ls : List Int} (h : SkG M T S K M T ls) (hM : 0 < M) (i : Nat) (hi : i < M * T) : ls.getD i 0 = (S i : Int) := by
  have h1 := Nat.div_add_mod i M
  have h2 := h.done (i % M) (i / M) (Nat.mod_lt _ hM) (Nat.mod_lt _ hM) (Nat.div_lt_of_lt_mul hi)
  rw [Nat.mul_comm (i / M) M, h1] at h2
  exact h2
theorem col_nat {y i W D M T : Nat} (hM : W * D = M) (hi : i < M) (hy : y < T) (hW : W ≤ 48) (hD : D ≤ 48) (hT : T ≤ 128) : ∃ A B P : Nat, (y : Int) * (W : Int) = (A : Int) ∧ (A : Int) * (D : Int) = (B : Int) ∧ (B : Int) + (i : Int) = (P : Int) ∧ A ≤ 6096 ∧ B ≤ 292608 ∧ P ≤ 294911 ∧ P = y * M + i ∧ P < M * T := by
  have h1 : y * W ≤ 127 * 48 := Nat.mul_le_mul (by omega) hW
  have h2 : y * W * D ≤ 6096 * 48 := Nat.mul_le_mul h1 hD
  have h3 : W * D ≤ 48 * 48 := Nat.mul_le_mul hW hD
  have e : y * W * D = y * M := by rw [← hM, Nat.mul_assoc]
  refine ⟨y * W, y * W * D, y * W * D + i, by simp, by simp, by simp, h1, h2, by omega, by rw [e], ?_⟩
  rw [e]
  exact pos_lt hi hy
set_option maxHeartbeats 1000000 in
theorem rskyg_c (g kb n cap W D T : Nat) (ks : List Int) (w : World) (hbx : Bx W D T) (hF : Fd w g W D T (.slice (some ⟨kb, 0, none⟩) n cap)) (hK : Pre w kb 5 ks) (hn : n = W * D * T) (hl : ks.length = n) (hk : Kinds ks) :
    Calls Tryd.prog 24 #[.pointer (some ⟨g, 0, none⟩)] w fun e w' => ∃ g' ls, e = .returned (.slice (some ⟨g', 0, none⟩) n n) ∧ w.heap.size ≤ g' ∧ Blk w' g' 5 ls ∧ SkG (W * D) T (skyN W D T fun j => ks.getD j 0) (fun j => ks.getD j 0) (W * D) T ls ∧ Below w.heap.size w w' := by
  obtain ⟨Post, hPost⟩ : ∃ Post : Ending → World → Prop, Post = fun e w' => ∃ g' ls, e = .returned (.slice (some ⟨g', 0, none⟩) n n) ∧ w.heap.size ≤ g' ∧ Blk w' g' 5 ls ∧ SkG (W * D) T (skyN W D T fun j => ks.getD j 0) (fun j => ks.getD j 0) (W * D) T ls ∧ Below w.heap.size w w' := ⟨_, rfl⟩
  rw [← hPost]
  obtain ⟨S, hS⟩ : ∃ S, S = skyN W D T fun j => ks.getD j 0 := ⟨_, rfl⟩
  have hAs : SkyAs (W * D) T S (fun j => ks.getD j 0) := by rw [hS]; exact sky_as _
  rw [← hS] at hPost
  obtain ⟨M, hM⟩ : ∃ M, W * D = M := ⟨_, rfl⟩
  rw [hM] at hPost hAs hn
  have HP : Hid (∀ ls w', Blk w' w.heap.size 5 ls → SkG M T S (fun j => ks.getD j 0) M T ls → Below w.heap.size w w' → Post (.returned (.slice (some ⟨w.heap.size, 0, none⟩) n n)) w') := fun ls w' h1 h2 h3 => by rw [hPost]; exact ⟨_, ls, rfl, Nat.le_refl _, h1, h2, h3⟩
  have HAs : Hid (SkyAs M T S (fun j => ks.getD j 0)) := hAs
  obtain ⟨bw0, bw1, bd0, bd1, bt0, bt1⟩ := hbx
  have hMb : M ≤ 2304 := by rw [← hM]; exact Nat.mul_le_mul bw1 bd1
  have hnb : n ≤ 294912 := by rw [hn]; exact Nat.mul_le_mul hMb bt1
  clear hPost hS hAs
  have c3 := hF.c3
  have hmk := make_n n (by omega) w
  have HF : Hid (Fd w g W D T (.slice (some ⟨kb, 0, none⟩) n cap) ∧ Pre w kb 5 ks ∧ g < w.heap.size) := ⟨hF, hK, (Array.getElem?_eq_some_iff.1 hF).1⟩
  have HW : Hid (Blk (w.alloc (.cells (vals (List.replicate n 0)) 5)) w.heap.size 5 (List.replicate n 0) ∧ Below w.heap.size w (w.alloc (.cells (vals (List.replicate n 0)) 5))) := ⟨Blk.new w 5 _, (Below.refl _ _).alloc (Nat.le_refl _) _⟩
  have HU : Hid (SkG M T S (fun j => ks.getD j 0) 0 T (List.replicate n 0)) := SkG.start M T S _ hn (Upto.start _ n)
  have Hn : Hid (n = M * T ∧ W * D = M) := ⟨hn, hM⟩
  have hMi : (W : Int) * (D : Int) = (M : Int) := by rw [← hM]; simp
  clear hF hK hn hM
  generalize List.replicate n (0 : Int) = Z at *
  generalize w.alloc (.cells (vals Z) 5) = W1 at *
  go_enter Tryd.func24, Tryd.ntmps24
  go_wp2
  clear hmk c3
  go_loopw [4] (fun vi wr => ∃ i : Nat, i ≤ M ∧ vi = .int .i64 (i : Int) ∧ Hid (∃ ls, Blk wr w.heap.size 5 ls ∧ SkG M T S (fun j => ks.getD j 0) i T ls) ∧ Hid (Below w.heap.size w wr)) (fun vi _ => M - (intOf vi).toNat)
  case atStart => exact ⟨0, by omega, rfl, ⟨Z, HW.out.1, HU.out⟩, HW.out.2⟩
  case round =>
    clear HW HU
    obtain ⟨i, hi, rfl, HZ, HB⟩ := hrel
    go_wp2_with fail
    refine wp_region_since (by kernel_rfl) (by kernel_rfl) ?_
    have hsome := since_some wr
    have q0 := fun s : Since wr => Since.cell (HF.out.1.on HB.out).c0 s
    have q1 := fun s : Since wr => Since.cell (HF.out.1.on HB.out).c1 s
    repeat (go_big_quiet_step (fail))
    refine wpQuiet_nil ?_
    rintro _ ⟨s, rfl⟩
    have HB2 : Hid (Below w.heap.size w s.w) := HB.out.trans (s.bel.mono HB.out.size)
    have HZ2 : Hid (∃ ls, Blk s.w w.heap.size 5 ls ∧ SkG M T S (fun j => ks.getD j 0) i T ls) := by
      obtain ⟨ls, h1, h2⟩ := HZ.out
      exact ⟨ls, h1.below s.bel h1.lt, h2⟩
    generalize s.w = w2 at *
    clear hsome q0 q1 HB HZ
    by_cases hlt : i < M
    case neg =>
      obtain rfl : i = M := by omega
      obtain ⟨ls, h1, h2⟩ := HZ2.out
      have R := HP.out ls w2 h1 h2 HB2.out
      clear HZ2 HB2 HP h1 h2
      go_wp2
      exact R
    have hlt' : (i : Int) < (M : Int) := by omega
    have hd : decide ((i : Int) < (M : Int)) = true := decide_eq_true hlt'
    have c2 := (HF.out.1.on HB2.out).c2
    have hT1 : IntKind.i64.wrap ((T : Int) - 1) = (T : Int) - 1 := by rw [IntKind.wrap_i64]; omega
    go_wp2
    clear c2
    have hd2 : decide (i < M) = true := decide_eq_true hlt
    try rw [hd]
    try rw [hd2]
    clear hd hd2
    go_loopw [5] (fun vy wr => ∃ Y : Nat, Y ≤ T ∧ vy = .int .i64 ((Y : Int) - 1) ∧ Hid (∃ ls, Blk wr w.heap.size 5 ls ∧ SkG M T S (fun j => ks.getD j 0) i Y ls) ∧ Hid (Below w.heap.size w wr)) (fun vy _ => (intOf vy + 1).toNat)
    case atStart => exact ⟨T, by omega, rfl, HZ2, HB2⟩
    case round =>
      clear HZ2 HB2
      obtain ⟨Y, hY, rfl, HZ, HB⟩ := hrel
      by_cases hy0 : Y = 0
      case pos =>
        subst hy0
        have hge : ¬ (0 : Int) ≤ ((0 : Nat) : Int) - 1 := by omega
        have HZ3 : Hid (∃ ls, Blk wr w.heap.size 5 ls ∧ SkG M T S (fun j => ks.getD j 0) (i + 1) T ls) := by
          obtain ⟨ls, h1, h2⟩ := HZ.out
          exact ⟨ls, h1, h2.out HAs.out hlt (.inl rfl)⟩
        clear HP HZ
        go_wp2
        exact ⟨⟨i + 1, by omega, by simp, HZ3, HB⟩, by simp [intOf]; omega⟩
      obtain ⟨y, rfl⟩ : ∃ y, Y = y + 1 := ⟨Y - 1, by omega⟩
      have hy : ((y + 1 : Nat) : Int) - 1 = (y : Int) := by omega
      rw [hy]
      have hy' : (0 : Int) ≤ (y : Int) := by omega
      obtain ⟨A, B, P, m1, m2, m3, b1, b2, b3, hP, hPn⟩ := col_nat (y := y) (i := i) (T := T) Hn.out.2 hlt (by omega) bw1 bd1 bt1
      have hPb : P < n := by rw [Hn.out.1]; exact hPn
      have hPb' : (P : Int) < (n : Int) := by omega
      have u1 : IntKind.i64.wrap (A : Int) = (A : Int) := by rw [IntKind.wrap_i64]; omega
      have u2 : IntKind.i64.wrap (B : Int) = (B : Int) := by rw [IntKind.wrap_i64]; omega
      have u3 : IntKind.i64.wrap (P : Int) = (P : Int) := by rw [IntKind.wrap_i64]; omega
      have HPP : Hid (P = y * M + i ∧ P < n) := ⟨hP, hPb⟩
      clear hPn hP hPb
      go_wp2
      refine wp_region_since (by kernel_rfl) (by kernel_rfl) ?_
      have hsome := since_some wr
      have q0 := fun s : Since wr => Since.cell (HF.out.1.on HB.out).c0 s
      have q1 := fun s : Since wr => Since.cell (HF.out.1.on HB.out).c1 s
      repeat (go_big_quiet_step (fail))
      refine wpQuiet_nil ?_
      rintro _ ⟨s, rfl⟩
      have HB2 : Hid (Below w.heap.size w s.w) := HB.out.trans (s.bel.mono HB.out.size)
      have HZ2 : Hid (∃ ls, Blk s.w w.heap.size 5 ls ∧ SkG M T S (fun j => ks.getD j 0) i (y + 1) ls) := by
        obtain ⟨ls, h1, h2⟩ := HZ.out
        exact ⟨ls, h1.below s.bel h1.lt, h2⟩
      generalize s.w = w3 at *
      clear hsome q0 q1 HB HZ u1 u2 u3 m1 m2 m3
      have c3 := (HF.out.1.on HB2.out).c3
      have ck := (HF.out.2.1.below HB2.out HF.out.2.1.lt).cell (k := P) (by rw [hl]; exact HPP.out.2)
      obtain ⟨hk0, hk1⟩ := hk.at P
      have hcl := rclear_c (ks.getD P 0) ⟨hk0, hk1⟩
      obtain ⟨β, hβ⟩ : ∃ β, clearK (ks.getD P 0) = β := ⟨_, rfl⟩
      rw [hβ] at hcl
      have HO : Hid (clearK (ks.getD (y * M + i) 0) = β) := by show clearK _ = _; rw [← HPP.out.1]; exact hβ
      clear hβ
      generalize ks.getD P 0 = kk at ck hcl hk0 hk1
      go_wp2_with fail
      refine (hcl _).mono ?_
      rintro _ w5 ⟨rfl, hw⟩
      replace hw := hw.symm
      subst hw
      clear hcl
      rcases β with _ | _
      · have HZ3 : Hid (∃ ls, Blk w3 w.heap.size 5 ls ∧ SkG M T S (fun j => ks.getD j 0) (i + 1) T ls) := by
          obtain ⟨ls, h1, h2⟩ := HZ2.out
          exact ⟨ls, h1, h2.out HAs.out hlt (.inr ⟨by omega, by omega, HO.out⟩)⟩
        clear HP HZ2 HO c3 ck
        go_wp2
        exact ⟨⟨i + 1, by omega, by simp, HZ3, HB2⟩, by simp [intOf]; omega⟩
      · obtain ⟨ls, hB, hU⟩ := HZ2.out
        have cl := hB.cell (k := P) (by rw [hU.len, ← Hn.out.1]; exact HPP.out.2)
        have fl := hB.free P
        have HN : Hid ((∃ ls, Blk (w3.setCell ⟨w.heap.size, P, none⟩ (.int .u8 15)) w.heap.size 5 ls ∧ SkG M T S (fun j => ks.getD j 0) i y ls) ∧ Below w.heap.size w (w3.setCell ⟨w.heap.size, P, none⟩ (.int .u8 15))) :=
          ⟨⟨_, hB.set P 15, by rw [HPP.out.1]; exact hU.down hlt (by omega) HO.out⟩, HB2.out.setCell (p := ⟨w.heap.size, P, none⟩) (Nat.le_refl _) _⟩
        clear HP HZ2 HO hB hU HB2 c3 ck
        go_wp2
        exact ⟨⟨y, by omega, by simp, HN.out.1, HN.out.2⟩, by simp [intOf]⟩
end Go.Proofs.YtmfjmcaaoljjlaaDoor
