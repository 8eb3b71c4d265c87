/-
  The document's Sky, walked.
-/
import Derived.Test.YtjeapaojbkicmaaDoorLsky
set_option maxRecDepth 20000
namespace Go.Proofs.YtjeapaojbkicmaaDoor
open C Go.RowKit L

set_option maxHeartbeats 1000000 in
theorem rsky48_c (g kb n cap : Nat) (ks : List Int) (w : World) (hF : Fd w g 48 48 128 (.slice (some ⟨kb, 0, none⟩) n cap)) (hK : Pre w kb 5 ks) (hn : n = 294912) (hl : ks.length = 294912) (hk : Kinds ks) :
    Calls Tryd.prog 16 #[.pointer (some ⟨g, 0, none⟩)] w fun e w' => ∃ g' ls, e = .returned (.slice (some ⟨g', 0, none⟩) n n) ∧ w.heap.size ≤ g' ∧ Blk w' g' 5 ls ∧ Sk48 (fun j => ks.getD j 0) 2304 128 ls ∧ Below w.heap.size w w' := by
  obtain ⟨Post, hPost⟩ : ∃ Post : Ending → World → Prop, Post = fun e w' => ∃ g' ls, e = .returned (.slice (some ⟨g', 0, none⟩) n n) ∧ w.heap.size ≤ g' ∧ Blk w' g' 5 ls ∧ Sk48 (fun j => ks.getD j 0) 2304 128 ls ∧ Below w.heap.size w w' := ⟨_, rfl⟩
  rw [← hPost]
  have HP : Hid (∀ ls w', Blk w' w.heap.size 5 ls → Sk48 (fun j => ks.getD j 0) 2304 128 ls → Below w.heap.size w w' → Post (.returned (.slice (some ⟨w.heap.size, 0, none⟩) n n)) w') := fun ls w' h1 h2 h3 => by rw [hPost]; exact ⟨_, ls, rfl, Nat.le_refl _, h1, h2, h3⟩
  clear hPost
  have c3 := hF.c3
  have hmk := make_n n (by omega) w
  have HF : Hid (Fd w g 48 48 128 (.slice (some ⟨kb, 0, none⟩) n cap) ∧ Pre w kb 5 ks ∧ g < w.heap.size) := ⟨hF, hK, (Array.getElem?_eq_some_iff.1 hF).1⟩
  have HW : Hid (Blk (w.alloc (.cells (vals (List.replicate n 0)) 5)) w.heap.size 5 (List.replicate n 0) ∧ Below w.heap.size w (w.alloc (.cells (vals (List.replicate n 0)) 5))) := ⟨Blk.new w 5 _, (Below.refl _ _).alloc (Nat.le_refl _) _⟩
  have HU : Hid (Sk48 (fun j => ks.getD j 0) 0 128 (List.replicate n 0)) := Sk48.start _ (hn ▸ Upto.start _ n)
  have Hn : Hid (n = 294912) := hn
  clear hF hK hn
  generalize List.replicate n (0 : Int) = Z at *
  generalize w.alloc (.cells (vals Z) 5) = W1 at *
  go_enter Tryd.func16, Tryd.ntmps16
  go_wp2
  clear hmk c3
  go_loopw [4] (fun vi wr => ∃ i : Nat, i ≤ 2304 ∧ vi = .int .i64 (i : Int) ∧ Hid (∃ ls, Blk wr w.heap.size 5 ls ∧ Sk48 (fun j => ks.getD j 0) i 128 ls) ∧ Hid (Below w.heap.size w wr)) (fun vi _ => 2304 - (intOf vi).toNat)
  case atStart => exact ⟨0, by omega, rfl, ⟨Z, HW.out.1, HU.out⟩, HW.out.2⟩
  case round =>
    clear HW HU
    obtain ⟨i, hi, rfl, HZ, HB⟩ := hrel
    go_wp2_with fail
    refine wp_region_since (by kernel_rfl) (by kernel_rfl) ?_
    have hsome := since_some wr
    have q0 := fun s : Since wr => Since.cell (HF.out.1.on HB.out).c0 s
    have q1 := fun s : Since wr => Since.cell (HF.out.1.on HB.out).c1 s
    repeat (go_big_quiet_step (fail))
    refine wpQuiet_nil ?_
    rintro _ ⟨s, rfl⟩
    have HB2 : Hid (Below w.heap.size w s.w) := HB.out.trans (s.bel.mono HB.out.size)
    have HZ2 : Hid (∃ ls, Blk s.w w.heap.size 5 ls ∧ Sk48 (fun j => ks.getD j 0) i 128 ls) := by
      obtain ⟨ls, h1, h2⟩ := HZ.out
      exact ⟨ls, h1.below s.bel h1.lt, h2⟩
    generalize s.w = w2 at *
    clear hsome q0 q1 HB HZ
    by_cases hlt : i < 2304
    case neg =>
      obtain rfl : i = 2304 := by omega
      obtain ⟨ls, h1, h2⟩ := HZ2.out
      have R := HP.out ls w2 h1 h2 HB2.out
      clear HZ2 HB2 HP h1 h2
      go_wp2
      exact R
    have hlt' : (i : Int) < 2304 := by omega
    have hd : decide ((i : Int) < 2304) = true := decide_eq_true hlt'
    have c2 := (HF.out.1.on HB2.out).c2
    go_wp2
    clear c2
    try rw [hd]
    clear hd
    go_loopw [5] (fun vy wr => ∃ Y : Nat, Y ≤ 128 ∧ vy = .int .i64 ((Y : Int) - 1) ∧ Hid (∃ ls, Blk wr w.heap.size 5 ls ∧ Sk48 (fun j => ks.getD j 0) i Y ls) ∧ Hid (Below w.heap.size w wr)) (fun vy _ => (intOf vy + 1).toNat)
    case atStart => exact ⟨128, by omega, rfl, HZ2, HB2⟩
    case round =>
      clear HZ2 HB2
      obtain ⟨Y, hY, rfl, HZ, HB⟩ := hrel
      by_cases hy0 : Y = 0
      case pos =>
        subst hy0
        have hge : ¬ (0 : Int) ≤ ((0 : Nat) : Int) - 1 := by omega
        have HZ3 : Hid (∃ ls, Blk wr w.heap.size 5 ls ∧ Sk48 (fun j => ks.getD j 0) (i + 1) 128 ls) := by
          obtain ⟨ls, h1, h2⟩ := HZ.out
          exact ⟨ls, h1, h2.out hlt (.inl rfl)⟩
        clear HP HZ
        go_wp2
        exact ⟨⟨i + 1, by omega, by simp, HZ3, HB⟩, by simp [intOf]; omega⟩
      obtain ⟨y, rfl⟩ : ∃ y, Y = y + 1 := ⟨Y - 1, by omega⟩
      have hy : ((y + 1 : Nat) : Int) - 1 = (y : Int) := by omega
      rw [hy]
      have hy' : (0 : Int) ≤ (y : Int) := by omega
      obtain ⟨P, hP⟩ : ∃ P : Nat, P = y * 2304 + i := ⟨_, rfl⟩
      have hPb : P < 294912 := by omega
      have hPb' : (P : Int) < (n : Int) := by have := Hn.out; omega
      have u1 : IntKind.i64.wrap ((y : Int) * 48) = (y : Int) * 48 := by rw [IntKind.wrap_i64]; omega
      have u2 : IntKind.i64.wrap ((y : Int) * 48 * 48) = (y : Int) * 48 * 48 := by rw [IntKind.wrap_i64]; omega
      have u3 : IntKind.i64.wrap ((y : Int) * 48 * 48 + (i : Int)) = (P : Int) := by rw [IntKind.wrap_i64]; omega
      go_wp2
      refine wp_region_since (by kernel_rfl) (by kernel_rfl) ?_
      have hsome := since_some wr
      have q0 := fun s : Since wr => Since.cell (HF.out.1.on HB.out).c0 s
      have q1 := fun s : Since wr => Since.cell (HF.out.1.on HB.out).c1 s
      repeat (go_big_quiet_step (fail))
      refine wpQuiet_nil ?_
      rintro _ ⟨s, rfl⟩
      have HB2 : Hid (Below w.heap.size w s.w) := HB.out.trans (s.bel.mono HB.out.size)
      have HZ2 : Hid (∃ ls, Blk s.w w.heap.size 5 ls ∧ Sk48 (fun j => ks.getD j 0) i (y + 1) ls) := by
        obtain ⟨ls, h1, h2⟩ := HZ.out
        exact ⟨ls, h1.below s.bel h1.lt, h2⟩
      generalize s.w = w3 at *
      clear hsome q0 q1 HB HZ u1 u2 u3
      rw [show (y : Int) * 2304 + (i : Int) = (P : Int) by omega]
      have c3 := (HF.out.1.on HB2.out).c3
      have ck := (HF.out.2.1.below HB2.out HF.out.2.1.lt).cell (k := P) (by rw [hl]; exact hPb)
      obtain ⟨hk0, hk1⟩ := hk.at P
      have hcl := rclear_c (ks.getD P 0) ⟨hk0, hk1⟩
      obtain ⟨β, hβ⟩ : ∃ β, clearK (ks.getD P 0) = β := ⟨_, rfl⟩
      rw [hβ] at hcl
      have HO : Hid (clearK (ks.getD (y * 2304 + i) 0) = β) := by show clearK _ = _; rw [← hP]; exact hβ
      have HPP : Hid (P = y * 2304 + i ∧ P < 294912) := ⟨hP, hPb⟩
      clear hβ hP hPb
      generalize ks.getD P 0 = kk at ck hcl hk0 hk1
      go_wp2_with fail
      refine (hcl _).mono ?_
      rintro _ w5 ⟨rfl, hw⟩
      replace hw := hw.symm
      subst hw
      clear hcl
      rcases β with _ | _
      · have HZ3 : Hid (∃ ls, Blk w3 w.heap.size 5 ls ∧ Sk48 (fun j => ks.getD j 0) (i + 1) 128 ls) := by
          obtain ⟨ls, h1, h2⟩ := HZ2.out
          exact ⟨ls, h1, h2.out hlt (.inr ⟨by omega, by omega, HO.out⟩)⟩
        clear HP HZ2 HO c3 ck
        go_wp2
        exact ⟨⟨i + 1, by omega, by simp, HZ3, HB2⟩, by simp [intOf]; omega⟩
      · obtain ⟨ls, hB, hU⟩ := HZ2.out
        have cl := hB.cell (k := P) (by rw [hU.len]; exact HPP.out.2)
        have fl := hB.free P
        have HN : Hid ((∃ ls, Blk (w3.setCell ⟨w.heap.size, P, none⟩ (.int .u8 15)) w.heap.size 5 ls ∧ Sk48 (fun j => ks.getD j 0) i y ls) ∧ Below w.heap.size w (w3.setCell ⟨w.heap.size, P, none⟩ (.int .u8 15))) :=
          ⟨⟨_, hB.set P 15, by rw [HPP.out.1]; exact hU.down hlt (by omega) HO.out⟩, HB2.out.setCell (p := ⟨w.heap.size, P, none⟩) (Nat.le_refl _) _⟩
        clear HP HZ2 HO hB hU HB2 c3 ck
        go_wp2
        exact ⟨⟨y, by omega, by simp, HN.out.1, HN.out.2⟩, by simp [intOf]⟩
set_option maxHeartbeats 1000000 in
theorem rsky16_c (g kb n cap : Nat) (ks : List Int) (w : World) (hF : Fd w g 16 16 128 (.slice (some ⟨kb, 0, none⟩) n cap)) (hK : Pre w kb 5 ks) (hn : n = 32768) (hl : ks.length = 32768) (hk : Kinds ks) :
    Calls Tryd.prog 16 #[.pointer (some ⟨g, 0, none⟩)] w fun e w' => ∃ g' ls, e = .returned (.slice (some ⟨g', 0, none⟩) n n) ∧ w.heap.size ≤ g' ∧ Blk w' g' 5 ls ∧ Sk16 (fun j => ks.getD j 0) 256 128 ls ∧ Below w.heap.size w w' := by
  obtain ⟨Post, hPost⟩ : ∃ Post : Ending → World → Prop, Post = fun e w' => ∃ g' ls, e = .returned (.slice (some ⟨g', 0, none⟩) n n) ∧ w.heap.size ≤ g' ∧ Blk w' g' 5 ls ∧ Sk16 (fun j => ks.getD j 0) 256 128 ls ∧ Below w.heap.size w w' := ⟨_, rfl⟩
  rw [← hPost]
  have HP : Hid (∀ ls w', Blk w' w.heap.size 5 ls → Sk16 (fun j => ks.getD j 0) 256 128 ls → Below w.heap.size w w' → Post (.returned (.slice (some ⟨w.heap.size, 0, none⟩) n n)) w') := fun ls w' h1 h2 h3 => by rw [hPost]; exact ⟨_, ls, rfl, Nat.le_refl _, h1, h2, h3⟩
  clear hPost
  have c3 := hF.c3
  have hmk := make_n n (by omega) w
  have HF : Hid (Fd w g 16 16 128 (.slice (some ⟨kb, 0, none⟩) n cap) ∧ Pre w kb 5 ks ∧ g < w.heap.size) := ⟨hF, hK, (Array.getElem?_eq_some_iff.1 hF).1⟩
  have HW : Hid (Blk (w.alloc (.cells (vals (List.replicate n 0)) 5)) w.heap.size 5 (List.replicate n 0) ∧ Below w.heap.size w (w.alloc (.cells (vals (List.replicate n 0)) 5))) := ⟨Blk.new w 5 _, (Below.refl _ _).alloc (Nat.le_refl _) _⟩
  have HU : Hid (Sk16 (fun j => ks.getD j 0) 0 128 (List.replicate n 0)) := Sk16.start _ (hn ▸ Upto.start _ n)
  have Hn : Hid (n = 32768) := hn
  clear hF hK hn
  generalize List.replicate n (0 : Int) = Z at *
  generalize w.alloc (.cells (vals Z) 5) = W1 at *
  go_enter Tryd.func16, Tryd.ntmps16
  go_wp2
  clear hmk c3
  go_loopw [4] (fun vi wr => ∃ i : Nat, i ≤ 256 ∧ vi = .int .i64 (i : Int) ∧ Hid (∃ ls, Blk wr w.heap.size 5 ls ∧ Sk16 (fun j => ks.getD j 0) i 128 ls) ∧ Hid (Below w.heap.size w wr)) (fun vi _ => 256 - (intOf vi).toNat)
  case atStart => exact ⟨0, by omega, rfl, ⟨Z, HW.out.1, HU.out⟩, HW.out.2⟩
  case round =>
    clear HW HU
    obtain ⟨i, hi, rfl, HZ, HB⟩ := hrel
    go_wp2_with fail
    refine wp_region_since (by kernel_rfl) (by kernel_rfl) ?_
    have hsome := since_some wr
    have q0 := fun s : Since wr => Since.cell (HF.out.1.on HB.out).c0 s
    have q1 := fun s : Since wr => Since.cell (HF.out.1.on HB.out).c1 s
    repeat (go_big_quiet_step (fail))
    refine wpQuiet_nil ?_
    rintro _ ⟨s, rfl⟩
    have HB2 : Hid (Below w.heap.size w s.w) := HB.out.trans (s.bel.mono HB.out.size)
    have HZ2 : Hid (∃ ls, Blk s.w w.heap.size 5 ls ∧ Sk16 (fun j => ks.getD j 0) i 128 ls) := by
      obtain ⟨ls, h1, h2⟩ := HZ.out
      exact ⟨ls, h1.below s.bel h1.lt, h2⟩
    generalize s.w = w2 at *
    clear hsome q0 q1 HB HZ
    by_cases hlt : i < 256
    case neg =>
      obtain rfl : i = 256 := by omega
      obtain ⟨ls, h1, h2⟩ := HZ2.out
      have R := HP.out ls w2 h1 h2 HB2.out
      clear HZ2 HB2 HP h1 h2
      go_wp2
      exact R
    have hlt' : (i : Int) < 256 := by omega
    have hd : decide ((i : Int) < 256) = true := decide_eq_true hlt'
    have c2 := (HF.out.1.on HB2.out).c2
    go_wp2
    clear c2
    try rw [hd]
    clear hd
    go_loopw [5] (fun vy wr => ∃ Y : Nat, Y ≤ 128 ∧ vy = .int .i64 ((Y : Int) - 1) ∧ Hid (∃ ls, Blk wr w.heap.size 5 ls ∧ Sk16 (fun j => ks.getD j 0) i Y ls) ∧ Hid (Below w.heap.size w wr)) (fun vy _ => (intOf vy + 1).toNat)
    case atStart => exact ⟨128, by omega, rfl, HZ2, HB2⟩
    case round =>
      clear HZ2 HB2
      obtain ⟨Y, hY, rfl, HZ, HB⟩ := hrel
      by_cases hy0 : Y = 0
      case pos =>
        subst hy0
        have hge : ¬ (0 : Int) ≤ ((0 : Nat) : Int) - 1 := by omega
        have HZ3 : Hid (∃ ls, Blk wr w.heap.size 5 ls ∧ Sk16 (fun j => ks.getD j 0) (i + 1) 128 ls) := by
          obtain ⟨ls, h1, h2⟩ := HZ.out
          exact ⟨ls, h1, h2.out hlt (.inl rfl)⟩
        clear HP HZ
        go_wp2
        exact ⟨⟨i + 1, by omega, by simp, HZ3, HB⟩, by simp [intOf]; omega⟩
      obtain ⟨y, rfl⟩ : ∃ y, Y = y + 1 := ⟨Y - 1, by omega⟩
      have hy : ((y + 1 : Nat) : Int) - 1 = (y : Int) := by omega
      rw [hy]
      have hy' : (0 : Int) ≤ (y : Int) := by omega
      obtain ⟨P, hP⟩ : ∃ P : Nat, P = y * 256 + i := ⟨_, rfl⟩
      have hPb : P < 32768 := by omega
      have hPb' : (P : Int) < (n : Int) := by have := Hn.out; omega
      have u1 : IntKind.i64.wrap ((y : Int) * 16) = (y : Int) * 16 := by rw [IntKind.wrap_i64]; omega
      have u2 : IntKind.i64.wrap ((y : Int) * 16 * 16) = (y : Int) * 16 * 16 := by rw [IntKind.wrap_i64]; omega
      have u3 : IntKind.i64.wrap ((y : Int) * 16 * 16 + (i : Int)) = (P : Int) := by rw [IntKind.wrap_i64]; omega
      go_wp2
      refine wp_region_since (by kernel_rfl) (by kernel_rfl) ?_
      have hsome := since_some wr
      have q0 := fun s : Since wr => Since.cell (HF.out.1.on HB.out).c0 s
      have q1 := fun s : Since wr => Since.cell (HF.out.1.on HB.out).c1 s
      repeat (go_big_quiet_step (fail))
      refine wpQuiet_nil ?_
      rintro _ ⟨s, rfl⟩
      have HB2 : Hid (Below w.heap.size w s.w) := HB.out.trans (s.bel.mono HB.out.size)
      have HZ2 : Hid (∃ ls, Blk s.w w.heap.size 5 ls ∧ Sk16 (fun j => ks.getD j 0) i (y + 1) ls) := by
        obtain ⟨ls, h1, h2⟩ := HZ.out
        exact ⟨ls, h1.below s.bel h1.lt, h2⟩
      generalize s.w = w3 at *
      clear hsome q0 q1 HB HZ u1 u2 u3
      rw [show (y : Int) * 256 + (i : Int) = (P : Int) by omega]
      have c3 := (HF.out.1.on HB2.out).c3
      have ck := (HF.out.2.1.below HB2.out HF.out.2.1.lt).cell (k := P) (by rw [hl]; exact hPb)
      obtain ⟨hk0, hk1⟩ := hk.at P
      have hcl := rclear_c (ks.getD P 0) ⟨hk0, hk1⟩
      obtain ⟨β, hβ⟩ : ∃ β, clearK (ks.getD P 0) = β := ⟨_, rfl⟩
      rw [hβ] at hcl
      have HO : Hid (clearK (ks.getD (y * 256 + i) 0) = β) := by show clearK _ = _; rw [← hP]; exact hβ
      have HPP : Hid (P = y * 256 + i ∧ P < 32768) := ⟨hP, hPb⟩
      clear hβ hP hPb
      generalize ks.getD P 0 = kk at ck hcl hk0 hk1
      go_wp2_with fail
      refine (hcl _).mono ?_
      rintro _ w5 ⟨rfl, hw⟩
      replace hw := hw.symm
      subst hw
      clear hcl
      rcases β with _ | _
      · have HZ3 : Hid (∃ ls, Blk w3 w.heap.size 5 ls ∧ Sk16 (fun j => ks.getD j 0) (i + 1) 128 ls) := by
          obtain ⟨ls, h1, h2⟩ := HZ2.out
          exact ⟨ls, h1, h2.out hlt (.inr ⟨by omega, by omega, HO.out⟩)⟩
        clear HP HZ2 HO c3 ck
        go_wp2
        exact ⟨⟨i + 1, by omega, by simp, HZ3, HB2⟩, by simp [intOf]; omega⟩
      · obtain ⟨ls, hB, hU⟩ := HZ2.out
        have cl := hB.cell (k := P) (by rw [hU.len]; exact HPP.out.2)
        have fl := hB.free P
        have HN : Hid ((∃ ls, Blk (w3.setCell ⟨w.heap.size, P, none⟩ (.int .u8 15)) w.heap.size 5 ls ∧ Sk16 (fun j => ks.getD j 0) i y ls) ∧ Below w.heap.size w (w3.setCell ⟨w.heap.size, P, none⟩ (.int .u8 15))) :=
          ⟨⟨_, hB.set P 15, by rw [HPP.out.1]; exact hU.down hlt (by omega) HO.out⟩, HB2.out.setCell (p := ⟨w.heap.size, P, none⟩) (Nat.le_refl _) _⟩
        clear HP HZ2 HO hB hU HB2 c3 ck
        go_wp2
        exact ⟨⟨y, by omega, by simp, HN.out.1, HN.out.2⟩, by simp [intOf]⟩
end Go.Proofs.YtjeapaojbkicmaaDoor
