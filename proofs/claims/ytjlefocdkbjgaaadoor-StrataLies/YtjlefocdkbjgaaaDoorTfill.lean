/-
  The landed strata: all, Fill; what is asked of a strata package, of the landed one.
-/
import Derived.Test.YtjlefocdkbjgaaaDoorTsoil
set_option maxRecDepth 20000
namespace Go.Proofs.YtjlefocdkbjgaaaDoor
open C Go.RowKit

/-- What all answers. -/
def AllSay (b : Bool) (w : World) (e : Ending) (w' : World) : Prop := e = .returned (.bool b) ∧ w' = w
theorem ent17 (X : Value) (w : World) : (callFunc 17 #[X]).run Tryd.prog w = .ok (.enter 17 #[X]) w := by kernel_rfl
theorem ent18 (X : Value) (w : World) : (callFunc 18 #[X]).run Tryd.prog w = .ok (.enter 18 #[X]) w := by kernel_rfl
set_option maxHeartbeats 1000000 in
theorem all_c (f : Nat) (p : Int → Bool) (hent : ∀ X w, (callFunc f #[X]).run Tryd.prog w = .ok (.enter f #[X]) w)
    (hf : ∀ y w, Calls Tryd.prog f #[.int .i64 y] w fun e w' => e = .returned (.bool (p y)) ∧ w' = w)
    (a : Option Addr) (n c : Nat) (xs : List Int) (b : Bool) (w : World) (hX : IntsAt w a n xs) (hn : n ≤ 256) (hb : b = true ↔ n = 256 ∧ ∀ i, i < 256 → p (xs.getD i 0) = true) :
    Calls Tryd.prog 21 #[.slice a n c, .func (.func f) #[] #[]] w (AllSay b w) := by
  obtain ⟨Post, hPost⟩ : ∃ Post, Post = AllSay b w := ⟨_, rfl⟩
  rw [← hPost]
  have HP : Hid (Post (.returned (.bool b)) w) := by show Post _ _; rw [hPost]; exact ⟨rfl, rfl⟩
  clear hPost
  by_cases hn1 : n = 256
  case neg =>
    have hn2 : ((n : Int) == 256) = false := by simp; omega
    obtain rfl : b = false := by
      rcases b with _ | _
      · rfl
      · exact absurd (hb.1 rfl).1 hn1
    have R := HP.out
    clear HP hb hX hf hent
    go_enter Tryd.func21, Tryd.ntmps21
    go_wp2
    exact R
  subst hn1
  obtain ⟨g, o, rfl⟩ := hX.some (by omega)
  have HX : Hid (IntsAt w (some ⟨g, o, none⟩) 256 xs) := hX
  have Hb : Hid (b = true ↔ ∀ i, i < 256 → p (xs.getD i 0) = true) := ⟨fun h => (hb.1 h).2, fun h => hb.2 ⟨rfl, h⟩⟩
  have Hf : Hid (∀ y w, Calls Tryd.prog f #[.int .i64 y] w fun e w' => e = .returned (.bool (p y)) ∧ w' = w) := hf
  clear hX hb hn hf
  go_enter Tryd.func21, Tryd.ntmps21
  go_wp2
  go_loop [12] (fun y => ∃ (I : Nat), y = .int .i64 (I : Int) ∧ I ≤ 256 ∧ Hid (∀ i, i < I → p (xs.getD i 0) = true)) (fun y => 256 - (intOf y).toNat)
  case atStart => exact ⟨0, rfl, by omega, fun i hi => by omega⟩
  case round =>
    obtain ⟨I, rfl, hI, HI⟩ := hrel
    by_cases hlt : I < 256
    · have hlt' : (I : Int) < 256 := by omega
      have c0 := HX.out.at I hlt
      obtain ⟨x, hx⟩ : ∃ x, xs.getD I 0 = x := ⟨_, rfl⟩
      rw [hx] at c0
      have hcal := Hf.out x w
      have hen := hent (.int .i64 x) w
      rcases hpx : p x with _ | _
      · rw [hpx] at hcal
        obtain rfl : b = false := by
          rcases b with _ | _
          · rfl
          · have := Hb.out.1 rfl I hlt
            rw [hx, hpx] at this
            cases this
        have R := HP.out
        clear HP Hb HI hx hpx hent
        have Hc : Hid (Calls Tryd.prog f #[.int .i64 x] w fun e w' => e = .returned (.bool false) ∧ w' = w) := hcal
        clear hcal
        go_wp2_with fail
        refine Hc.out.mono ?_
        rintro _ w1 ⟨rfl, hw⟩
        replace hw := hw.symm
        subst hw
        go_wp2
        exact R
      · rw [hpx] at hcal
        have HI2 : Hid (∀ i, i < I + 1 → p (xs.getD i 0) = true) := fun i hi => by
          by_cases e : i = I
          · rw [e, hx]; exact hpx
          · exact HI.out i (by omega)
        clear HI hx hpx hent
        have Hc : Hid (Calls Tryd.prog f #[.int .i64 x] w fun e w' => e = .returned (.bool true) ∧ w' = w) := hcal
        clear hcal
        go_wp2_with fail
        refine Hc.out.mono ?_
        rintro _ w1 ⟨rfl, hw⟩
        replace hw := hw.symm
        subst hw
        go_wp2
        exact ⟨⟨I + 1, by simp, by omega, HI2⟩, by simp [intOf]; omega⟩
    · have hge : ¬ (I : Int) < 256 := by omega
      obtain rfl : b = true := Hb.out.2 fun i hi => HI.out i (by omega)
      have R := HP.out
      clear HP Hb HI hent
      go_wp2
      exact R
def tallB (y : Int) : Bool := decide (0 ≤ y ∧ y < 128)
def bandB (y : Int) : Bool := decide (0 ≤ y ∧ y < 4)
theorem tallB_iff (y : Int) : tallB y = true ↔ 0 ≤ y ∧ y ≤ 127 := by unfold tallB; rw [decide_eq_true_iff]; omega
theorem bandB_iff (y : Int) : bandB y = true ↔ 0 ≤ y ∧ y ≤ 3 := by unfold bandB; rw [decide_eq_true_iff]; omega
/-- What Fill answers. -/
def FillSay (H B : List Int) (w : World) (e : Ending) (w' : World) : Prop :=
  Below w.heap.size w w' ∧ (okCols H B → ∃ g, e = .returned (.tuple #[.pointer (some ⟨g, 0, none⟩), .int .i64 0]) ∧ Blk w' g 56 (fillN H B)) ∧ (¬ okCols H B → e = .returned (.tuple #[.pointer none, .int .i64 1]))
/-- The chunk on the way: its first J cells are laid. -/
def Lays (H B : List Int) (w : World) (g J : Nat) (wr : World) : Prop := ∃ zs : List Int, Blk wr g 56 zs ∧ zs.length = 32768 ∧ (∀ j, j < J → zs.getD j 0 = (fillN H B).getD j 0) ∧ Below w.heap.size w wr
theorem Lays.fill {H B : List Int} {w wr : World} {g : Nat} (h : Lays H B w g 32768 wr) : Blk wr g 56 (fillN H B) := by
  obtain ⟨zs, h1, h2, h3, _⟩ := h
  have e : zs = fillN H B := getD_ext (by rw [h2, fillN_len]) (fun j hj => h3 j (by omega))
  rw [← e]
  exact h1
theorem setC_in {cs : List Int} {i k : Int} (h : 0 ≤ i ∧ i < 32768 ∧ 0 ≤ k ∧ k ≤ 16) : setC cs i k = cs.set i.toNat k := (okSet_yes h cs).2
set_option maxRecDepth 100000 in
set_option maxHeartbeats 2000000 in
theorem fill_c (a a' : Option Addr) (n n' c c' : Nat) (H B : List Int) (w : World) (hH : IntsAt w a n H) (hB : IntsAt w a' n' B) (hn : n ≤ 256) (hn' : n' ≤ 256) (hT : Tab w) :
    Calls Tryd.prog 11 #[.slice a n c, .slice a' n' c'] w (FillSay H B w) := by
  obtain ⟨Post, hPost⟩ : ∃ Post : Ending → World → Prop, Post = FillSay H B w := ⟨_, rfl⟩
  rw [← hPost]
  have HP : Hid (∀ e w', FillSay H B w e w' → Post e w') := fun e w' h => by rw [hPost]; exact h
  clear hPost
  have hl := hH.len
  have hl' := hB.len
  have tc : ∀ y w, Calls Tryd.prog 17 #[.int .i64 y] w fun e w' => e = .returned (.bool (tallB y)) ∧ w' = w := fun y w => tall_c y _ rfl w
  have bc : ∀ y w, Calls Tryd.prog 18 #[.int .i64 y] w fun e w' => e = .returned (.bool (bandB y)) ∧ w' = w := fun y w => banded_c y _ rfl w
  by_cases hk1 : n = 256 ∧ ∀ i, i < 256 → tallB (H.getD i 0) = true
  case neg =>
    have a1 := all_c 17 tallB ent17 tc a n c H false w hH hn ⟨(fun h => by cases h), fun h => absurd h hk1⟩
    have R := HP.out _ _ (show FillSay H B w (.returned (.tuple #[.pointer none, .int .i64 1])) w from ⟨Below.refl _ _, fun h => absurd ⟨by rw [← hl]; exact h.1, fun i hi => (tallB_iff _).2 (h.2.2 i hi).1⟩ hk1, fun _ => rfl⟩)
    clear HP hl hl' hH hB tc bc hk1 hT
    go_enter Tryd.func11, Tryd.ntmps11
    go_wp2_with fail
    refine a1.mono ?_
    clear a1
    rintro _ w1 ⟨rfl, hw⟩
    replace hw := hw.symm
    subst hw
    go_wp2
    exact R
  have a1 := all_c 17 tallB ent17 tc a n c H true w hH hn ⟨fun _ => hk1, fun _ => rfl⟩
  by_cases hk2 : n' = 256 ∧ ∀ i, i < 256 → bandB (B.getD i 0) = true
  case neg =>
    have a2 := all_c 18 bandB ent18 bc a' n' c' B false w hB hn' ⟨(fun h => by cases h), fun h => absurd h hk2⟩
    have R := HP.out _ _ (show FillSay H B w (.returned (.tuple #[.pointer none, .int .i64 1])) w from ⟨Below.refl _ _, fun h => absurd ⟨by rw [← hl']; exact h.2.1, fun i hi => (bandB_iff _).2 (h.2.2 i hi).2⟩ hk2, fun _ => rfl⟩)
    clear HP hl hl' hH hB tc bc hk1 hk2 hT
    go_enter Tryd.func11, Tryd.ntmps11
    go_wp2_with fail
    refine a1.mono ?_
    clear a1
    rintro _ w1 ⟨rfl, hw⟩
    replace hw := hw.symm
    subst hw
    go_wp2_with fail
    refine a2.mono ?_
    clear a2
    rintro _ w1 ⟨rfl, hw⟩
    replace hw := hw.symm
    subst hw
    go_wp2
    exact R
  have a2 := all_c 18 bandB ent18 bc a' n' c' B true w hB hn' ⟨fun _ => hk2, fun _ => rfl⟩
  obtain ⟨rfl, hk1⟩ := hk1
  obtain ⟨rfl, hk2⟩ := hk2
  have HO : Hid (okCols H B) := ⟨hl, hl', fun i hi => ⟨(tallB_iff _).1 (hk1 i hi), (bandB_iff _).1 (hk2 i hi)⟩⟩
  obtain ⟨b, o, rfl⟩ := hH.some (by omega)
  obtain ⟨b', o', rfl⟩ := hB.some (by omega)
  have HH : Hid (IntsAt w (some ⟨b, o, none⟩) 256 H) := hH
  have HB : Hid (IntsAt w (some ⟨b', o', none⟩) 256 B) := hB
  have HT : Hid (Tab w) := hT
  clear hH hB hl hl' hn hn' tc bc hk1 hk2 hT
  go_enter Tryd.func11, Tryd.ntmps11
  go_wp2_with fail
  refine a1.mono ?_
  clear a1
  rintro _ w1 ⟨rfl, hw⟩
  replace hw := hw.symm
  subst hw
  go_wp2_with fail
  refine a2.mono ?_
  clear a2
  rintro _ w1 ⟨rfl, hw⟩
  replace hw := hw.symm
  subst hw
  have hnew := new_c w
  obtain ⟨Z, hZe⟩ : ∃ Z, Z = List.replicate 32768 (0 : Int) := ⟨_, rfl⟩
  have hZ : Z.length = 32768 := by rw [hZe, List.length_replicate]
  rw [← hZe] at hnew
  clear hZe
  go_wp2_with fail
  refine hnew.mono ?_
  clear hnew
  rintro _ w1 ⟨rfl, hw⟩
  have HL : Hid (Lays H B w w.heap.size 0 w1) := ⟨Z, by rw [hw]; exact Blk.new w 56 Z, hZ, fun j hj => by omega, by rw [hw]; exact (Below.refl _ w).alloc (Nat.le_refl _) _⟩
  clear hw hZ
  go_wp2_with fail
  go_loopw [18] (fun y wr => ∃ (Y : Nat), y = .int .i64 (Y : Int) ∧ Y ≤ 128 ∧ Hid (Lays H B w w.heap.size (Y * 256) wr)) (fun y _ => 128 - (intOf y).toNat)
  case atStart => exact ⟨0, rfl, by omega, HL⟩
  case round =>
    clear HL
    obtain ⟨Y, rfl, hY, HY⟩ := hrel
    by_cases hlt : Y < 128
    · have hlt' : (Y : Int) < 128 := by omega
      obtain ⟨wq, hwq⟩ : ∃ wq, wq = wr := ⟨_, rfl⟩
      subst hwq
      go_wp2_with fail
      go_loopw [21] (fun y wr => ∃ (I : Nat), y = .int .i64 (I : Int) ∧ I ≤ 256 ∧ Hid (Lays H B w w.heap.size (Y * 256 + I) wr)) (fun y _ => 256 - (intOf y).toNat)
      case atStart => exact ⟨0, rfl, by omega, HY⟩
      case round =>
        clear HY
        obtain ⟨I, rfl, hI, HI⟩ := hrel
        by_cases hli : I < 256
        · have hli' : (I : Int) < 256 := by omega
          obtain ⟨zs, h1, h2, h3, h4⟩ := HI.out
          have hJ : Y * 256 + I < 32768 := by omega
          have HV : Hid ((fillN H B).getD (Y * 256 + I) 0 = atN (H.getD I 0) (B.getD I 0) (Y : Int)) := by
            show _ = _
            rw [fillN_at H B _ hJ, show (Y * 256 + I) % 256 = I by omega, show (Y * 256 + I) / 256 = Y by omega]
          go_wp2_with fail
          refine region_L (fun w' => Below w.heap.size w w') 16 (by kernel_rfl) ?_
          have hHeld : Below w.heap.size w wr.drew := h4.drew
          have hBl : Blk wr.drew w.heap.size 56 zs := h1
          clear HI h1 h4
          generalize wr.drew = va at *
          have hne : Nonempty (Sub (fun w' => Below w.heap.size w w')) := ⟨⟨_, hHeld⟩⟩
          have c0 : ∀ s : Sub (fun w' => Below w.heap.size w w'), s.w.cell? ⟨b, o + I, none⟩ = some (.int .i64 (H.getD I 0)) := fun s => cell_below (HH.out.at I hli) s.ok
          have c1 : ∀ s : Sub (fun w' => Below w.heap.size w w'), s.w.cell? ⟨b', o' + I, none⟩ = some (.int .i64 (B.getD I 0)) := fun s => cell_below (HB.out.at I hli) s.ok
          obtain ⟨P0, hP0⟩ : ∃ P0 : Int, P0 = (Y : Int) * 256 := ⟨_, rfl⟩
          have hw0 : IntKind.i64.wrap ((Y : Int) * 256) = P0 := by rw [IntKind.wrap_i64, hP0]; omega
          obtain ⟨P1, hP1⟩ : ∃ P1 : Int, P1 = P0 + (I : Int) := ⟨_, rfl⟩
          have hw1 : IntKind.i64.wrap (P0 + (I : Int)) = P1 := by rw [IntKind.wrap_i64, hP1, hP0]; omega
          have HP1 : Hid (P1 = ((Y * 256 + I : Nat) : Int)) := by show _ = _; rw [hP1, hP0]; omega
          clear hP0 hP1
          have hv := atN_bd (H.getD I 0) (B.getD I 0) (Y : Int)
          have hat := fun w => at_c (H.getD I 0) (B.getD I 0) (Y : Int) w
          generalize atN (H.getD I 0) (B.getD I 0) (Y : Int) = v at *
          generalize H.getD I 0 = x at *
          generalize B.getD I 0 = y at *
          have HZ : Hid (zs.length = 32768 ∧ (0 ≤ v ∧ v ≤ 15) ∧ ∀ j, j < Y * 256 + I → zs.getD j 0 = (fillN H B).getD j 0) := ⟨h2, hv, h3⟩
          have Hat : Hid (∀ w, Tab w → Calls Tryd.prog 8 #[.int .i64 x, .int .i64 y, .int .i64 (Y : Int)] w fun e w' => e = .returned (.int .i64 v) ∧ Below w.heap.size w w') := hat
          have HBl : Hid (Blk va w.heap.size 56 zs) := hBl
          clear h2 hv h3 hat hBl
          refine take_L (i := 0) rfl (by kernel_rfl) (by kernel_rfl) (by kernel_rfl) (by kernel_rfl) (fun _ _ _ _ h => h) (by exact hHeld) (fun K hK => ?_)
          go_simp
          refine hK _ ?_
          clear hK K
          refine take_L (i := 1) rfl (by kernel_rfl) (by kernel_rfl) (by kernel_rfl) (by kernel_rfl) (fun _ _ _ _ h => h) (by exact hHeld) (fun K hK => ?_)
          go_simp
          refine hK _ ?_
          clear hK K
          refine take_L (i := 2) rfl (by kernel_rfl) (by kernel_rfl) (by kernel_rfl) (by kernel_rfl) (fun _ _ _ _ h => h) (by exact hHeld) (fun K hK => ?_)
          go_simp
          refine hK _ ?_
          clear hK K
          refine take_L (i := 3) rfl (by kernel_rfl) (by kernel_rfl) (by kernel_rfl) (by kernel_rfl) (fun _ _ _ _ h => h) (by exact hHeld) (fun K hK => ?_)
          go_simp
          refine hK _ ?_
          clear hK K
          refine take_L (i := 4) rfl (by kernel_rfl) (by kernel_rfl) (by kernel_rfl) (by kernel_rfl) (fun _ _ _ _ h => h) (by exact hHeld) (fun K hK => ?_)
          go_simp
          refine hK _ ?_
          clear hK K
          refine take_L (i := 5) rfl (by kernel_rfl) (by kernel_rfl) (by kernel_rfl) (by kernel_rfl) (fun _ _ _ _ h => h) (by exact hHeld) (fun K hK => ?_)
          go_simp
          refine hK _ ?_
          clear hK K
          refine take_L (i := 6) rfl (by kernel_rfl) (by kernel_rfl) (by kernel_rfl) (by kernel_rfl) (fun _ _ _ _ h => h) (by exact hHeld) (fun K hK => ?_)
          go_simp
          refine hK _ ?_
          clear hK K
          refine take_L (i := 7) rfl (by kernel_rfl) (by kernel_rfl) (by kernel_rfl) (by kernel_rfl) (fun _ _ _ _ h => h) (by exact hHeld) (fun K hK => ?_)
          go_simp
          refine hK _ ?_
          clear hK K
          refine take_L (i := 8) rfl (by kernel_rfl) (by kernel_rfl) (by kernel_rfl) (by kernel_rfl) (fun _ _ _ _ h => h) (by exact hHeld) (fun K hK => ?_)
          go_simp
          refine hK _ ?_
          clear hK K
          refine take_L (i := 9) rfl (by kernel_rfl) (by kernel_rfl) (by kernel_rfl) (by kernel_rfl) (fun _ _ _ _ h => h) (by exact hHeld) (fun K hK => ?_)
          go_simp
          refine hK _ ?_
          clear hK K
          refine take_L (i := 10) rfl (by kernel_rfl) (by kernel_rfl) (by kernel_rfl) (by kernel_rfl) (fun _ _ _ _ h => h) (by exact hHeld) (fun K hK => ?_)
          go_simp
          refine hK _ ?_
          clear hK K
          refine take_L (i := 11) rfl (by kernel_rfl) (by kernel_rfl) (by kernel_rfl) (by kernel_rfl) (fun _ _ _ _ h => h) (by exact hHeld) (fun K hK => ?_)
          go_simp
          refine hK _ ?_
          clear hK K
          refine take_L (i := 12) rfl (by kernel_rfl) (by kernel_rfl) (by kernel_rfl) (by kernel_rfl) (fun _ _ _ _ h => h) (by exact hHeld) (fun K hK => ?_)
          go_simp
          refine hK _ ?_
          clear hK K
          refine take_L (i := 13) rfl (by kernel_rfl) (by kernel_rfl) (by kernel_rfl) (by kernel_rfl) (fun _ _ _ _ h => h) (by exact hHeld) (fun K hK => ?_)
          go_simp
          refine hK _ ?_
          clear hK K
          refine one_L (i := 14) (by kernel_rfl) rfl (fun K hK => ?_)
          go_simp
          refine (Hat.out va (HT.out.on hHeld)).mono ?_
          clear Hat
          rintro _ w2 ⟨rfl, hb2⟩
          have HBl2 : Hid (Blk w2 w.heap.size 56 zs) := HBl.out.below hb2 HBl.out.lt
          replace hHeld : Below w.heap.size w w2 := hHeld.trans (hb2.mono hHeld.size)
          refine hK.out _ _ (fun _ => hHeld) ?_
          clear hK K hb2 HBl
          have hset := set_c w.heap.size zs P1 v w2 HBl2.out HZ.out.1
          refine one_L (i := 15) (by kernel_rfl) rfl (fun K hK => ?_)
          go_simp
          refine hset.mono ?_
          clear hset
          rintro _ w3 ⟨rfl, hB3, ho3⟩
          have hHeld3 : Below w.heap.size w w3 := hHeld.trans ((ho3.below (Nat.le_refl _)).mono (by omega))
          have HL3 : Hid (Lays H B w w.heap.size (Y * 256 + (I + 1)) w3) := by
            have hin : 0 ≤ P1 ∧ P1 < 32768 ∧ 0 ≤ v ∧ v ≤ 16 := by have := HP1.out; have := HZ.out.2.1; omega
            rw [setC_in hin] at hB3
            have hp : P1.toNat = Y * 256 + I := by have := HP1.out; omega
            rw [hp] at hB3
            refine ⟨_, hB3, by rw [List.length_set]; exact HZ.out.1, fun j hj => ?_, hHeld3⟩
            rw [getD_set zs _ j _ (by have := HZ.out.1; omega)]
            by_cases e : Y * 256 + I = j
            · rw [if_pos e, ← e]; exact HV.out.symm
            · rw [if_neg e]; exact HZ.out.2.2 j (by omega)
          refine hK.out _ _ (fun _ => hHeld3) ?_
          clear hK K hB3 ho3 hHeld HBl2 HZ HV hHeld3 c0 c1 hne hw0 hw1 HP1
          refine done_L (by kernel_rfl) ?_ _
          go_wp2
          exact ⟨⟨I + 1, by simp, by omega, HL3⟩, by simp [intOf]; omega⟩
        · have hge : ¬ (I : Int) < 256 := by omega
          have HY2 : Hid (Lays H B w w.heap.size ((Y + 1) * 256) wr) := by
            have e : (Y + 1) * 256 = Y * 256 + I := by omega
            show Lays _ _ _ _ _ _
            rw [e]
            exact HI.out
          clear HI
          go_wp2
          exact ⟨⟨Y + 1, by simp, by omega, HY2⟩, by simp [intOf]; omega⟩
    · have hge : ¬ (Y : Int) < 128 := by omega
      have HL : Hid (Lays H B w w.heap.size 32768 wr) := by
        have e : 32768 = Y * 256 := by omega
        show Lays _ _ _ _ _ _
        rw [e]
        exact HY.out
      have R := HP.out _ _ (show FillSay H B w (.returned (.tuple #[.pointer (some ⟨w.heap.size, 0, none⟩), .int .i64 0])) wr from ⟨HL.out.choose_spec.2.2.2, fun _ => ⟨_, rfl, HL.out.fill⟩, fun h => absurd HO.out h⟩)
      clear HP HL HY
      go_wp2
      exact R

/-- What is asked of a strata package, of the landed one. -/
def tspec : TSpec where
  G := Tab
  on := fun h b => h.on b
  at_ := fun h b y w _ _ _ hT => at_c h b y w hT
  fill_ := fun a a' n n' c c' H B w hH hB hn hn' _ _ hT => fill_c a a' n n' c c' H B w hH hB hn hn' hT
end Go.Proofs.YtjlefocdkbjgaaaDoor
