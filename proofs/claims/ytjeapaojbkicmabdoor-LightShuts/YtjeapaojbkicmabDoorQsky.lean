/-
  The landed sky: the cells that it shines on straight from above.
-/
import Derived.Test.YtjeapaojbkicmabDoorQask
set_option maxRecDepth 20000
namespace Go.Proofs.YtjeapaojbkicmabDoor
open C Go.RowKit L

/-- A cell below the rim, and all above it, are clear. -/
def OpenP (ks : List Int) (p : Nat) : Prop := p < 322500 ∧ ∀ t, p + 2500 * t < 322500 → clearK (ks.getD (p + 2500 * t) 0) = true
def SkyT (ks ts : List Int) (p : Nat) : Prop := (ts.getD p 0 = 15 ∧ OpenP ks p) ∨ (ts.getD p 0 = 0 ∧ ¬ OpenP ks p)
/-- The first C columns are told. -/
structure SkyO (ks : List Int) (C : Nat) (ts : List Int) : Prop where
  len : ts.length = 325000
  told : ∀ p, p < 325000 → p % 2500 < C → SkyT ks ts p
  rest : ∀ p, p < 325000 → C ≤ p % 2500 → ts.getD p 0 = 0
/-- And so are the cells above A in column C. -/
structure SkyI (ks : List Int) (C A : Nat) (ts : List Int) : Prop where
  len : ts.length = 325000
  col : A % 2500 = C ∧ A < 322500
  told : ∀ p, p < 325000 → p % 2500 < C → SkyT ks ts p
  rest : ∀ p, p < 325000 → C < p % 2500 → ts.getD p 0 = 0
  up : ∀ p, p < 325000 → p % 2500 = C → A < p → SkyT ks ts p
  low : ∀ p, p % 2500 = C → p ≤ A → ts.getD p 0 = 0
  clear : ∀ q, q % 2500 = C → A < q → q < 322500 → clearK (ks.getD q 0) = true
theorem SkyO.start {ks ts : List Int} {C : Nat} (h : SkyO ks C ts) (hC : C < 2500) : SkyI ks C (320000 + C) ts where
  len := h.len
  col := by omega
  told := h.told
  rest p hp hc := h.rest p hp (by omega)
  up p hp hc hA := .inr ⟨h.rest p hp (by omega), fun ho => by have := ho.1; omega⟩
  low p hc hA := h.rest p (by omega) (by omega)
  clear q hc hA hq := by omega
theorem SkyT.set {ks ts : List Int} {p A : Nat} {v : Int} (h : SkyT ks ts p) (hne : p ≠ A) : SkyT ks (ts.set A v) p := by
  unfold SkyT
  rw [Go.Proofs.YtjeapaojbkicmabDoor.C.getD_set_ne ts _ (fun e => hne e.symm)]
  exact h
theorem SkyI.step {ks ts : List Int} {C A : Nat} (h : SkyI ks C A ts) (hA : 2500 ≤ A) (hc : clearK (ks.getD A 0) = true) : SkyI ks C (A - 2500) (ts.set A 15) := by
  obtain ⟨c1, c2⟩ := h.col
  refine ⟨by rw [List.length_set]; exact h.len, by omega, fun p hp hC => (h.told p hp hC).set (by omega), fun p hp hC => ?_, fun p hp hC hA2 => ?_, fun p hC hA2 => ?_, fun q hC hA2 hq => ?_⟩
  · rw [Go.Proofs.YtjeapaojbkicmabDoor.C.getD_set_ne ts _ (by omega)]; exact h.rest p hp hC
  · by_cases e : p = A
    · subst e
      left
      refine ⟨Go.Proofs.YtjeapaojbkicmabDoor.C.getD_set_self ts p _ (by rw [h.len]; exact hp), c2, fun t ht => ?_⟩
      by_cases h0 : t = 0
      · rw [h0, Nat.mul_zero, Nat.add_zero]; exact hc
      · exact h.clear _ (by omega) (by omega) ht
    · exact (h.up p hp hC (by omega)).set e
  · rw [Go.Proofs.YtjeapaojbkicmabDoor.C.getD_set_ne ts _ (by omega)]; exact h.low p hC (by omega)
  · by_cases e : q = A
    · rw [e]; exact hc
    · exact h.clear q hC (by omega) hq
theorem SkyI.stop {ks ts : List Int} {C A : Nat} (h : SkyI ks C A ts) (hc : clearK (ks.getD A 0) = false) : SkyO ks (C + 1) ts := by
  obtain ⟨c1, c2⟩ := h.col
  refine ⟨h.len, fun p hp hC => ?_, fun p hp hC => h.rest p hp (by omega)⟩
  by_cases e : p % 2500 = C
  · by_cases hA : A < p
    · exact h.up p hp e hA
    · refine .inr ⟨h.low p e (by omega), fun ho => ?_⟩
      have := ho.2 ((A - p) / 2500) (by omega)
      rw [show p + 2500 * ((A - p) / 2500) = A by omega, hc] at this
      cases this
  · exact h.told p hp (by omega)
structure SkyG (W0 : World) (gT : Nat) (P : List Int → Prop) (W : World) : Prop where
  blk : ∃ ts, Blk W gT 54 ts ∧ P ts
  bel : Below W0.heap.size W0 W
theorem SkyG.on {W0 W W' : World} {gT : Nat} {P : List Int → Prop} (h : SkyG W0 gT P W) (hb : Below W.heap.size W W') : SkyG W0 gT P W' := by
  obtain ⟨⟨ts, h1, h2⟩, h3⟩ := h
  exact ⟨⟨ts, h1.below hb h1.lt, h2⟩, h3.trans (hb.mono h3.size)⟩
set_option maxRecDepth 1000000 in
set_option maxHeartbeats 4000000 in
theorem sky_c (gk : Nat) (ks : List Int) (w : World) (hT : Tabs w) (hB : Blk w gk 54 ks) (hl : ks.length = 325000) (hk : Kinds ks) (hrim : ∀ p, p < 2500 → ks.getD p 0 = 16) :
    Calls Tryd.prog 18 #[.pointer (some ⟨gk, 0, none⟩)] w fun e w' => e = .returned (.pointer (some ⟨w.heap.size, 0, none⟩)) ∧ SkyG w w.heap.size (SkyO ks 2500) w' := by
  obtain ⟨Post, hPost⟩ : ∃ Post : Ending → World → Prop, Post = fun e w' => e = .returned (.pointer (some ⟨w.heap.size, 0, none⟩)) ∧ SkyG w w.heap.size (SkyO ks 2500) w' := ⟨_, rfl⟩
  rw [← hPost]
  have HP : Hid (∀ w', SkyG w w.heap.size (SkyO ks 2500) w' → Post (.returned (.pointer (some ⟨w.heap.size, 0, none⟩))) w') := fun w' h => by rw [hPost]; exact ⟨rfl, h⟩
  clear hPost
  have hzf := zero_field
  obtain ⟨Z, hZe⟩ : ∃ Z, Z = List.replicate 325000 (0 : Int) := ⟨_, rfl⟩
  have hZ0 : ∀ p, Z.getD p 0 = 0 := fun p => by rw [hZe, List.getD_eq_getElem?_getD, List.getElem?_replicate]; split <;> rfl
  have hZl : Z.length = 325000 := by rw [hZe, List.length_replicate]
  rw [← hZe] at hzf
  have hb0 : Below w.heap.size w (w.alloc (.cells (vals Z) 54)) := (Below.refl _ _).alloc (Nat.le_refl _) _
  obtain ⟨g, hg⟩ : ∃ g, w.heap.size = g := ⟨_, rfl⟩
  have H0 : Hid (SkyG w g (SkyO ks 0) (w.alloc (.cells (vals Z) 54))) := ⟨⟨Z, by rw [← hg]; exact Blk.new w 54 Z, hZl, fun p _ hc => absurd hc (Nat.not_lt_zero _), fun p _ _ => hZ0 p⟩, hb0⟩
  have HK : Hid (Blk w gk 54 ks ∧ ks.length = 325000 ∧ Kinds ks ∧ Tabs w ∧ (∀ p, p < 2500 → ks.getD p 0 = 16) ∧ w.heap.size = g) := ⟨hB, hl, hk, hT, hrim, hg⟩
  clear hZe hZ0 hZl hb0 hB hl hk hT hrim
  rw [hg] at HP
  go_enter Tryd.func18, Tryd.ntmps18
  go_wp2
  clear hg
  generalize w.alloc (.cells (vals Z) 54) = w1 at *
  clear hzf
  go_loopw [6] (fun vx wr => ∃ C : Nat, C ≤ 2500 ∧ vx = .int .i64 (C : Int) ∧ Hid (SkyG w g (SkyO ks C) wr)) (fun vx _ => 2500 - (intOf vx).toNat)
  case atStart => exact ⟨0, by omega, rfl, H0⟩
  case round =>
    clear H0
    obtain ⟨C, hC, rfl, HS⟩ := hrel
    by_cases hlt : C < 2500
    case neg =>
      have hlt' : ¬ (C : Int) < 2500 := by omega
      have R := HP.out wr (by obtain rfl : C = 2500 := by omega
                              exact HS.out)
      clear HS HP HK
      go_wp2
      first | exact R | (go_ret; exact R)
    have hlt' : (C : Int) < 2500 := by omega
    have wC : IntKind.i64.wrap ((C : Int) + 1) = ((C + 1 : Nat) : Int) := by rw [IntKind.wrap_i64]; omega
    have wA : IntKind.i64.wrap (320000 + (C : Int)) = ((320000 + C : Nat) : Int) := by rw [IntKind.wrap_i64]; omega
    clear HP
    have H1 : Hid (SkyG w g (SkyI ks C (320000 + C)) wr) := by
      obtain ⟨⟨ts, h1, h2⟩, h3⟩ := HS.out
      exact ⟨⟨ts, h1, h2.start hlt⟩, h3⟩
    clear HS hlt
    obtain ⟨wq, hwq⟩ : ∃ wq, wq = wr := ⟨_, rfl⟩
    subst hwq
    go_wp2
    go_loopw [5] (fun vx wr => ∃ A : Nat, vx = .int .i64 (A : Int) ∧ Hid (SkyG w g (SkyI ks C A) wr)) (fun vx _ => (intOf vx).toNat)
    case atStart => exact ⟨320000 + C, by simp, H1⟩
    case round =>
      clear H1
      obtain ⟨A, rfl, HS⟩ := hrel
      have hA : A < 322500 := by
        obtain ⟨⟨ts, h1, h2⟩, h3⟩ := HS.out
        exact h2.col.2
      have hA' : (A : Int) < 325000 := by omega
      have cp : wr.cell? ⟨gk, A, none⟩ = some (.int .u8 (ks.getD A 0)) := (HK.out.1.below HS.out.bel HK.out.1.lt).cell (k := A) (by rw [HK.out.2.1]; omega)
      have bp := HK.out.2.2.1.at A
      obtain ⟨k, hk⟩ := Int.eq_ofNat_of_zero_le bp.1
      have Hk : Hid (ks.getD A 0 = (k : Int)) := hk
      rw [hk] at cp bp
      have k17 : k < 17 := by omega
      clear hk bp
      have hcl := kind_isClear k k17 wr (HK.out.2.2.2.1.on HS.out.bel)
      rw [cl_is k k17] at hcl
      have Hrim : Hid (clearK (k : Int) = true → 2500 ≤ A) := fun h => by
        rcases Nat.lt_or_ge A 2500 with h1 | h1
        · have := HK.out.2.2.2.2.1 A h1
          rw [Hk.out] at this
          rw [this] at h
          cases h
        · exact h1
      rcases hck : clearK (k : Int) with _ | _
      · rw [hck] at hcl
        have Hck : Hid (clearK (k : Int) = false) := hck
        have k17' : (k : Int) < 17 := by omega
        clear hck k17 HK
        go_wp2_with fail
        refine hcl.mono ?_
        clear hcl cp
        rintro _ w2 ⟨rfl, hb2⟩
        have HE : Hid (SkyG w g (SkyO ks (C + 1)) w2) := by
          obtain ⟨⟨ts, h1, h2⟩, h3⟩ := HS.out.on hb2
          exact ⟨⟨ts, h1, h2.stop (by rw [Hk.out]; exact Hck.out)⟩, h3⟩
        clear HS hb2 Hck Hk Hrim
        go_wp2
        exact ⟨⟨C + 1, by omega, by simp, HE⟩, by simp [intOf]; omega⟩
      · rw [hck] at hcl
        have Hck : Hid (clearK (k : Int) = true) := hck
        have hA2 := Hrim.out hck
        have Hg : Hid (w.heap.size = g) := HK.out.2.2.2.2.2
        have k17' : (k : Int) < 17 := by omega
        clear hck k17 HK Hrim
        have wA : IntKind.i64.wrap ((A : Int) - 2500) = ((A - 2500 : Nat) : Int) := by rw [IntKind.wrap_i64]; omega
        go_wp2_with fail
        refine hcl.mono ?_
        clear hcl cp
        rintro _ w2 ⟨rfl, hb2⟩
        obtain ⟨⟨ts, h1, h2⟩, h3⟩ := HS.out.on hb2
        have ct := h1.cell (k := A) (by rw [h2.len]; omega)
        have fz := h1.free A
        have HE : Hid (SkyG w g (SkyI ks C (A - 2500)) (w2.setCell ⟨g, A, none⟩ (.int .u8 15))) :=
          ⟨⟨_, h1.set A 15, h2.step hA2 (by rw [Hk.out]; exact Hck.out)⟩, h3.trans ⟨rfl, rfl, rfl, by simp [World.setCell], fun j hj => Below.heap_setCell w2 ⟨g, A, none⟩ _ j (by show j ≠ g; have := Hg.out; omega)⟩⟩
        generalize ts.getD A 0 = v0 at ct
        clear HS hb2 Hck Hk h1 h2 h3 Hg
        go_wp2
        exact ⟨⟨A - 2500, by simp, HE⟩, by simp [intOf]; omega⟩
end Go.Proofs.YtjeapaojbkicmabDoor
