/-
  The landed caves: a field of cells in memory; place, mark, has, about.
-/
import Derived.Test.YtajjaeaknonmfaaVbase
import Derived.Test.YtajjaeaknonmfaaGn4
set_option maxRecDepth 20000
namespace Go.Proofs.Ytajjaeaknonmfaa
open C Go.RowKit

/-- A list by halves. -/
def hlv (v : Value) : Nat → Nat → List Value
  | 0, n => List.replicate n v
  | f + 1, n => (hlv v f (n / 2)).append (hlv v f (n - n / 2))
theorem hlv_rep (v : Value) : ∀ f n, hlv v f n = List.replicate n v
  | 0, _ => rfl
  | f + 1, n => by
    show hlv v f (n / 2) ++ hlv v f (n - n / 2) = _
    rw [hlv_rep v f, hlv_rep v f, List.replicate_append_replicate]
    congr 1
    omega
theorem z61 : Try.t61.zero = some (.agg (hlv (.int .u8 0) 8 10400).toArray) := by kernel_rfl
theorem zero61 (w : World) : (zeroValue 61).run Try.prog w = .ok (.agg (vals (List.replicate 10400 0))) w := by
  have e : (hlv (.int .u8 0) 8 10400).toArray = vals (List.replicate 10400 0) := by
    rw [hlv_rep, vals, List.map_replicate]
  unfold zeroValue
  rw [Sem.run_bind, Try.typeInfo61, Result.andThen_ok, z61, e]
  rfl

theorem place_c (x y z : Int) (X Y Z : Nat) (hx : x + 2 = (X : Int)) (hy : y - 5 = (Y : Int)) (hz : z + 2 = (Z : Int)) (bx : X < 20) (bY : Y < 26) (bz : Z < 20) (w : World) :
    Calls Try.prog 62 #[.agg #[.int .i64 x, .int .i64 y, .int .i64 z]] w fun e w' => e = .returned (.tuple #[.int .i64 (Y : Int), .int .i64 (Z : Int), .int .i64 (X : Int)]) ∧ Below w.heap.size w w' := by
  have HB : Hid (Below w.heap.size w (w.alloc (.cells #[.int .i64 x, .int .i64 y, .int .i64 z] 24))) := (Below.refl _ _).alloc (Nat.le_refl _) _
  go_enter Try.func62, Try.ntmps62
  go_wp2_with fail
  go_quiet (fail)
  go_wp2
  exact bodyPost_ret (results_tmp3 (t := 2) (u := 3) (v := 4) rfl _ _ _) rfl ⟨rfl, G.below_drewN HB.out _⟩
theorem grown_set {w w1 : World} (h : Below w.heap.size w w1) (b k : Nat) (v : Value) : w.grownBy (w1.setCell ⟨b, k, none⟩ v) (some b) :=
  ⟨h.os, h.tape, h.output, by have := h.size; simpa [World.setCell] using this, fun j hj hne => (Below.heap_setCell w1 ⟨b, k, none⟩ v j (fun e => hne (by rw [e]))).trans (h.block j hj)⟩
set_option maxHeartbeats 1000000 in
theorem mark_c (b : Nat) (fs : List Int) (x y z : Int) (X Y Z : Nat) (hx : x + 2 = (X : Int)) (hy : y - 5 = (Y : Int)) (hz : z + 2 = (Z : Int)) (bx : X < 20) (bY : Y < 26) (bz : Z < 20) (w : World) (hB : Blk w b 61 fs) (hl : fs.length = 10400) :
    Calls Try.prog 49 #[.pointer (some ⟨b, 0, none⟩), .agg #[.int .i64 x, .int .i64 y, .int .i64 z]] w fun e w' => e = .returned (.tuple #[]) ∧ Blk w' b 61 (fs.set (Y * 400 + Z * 20 + X) 1) ∧ w.grownBy w' (some b) := by
  have HB : Hid (Below w.heap.size w (w.alloc (.cells #[.int .i64 x, .int .i64 y, .int .i64 z] 24))) := (Below.refl _ _).alloc (Nat.le_refl _) _
  have HF : Hid (Blk w b 61 fs) := hB
  clear hB
  go_enter Try.func49, Try.ntmps49
  go_wp2_with fail
  refine (place_c x y z X Y Z hx hy hz bx bY bz _).mono ?_
  rintro _ w1 ⟨rfl, hb1⟩
  have hb2 : Below w.heap.size w w1 := HB.out.trans (hb1.mono HB.out.size)
  have hF : Blk w1 b 61 fs := HF.out.below hb2 HF.out.lt
  have hc := hF.cell (k := Y * 400 + Z * 20 + X) (by omega)
  have hf := hF.free (Y * 400 + Z * 20 + X)
  generalize fs.getD (Y * 400 + Z * 20 + X) 0 = v at hc
  have R1 : Hid (Blk (w1.setCell ⟨b, Y * 400 + Z * 20 + X, none⟩ (.int .u8 1)) b 61 (fs.set (Y * 400 + Z * 20 + X) 1)) := hF.set _ 1
  have R2 : Hid (w.grownBy (w1.setCell ⟨b, Y * 400 + Z * 20 + X, none⟩ (.int .u8 1)) (some b)) := grown_set hb2 _ _ _
  clear hb1 hb2 hF HB HF
  go_wp2
  go_end0
  exact ⟨rfl, R1.out, R2.out⟩
def bi (b : Bool) : Int := if b then 1 else 0
theorem bi_eq (b : Bool) : (bi b = 1 ∧ b = true) ∨ (bi b = 0 ∧ b = false) := by rcases b with _ | _ <;> simp [bi]
set_option maxHeartbeats 1000000 in
theorem fhas_c (b : Nat) (fs : List Int) (x y z : Int) (X Y Z : Nat) (β : Bool) (hx : x + 2 = (X : Int)) (hy : y - 5 = (Y : Int)) (hz : z + 2 = (Z : Int)) (bx : X < 20) (bY : Y < 26) (bz : Z < 20) (w : World) (hB : Blk w b 61 fs) (hl : fs.length = 10400) (hv : fs.getD (Y * 400 + Z * 20 + X) 0 = bi β) :
    Calls Try.prog 51 #[.pointer (some ⟨b, 0, none⟩), .agg #[.int .i64 x, .int .i64 y, .int .i64 z]] w fun e w' => e = .returned (.bool β) ∧ Below w.heap.size w w' := by
  have HB : Hid (Below w.heap.size w (w.alloc (.cells #[.int .i64 x, .int .i64 y, .int .i64 z] 24))) := (Below.refl _ _).alloc (Nat.le_refl _) _
  have HF : Hid (Blk w b 61 fs) := hB
  clear hB
  have HV : Hid (fs.getD (Y * 400 + Z * 20 + X) 0 = bi β) := hv
  clear hv
  go_enter Try.func51, Try.ntmps51
  go_wp2_with fail
  refine (place_c x y z X Y Z hx hy hz bx bY bz _).mono ?_
  rintro _ w1 ⟨rfl, hb1⟩
  have hb2 : Below w.heap.size w w1 := HB.out.trans (hb1.mono HB.out.size)
  have hF : Blk w1 b 61 fs := HF.out.below hb2 HF.out.lt
  have hc := hF.cell (k := Y * 400 + Z * 20 + X) (by omega)
  rw [HV.out] at hc
  have R2 : Hid (Below w.heap.size w w1) := hb2
  clear hb1 hb2 hF HB HF HV
  rcases β with _ | _
  · have hc' : w1.cell? ⟨b, Y * 400 + Z * 20 + X, none⟩ = some (.int .u8 0) := hc
    clear hc
    go_wp2
    go_ret
    exact ⟨rfl, R2.out⟩
  · have hc' : w1.cell? ⟨b, Y * 400 + Z * 20 + X, none⟩ = some (.int .u8 1) := hc
    clear hc
    go_wp2
    go_ret
    exact ⟨rfl, R2.out⟩
/-- Three cells of a row. -/
def row3 (fs : List Int) (i k X : Nat) : Int := fs.getD (i * 400 + k * 20 + (X - 1)) 0 + fs.getD (i * 400 + k * 20 + X) 0 + fs.getD (i * 400 + k * 20 + (X + 1)) 0
/-- The first n rows of a layer, the first n layers. -/
def rowsN (fs : List Int) (i Z X : Nat) : Nat → Int
  | 0 => 0
  | n + 1 => rowsN fs i Z X n + row3 fs i (Z - 1 + n) X
def laysN (fs : List Int) (Y Z X : Nat) : Nat → Int
  | 0 => 0
  | n + 1 => laysN fs Y Z X n + rowsN fs (Y - 1 + n) Z X 3
def Bits (fs : List Int) : Prop := ∀ j, 0 ≤ fs.getD j 0 ∧ fs.getD j 0 ≤ 1
theorem row3_bd {fs : List Int} (h : Bits fs) (i k X : Nat) : 0 ≤ row3 fs i k X ∧ row3 fs i k X ≤ 3 := by
  unfold row3
  have := h (i * 400 + k * 20 + (X - 1)); have := h (i * 400 + k * 20 + X); have := h (i * 400 + k * 20 + (X + 1))
  omega
theorem rowsN_bd {fs : List Int} (h : Bits fs) (i Z X : Nat) : ∀ n : Nat, 0 ≤ rowsN fs i Z X n ∧ rowsN fs i Z X n ≤ 3 * n
  | 0 => by simp [rowsN]
  | n + 1 => by
    have := rowsN_bd h i Z X n
    have := row3_bd h i (Z - 1 + n) X
    unfold rowsN
    omega
theorem laysN_bd {fs : List Int} (h : Bits fs) (Y Z X : Nat) : ∀ n : Nat, 0 ≤ laysN fs Y Z X n ∧ laysN fs Y Z X n ≤ 9 * n
  | 0 => by simp [laysN]
  | n + 1 => by
    have := laysN_bd h Y Z X n
    have := rowsN_bd h (Y - 1 + n) Z X 3
    unfold laysN
    omega
set_option maxHeartbeats 1000000 in
theorem about_c (b : Nat) (fs : List Int) (x y z : Int) (X Y Z : Nat) (hx : x + 2 = (X : Int)) (hy : y - 5 = (Y : Int)) (hz : z + 2 = (Z : Int)) (bx : 1 ≤ X ∧ X < 19) (bY : 1 ≤ Y ∧ Y < 25) (bz : 1 ≤ Z ∧ Z < 19) (w : World) (hB : Blk w b 61 fs) (hl : fs.length = 10400) (hbit : Bits fs) :
    Calls Try.prog 52 #[.pointer (some ⟨b, 0, none⟩), .agg #[.int .i64 x, .int .i64 y, .int .i64 z]] w fun e w' => e = .returned (.int .i64 (laysN fs Y Z X 3 - fs.getD (Y * 400 + Z * 20 + X) 0)) ∧ Below w.heap.size w w' := by
  obtain ⟨x0, x1⟩ := bx
  obtain ⟨y0, y1⟩ := bY
  obtain ⟨z0, z1⟩ := bz
  have HB : Hid (Below w.heap.size w (w.alloc (.cells #[.int .i64 x, .int .i64 y, .int .i64 z] 24))) := (Below.refl _ _).alloc (Nat.le_refl _) _
  have HF : Hid (Blk w b 61 fs) := hB
  have HBit : Hid (Bits fs) := hbit
  obtain ⟨C, hC⟩ : ∃ C, C = fs.getD (Y * 400 + Z * 20 + X) 0 := ⟨_, rfl⟩
  have hCb : 0 ≤ C ∧ C ≤ 1 := by rw [hC]; exact hbit _
  obtain ⟨c0, c1⟩ := hCb
  obtain ⟨Post, hPost⟩ : ∃ Post : Ending → World → Prop, Post = fun e w' => e = .returned (.int .i64 (laysN fs Y Z X 3 - C)) ∧ Below w.heap.size w w' := ⟨_, rfl⟩
  rw [← hC, ← hPost]
  have HP : Hid (∀ v w', v = laysN fs Y Z X 3 - C → Below w.heap.size w w' → Post (.returned (.int .i64 v)) w') := fun v w' h1 h2 => by rw [hPost]; exact ⟨by rw [h1], h2⟩
  have HC : Hid (C = fs.getD (Y * 400 + Z * 20 + X) 0) := hC
  clear hB hbit hC hPost
  obtain ⟨X0, hX0⟩ : ∃ X0, X = X0 + 1 := ⟨X - 1, by omega⟩
  obtain ⟨Y0, hY0⟩ : ∃ Y0, Y = Y0 + 1 := ⟨Y - 1, by omega⟩
  obtain ⟨Z0, hZ0⟩ : ∃ Z0, Z = Z0 + 1 := ⟨Z - 1, by omega⟩
  have sx : (X : Int) - 1 = (X0 : Int) := by omega
  have sy : (Y : Int) - 1 = (Y0 : Int) := by omega
  have sz : (Z : Int) - 1 = (Z0 : Int) := by omega
  have HE : Hid (X = X0 + 1 ∧ Y = Y0 + 1 ∧ Z = Z0 + 1) := ⟨hX0, hY0, hZ0⟩
  clear hX0 hY0 hZ0
  go_enter Try.func52, Try.ntmps52
  go_wp2_with fail
  refine (place_c x y z X Y Z hx hy hz (by omega) (by omega) (by omega) _).mono ?_
  rintro _ w1 ⟨rfl, hb1⟩
  have hb2 : Below w.heap.size w w1 := HB.out.trans (hb1.mono HB.out.size)
  have hF : Blk w1 b 61 fs := HF.out.below hb2 HF.out.lt
  have hc := hF.cell (k := Y * 400 + Z * 20 + X) (by omega)
  rw [← HC.out] at hc
  have HF1 : Hid (Blk w1 b 61 fs) := hF
  have R2 : Hid (Below w.heap.size w w1) := hb2
  clear hb1 hb2 hF HB HF
  go_wp2
  clear hc
  have hs2 : (X : Int) + 1 = ((X0 + 2 : Nat) : Int) := by have := HE.out; omega
  obtain ⟨X2, hX2⟩ : ∃ X2, X2 = X0 + 2 := ⟨_, rfl⟩
  rw [← hX2] at hs2
  have bX2 : X2 < 20 := by have := HE.out; omega
  have HX2 : Hid (X2 = X + 1) := by show _ = _; have := HE.out; omega
  clear hX2
  go_loopw [8, 9] (fun n i wr => ∃ (I YI : Nat) (N : Int), n = .int .i64 N ∧ i = .int .i64 (YI : Int) ∧ Hid (YI = Y0 + I ∧ I ≤ 3 ∧ N = laysN fs Y Z X I - C) ∧ Hid (Blk wr b 61 fs ∧ Below w.heap.size w wr)) (fun _ i _ => Y0 + 4 - (intOf i).toNat)
  case atStart => exact ⟨0, Y0, -C, rfl, rfl, ⟨rfl, by omega, by simp [laysN]⟩, HF1.out, R2.out⟩
  case round =>
    clear HF1 R2
    obtain ⟨I, YI, N, rfl, rfl, HI, HW⟩ := hrel
    have hN : -1 ≤ N ∧ N ≤ 27 := by
      obtain ⟨h1, h2, h3⟩ := HI.out
      have := laysN_bd HBit.out Y Z X I
      omega
    obtain ⟨n0, n1⟩ := hN
    by_cases hI : I < 3
    · have hle : (YI : Int) ≤ (Y : Int) + 1 := by have := HI.out; have := HE.out; omega
      have byi : YI < 26 := by have := HI.out; have := HE.out; omega
      obtain ⟨wq, hwq⟩ : ∃ wq, wq = wr := ⟨_, rfl⟩
      subst hwq
      go_wp2
      go_loopw [8, 10] (fun n k wr => ∃ (K ZK : Nat) (M : Int), n = .int .i64 M ∧ k = .int .i64 (ZK : Int) ∧ Hid (ZK = Z0 + K ∧ K ≤ 3 ∧ M = N + rowsN fs YI Z X K) ∧ Hid (Blk wr b 61 fs ∧ Below w.heap.size w wr)) (fun _ i _ => Z0 + 4 - (intOf i).toNat)
      case atStart => exact ⟨0, Z0, N, rfl, rfl, ⟨rfl, by omega, by simp [rowsN]⟩, HW.out⟩
      case round =>
        clear HW
        obtain ⟨K, ZK, M, rfl, rfl, HK, HW⟩ := hrel
        have hM : -1 ≤ M ∧ M ≤ 40 := by
          obtain ⟨h1, h2, h3⟩ := HK.out
          have := rowsN_bd HBit.out YI Z X K
          omega
        obtain ⟨m0, m1⟩ := hM
        by_cases hK : K < 3
        · have hlz : (ZK : Int) ≤ (Z : Int) + 1 := by have := HK.out; have := HE.out; omega
          have bzk : ZK < 20 := by have := HK.out; have := HE.out; omega
          obtain ⟨hF, hbel⟩ := HW.out
          have e0 : X0 < 20 := by have := HE.out; omega
          have k0 := hF.cell (k := YI * 400 + ZK * 20 + X0) (by omega)
          have k1 := hF.cell (k := YI * 400 + ZK * 20 + X) (by omega)
          have k2 := hF.cell (k := YI * 400 + ZK * 20 + X2) (by omega)
          have HR : Hid (row3 fs YI ZK X = fs.getD (YI * 400 + ZK * 20 + X0) 0 + fs.getD (YI * 400 + ZK * 20 + X) 0 + fs.getD (YI * 400 + ZK * 20 + X2) 0) := by
            show _ = _
            unfold row3
            rw [show X - 1 = X0 by have := HE.out; omega, HX2.out]
          have b0 := HBit.out (YI * 400 + ZK * 20 + X0)
          have b1 := HBit.out (YI * 400 + ZK * 20 + X)
          have b2 := HBit.out (YI * 400 + ZK * 20 + X2)
          generalize fs.getD (YI * 400 + ZK * 20 + X0) 0 = v0 at *
          generalize fs.getD (YI * 400 + ZK * 20 + X) 0 = v1 at *
          generalize fs.getD (YI * 400 + ZK * 20 + X2) 0 = v2 at *
          obtain ⟨p0, q0⟩ := b0
          obtain ⟨p1, q1⟩ := b1
          obtain ⟨p2, q2⟩ := b2
          go_wp2_with fail
          go_quiet (fail)
          go_wp2
          refine ⟨⟨K + 1, ZK + 1, _, rfl, by simp, ⟨?_, by omega, ?_⟩, hF.drewN _, G.below_drewN hbel _⟩, ?_⟩
          · have := HK.out; omega
          · obtain ⟨h1, h2, h3⟩ := HK.out
            have e : rowsN fs YI Z X (K + 1) = rowsN fs YI Z X K + row3 fs YI (Z - 1 + K) X := rfl
            rw [e, show Z - 1 + K = ZK by have := HE.out; omega, HR.out, h3]
            omega
          · have := HK.out
            simp [intOf]
            omega
        · have hgz : ¬ (ZK : Int) ≤ (Z : Int) + 1 := by have := HK.out; have := HE.out; omega
          have H3 : Hid (YI + 1 = Y0 + (I + 1) ∧ I + 1 ≤ 3 ∧ M = laysN fs Y Z X (I + 1) - C) := by
            obtain ⟨h1, h2, h3⟩ := HK.out
            obtain ⟨h4, h5, h6⟩ := HI.out
            refine ⟨by omega, by omega, ?_⟩
            have e : laysN fs Y Z X (I + 1) = laysN fs Y Z X I + rowsN fs (Y - 1 + I) Z X 3 := rfl
            rw [e, show Y - 1 + I = YI by have := HE.out; omega, h3, h6, show K = 3 by omega]
            omega
          clear HK HI
          go_wp2
          exact ⟨⟨I + 1, YI + 1, M, rfl, by simp, H3, HW⟩, by simp [intOf]; have := HE.out; omega⟩
    · have hge : ¬ (YI : Int) ≤ (Y : Int) + 1 := by have := HI.out; have := HE.out; omega
      have R := HP.out N wr (by obtain ⟨h1, h2, h3⟩ := HI.out; rw [h3, show I = 3 by omega]) HW.out.2
      clear HP HI HW
      go_wp2
      exact R
end Go.Proofs.Ytajjaeaknonmfaa
