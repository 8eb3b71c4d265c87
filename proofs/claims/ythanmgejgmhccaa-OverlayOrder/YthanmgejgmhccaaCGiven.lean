/-
  Cells: what runs and single numbers make is cells of a chunk.
-/
import Derived.Test.YthanmgejgmhccaaCMades
import Derived.Deep.DeepCutAuto
namespace Go.Proofs.Ythanmgejgmhccaa.C
open Go.RowKit

/-- Pairs of numbers in a slice. -/
def Runs (w : World) (a : Option Addr) (n : Nat) : Prop := ∀ k, k < n → ∃ b o x y, a = some ⟨b, o, none⟩ ∧ b < w.heap.size ∧ w.cell? ⟨b, o + k * 2, none⟩ = some (.int .i64 x) ∧ w.cell? ⟨b, o + k * 2 + 1, none⟩ = some (.int .i64 y)
/-- Numbers in a slice. -/
def Nums (w : World) (a : Option Addr) (n : Nat) : Prop := ∀ k, k < n → ∃ b o x, a = some ⟨b, o, none⟩ ∧ b < w.heap.size ∧ w.cell? ⟨b, o + k, none⟩ = some (.int .i64 x)
theorem Runs.on {w w' : World} {a : Option Addr} {n : Nat} (h : Runs w a n) (hb : Below w.heap.size w w') : Runs w' a n := fun k hk => by
  obtain ⟨b, o, x, y, e, hlt, c0, c1⟩ := h k hk
  exact ⟨b, o, x, y, e, Nat.lt_of_lt_of_le hlt hb.size, (hb.cell (p := ⟨b, _, none⟩) hlt).trans c0, (hb.cell (p := ⟨b, _, none⟩) hlt).trans c1⟩
theorem Nums.on {w w' : World} {a : Option Addr} {n : Nat} (h : Nums w a n) (hb : Below w.heap.size w w') : Nums w' a n := fun k hk => by
  obtain ⟨b, o, x, e, hlt, c0⟩ := h k hk
  exact ⟨b, o, x, e, Nat.lt_of_lt_of_le hlt hb.size, (hb.cell (p := ⟨b, _, none⟩) hlt).trans c0⟩
theorem rem_in (x m : Int) (hm : 0 < m) : ∃ y : Nat, (y : Int) < m ∧ (x.tmod m + m).tmod m = y ∧ -m < x.tmod m ∧ x.tmod m < m := by
  have h1 := Int.lt_tmod_of_pos x hm
  have h2 := Int.tmod_lt_of_pos x hm
  have h3 : 0 ≤ (x.tmod m + m).tmod m := Int.tmod_nonneg _ (by omega)
  have h4 := Int.tmod_lt_of_pos (x.tmod m + m) hm
  obtain ⟨y, hy⟩ := Int.eq_ofNat_of_zero_le h3
  exact ⟨y, by omega, hy, h1, h2⟩
theorem Kinds.put {cs : List Int} (h : Kinds cs) (n : Nat) {k : Int} (h0 : 0 ≤ k) (h1 : k ≤ 16) : Kinds (cs.set n k) := by
  intro x hx
  rcases List.mem_or_eq_of_mem_set hx with h' | h'
  · exact h x h'
  · subst h'; exact ⟨h0, h1⟩

set_option maxRecDepth 100000 in
set_option maxHeartbeats 4000000 in
theorem cells_c (a : Option Addr) (n cap : Nat) (s : Option Addr) (ns caps : Nat) (w : World) (hR : Runs w a n) (hI : Nums w s ns) (hn : n ≤ 1000) (hns : ns ≤ 10000) :
    Calls Try.prog 17 #[.slice a n cap, .slice s ns caps] w fun e w' => e = .returned (.slice (some ⟨w.heap.size, 0, none⟩) 32768 32768) ∧ ∃ cs, Blk w' w.heap.size 5 cs ∧ cs.length = 32768 ∧ Kinds cs ∧ Below w.heap.size w w' := by
  go_enter Try.func17, Try.ntmps17
  go_wp2_with fail
  refine (rnew_c 0 (by omega) (by omega) w).mono ?_
  rintro _ w1 ⟨rfl, hB1, hb1⟩
  have hZ : (List.replicate 32768 (0 : Int)).length = 32768 := List.length_replicate
  have hK : Kinds (List.replicate 32768 (0 : Int)) := fun x hx => by rw [List.eq_of_mem_replicate hx]; omega
  generalize List.replicate 32768 (0 : Int) = Z at *
  go_wp2
  go_loopw [6, 7] (fun t i wr => ∃ (A I : Nat) (cs : List Int), A ≤ 32768 ∧ I ≤ A ∧ t = .int .i64 (A : Int) ∧ i = .int .i64 (I : Int) ∧ Blk wr w.heap.size 5 cs ∧ cs.length = 32768 ∧ Kinds cs ∧ Below w.heap.size w wr) (fun t _ _ => 32768 - (intOf t).toNat)
  case atStart => exact ⟨0, 0, Z, by omega, by omega, rfl, rfl, hB1, hZ, hK, hb1⟩
  case round =>
    obtain ⟨A, I, cs, hA, hIA, rfl, rfl, hB, hlen, hkin, hb⟩ := hrel
    clear hB1 hZ hK hb1
    by_cases hlt : A < 32768 ∧ 0 < n
    · obtain ⟨hA1, hn0⟩ := hlt
      obtain ⟨J, hJ, hJn⟩ : ∃ J : Nat, (I : Int).tmod n = (J : Int) ∧ J < n := ⟨I % n, by rw [Int.ofNat_tmod], Nat.mod_lt _ hn0⟩
      obtain ⟨b, o, x, y, rfl, hbl, c0, c1⟩ := (hR.on hb) J hJn
      have hbw : b < w.heap.size := by
        obtain ⟨b', o', _, _, e, h', _⟩ := hR J hJn
        cases e
        exact h'
      obtain ⟨M, hM, eM, m0, m1⟩ := rem_in x 9000 (by omega)
      obtain ⟨K, hK, eK, k0, k1⟩ := rem_in y 17 (by omega)
      have hA1' : (A : Int) < 32768 := by omega
      have hn0' : (0 : Int) < n := by omega
      have hnz : ¬ (n : Int) = 0 := by omega
      go_wp2
      have hB2 : Blk (wr.alloc (.cells #[.int .i64 x, .int .i64 y] 60)) w.heap.size 5 cs := hB.below ((Below.refl _ _).alloc (Nat.le_refl _) _) hB.lt
      have hb2 : Below w.heap.size w (wr.alloc (.cells #[.int .i64 x, .int .i64 y] 60)) := hb.alloc hb.size _
      generalize wr.alloc (.cells #[.int .i64 x, .int .i64 y] 60) = W at *
      clear hJ eM eK m0 m1 k0 k1 c0 c1 hB hb hR hA1' hn0' hnz
      obtain ⟨T, hT⟩ : ∃ T : Nat, T = M + 1 := ⟨_, rfl⟩
      rw [show (M : Int) + 1 = (T : Int) by omega]
      have hT1 : 1 ≤ T ∧ T ≤ 9000 := by omega
      clear hT hM
      go_loopw [6, 11] (fun t j wr => ∃ (N : Nat) (ds : List Int), N ≤ T ∧ A + N ≤ 32768 ∧ t = .int .i64 ((A + N : Nat) : Int) ∧ j = .int .i64 (N : Int) ∧ Blk wr w.heap.size 5 ds ∧ ds.length = 32768 ∧ Kinds ds ∧ Below w.heap.size w wr) (fun t _ _ => 32768 - (intOf t).toNat)
      case atStart => exact ⟨0, cs, by omega, by omega, rfl, rfl, hB2, hlen, hkin, hb2⟩
      case round =>
        obtain ⟨N, ds, hN, hAN, rfl, rfl, hB3, hl3, hk3, hb3⟩ := hrel
        clear hB2 hlen hkin hb2
        obtain ⟨D, hD⟩ : ∃ D : Nat, D = A + N := ⟨_, rfl⟩
        rw [← hD] at hAN ⊢
        have HA : Hid (D = A + N) := hD
        clear hD
        have HL : Hid (ds.length = 32768) := hl3
        clear hl3
        by_cases hlt : N < T ∧ D < 32768
        · obtain ⟨h1, h2⟩ := hlt
          have h1' : (N : Int) < T := by omega
          have h2' : (D : Int) < 32768 := by omega
          have hc := hB3.cell (k := D) (by rw [HL.out]; exact h2)
          have hf := hB3.free D
          have R1 : Blk (wr.setCell ⟨w.heap.size, D, none⟩ (.int .u8 (K : Int))) w.heap.size 5 (ds.set D K) := hB3.set D K
          have R2 : Below w.heap.size w (wr.setCell ⟨w.heap.size, D, none⟩ (.int .u8 (K : Int))) := hb3.setCell (p := ⟨w.heap.size, D, none⟩) (Nat.le_refl _) _
          have hk4 := hk3.put D (k := (K : Int)) (by omega) (by omega)
          generalize ds.getD D 0 = v at hc
          clear hB3 hb3 hk3
          go_wp2
          go_roundw
          case rel =>
            have e : D = A + N := HA.out
            refine ⟨N + 1, ds.set D K, by omega, by omega, ?_, by go_num, R1, by rw [List.length_set]; exact HL.out, hk4, R2⟩
            rw [e]
            go_num
          case measure => simp [intOf]; omega
        · by_cases h1 : N < T
          · have h2' : ¬ (D : Int) < 32768 := by omega
            have h1' : (N : Int) < T := by omega
            go_wp2
            go_roundw
            case rel => exact ⟨D, I + 1, ds, by omega, by have := HA.out; omega, by first | rfl | go_num, by go_num, hB3, HL.out, hk3, hb3⟩
            case measure => have := HA.out; simp [intOf]; omega
          · have h1' : ¬ (N : Int) < T := by omega
            go_wp2
            go_roundw
            case rel => exact ⟨D, I + 1, ds, by omega, by have := HA.out; omega, by first | rfl | go_num, by go_num, hB3, HL.out, hk3, hb3⟩
            case measure => have := HA.out; simp [intOf]; omega
    · clear hR
      go_upto_region 4 with fail
      go_cut [23] (fun v wc => v = .bool false ∧ wc = wr)
      case first =>
        by_cases hA1 : A < 32768
        · obtain rfl : n = 0 := by omega
          have hA1' : (A : Int) < 32768 := by omega
          go_wp2
          go_meet
          case rel => exact ⟨rfl, rfl⟩
        · have hA1' : ¬ (A : Int) < 32768 := by omega
          go_wp2
          go_meet
          case rel => exact ⟨rfl, rfl⟩
      case rest =>
      obtain ⟨rfl, hwc⟩ := hcut
      replace hwc := hwc.symm
      subst hwc
      go_wp2
      go_loopw [12] (fun i wr => ∃ (J : Nat) (ds : List Int), J ≤ ns + 1 ∧ i = .int .i64 (J : Int) ∧ Blk wr w.heap.size 5 ds ∧ ds.length = 32768 ∧ Kinds ds ∧ Below w.heap.size w wr) (fun i _ => ns + 1 - (intOf i).toNat)
      case atStart => exact ⟨0, cs, by omega, rfl, hB, hlen, hkin, hb⟩
      case round =>
        obtain ⟨J, ds, hJ, rfl, hB3, hl3, hk3, hb3⟩ := hrel
        clear hB hlen hkin hb
        by_cases hlt : J + 1 < ns
        · have hlt' : (J : Int) + 1 < ns := by omega
          obtain ⟨b, o, x, rfl, hbl, c0⟩ := (hI.on hb3) J (by omega)
          obtain ⟨b', o', y, e, _, c1⟩ := (hI.on hb3) (J + 1) hlt
          cases e
          have hbw : b < w.heap.size := by
            obtain ⟨b', o', _, e, h', _⟩ := hI J (by omega)
            cases e
            exact h'
          obtain ⟨P, hP, eP, p0, p1⟩ := rem_in x 32768 (by omega)
          obtain ⟨K, hK, eK, k0, k1⟩ := rem_in y 17 (by omega)
          have hc := hB3.cell (k := P) (by omega)
          have hf := hB3.free P
          have R1 : Blk (wr.setCell ⟨w.heap.size, P, none⟩ (.int .u8 (K : Int))) w.heap.size 5 (ds.set P K) := hB3.set P K
          have R2 : Below w.heap.size w (wr.setCell ⟨w.heap.size, P, none⟩ (.int .u8 (K : Int))) := hb3.setCell (p := ⟨w.heap.size, P, none⟩) (Nat.le_refl _) _
          have hk4 := hk3.put P (k := (K : Int)) (by omega) (by omega)
          generalize ds.getD P 0 = v at hc
          clear hB3 hb3
          go_wp2
          go_roundw
          case rel => exact ⟨J + 2, ds.set P K, by omega, by go_num, R1, by rw [List.length_set]; exact hl3, hk4, R2⟩
          case measure => simp [intOf]; omega
        · have hlt' : ¬ (J : Int) + 1 < ns := by omega
          go_wp2
          go_ret
          exact ⟨rfl, ds, hB3, hl3, hk3, hb3⟩
end Go.Proofs.Ythanmgejgmhccaa.C