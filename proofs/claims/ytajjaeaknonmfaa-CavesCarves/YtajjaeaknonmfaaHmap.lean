/-
  The document's Map.
-/
import Derived.Test.YtajjaeaknonmfaaHbase
set_option maxRecDepth 20000
namespace Go.Proofs.Ytajjaeaknonmfaa
open N Go.RowKit

theorem mapH_take (S : Nat) (x z : Int) (i : Nat) (h : i < 256) : (mapH S x z).take (i + 1) = (mapH S x z).take i ++ [hOf S (x * 16 + (i : Int) % 16) (z * 16 + (i : Int) / 16)] := by
  rw [List.take_succ_eq_append_getElem (by rw [mapH_len]; exact h), mapH_at]
theorem mapB_take (S : Nat) (x z : Int) (i : Nat) (h : i < 256) : (mapB S x z).take (i + 1) = (mapB S x z).take i ++ [bandOf S (x * 16 + (i : Int) % 16) (z * 16 + (i : Int) / 16)] := by
  rw [List.take_succ_eq_append_getElem (by rw [mapB_len]; exact h), mapB_at]
set_option maxHeartbeats 1000000 in
theorem rmap_c (S : Nat) (x z : Int) (w : World) (hS : S < 18446744073709551616) (hx : Far 1073741825 x) (hz : Far 1073741825 z) :
    Calls Try.prog 25 #[.int .u64 S, .agg #[.int .i64 x, .int .i64 z]] w fun e w' => Below w.heap.size w w' ∧ ∃ a c a' c', e = .returned (.tuple #[.slice a 256 c, .slice a' 256 c']) ∧ ColsAt w' a (mapH S x z) ∧ ColsAt w' a' (mapB S x z) := by
  obtain ⟨Post, hPost⟩ : ∃ Post : Ending → World → Prop, Post = fun e w' => Below w.heap.size w w' ∧ ∃ a c a' c', e = .returned (.tuple #[.slice a 256 c, .slice a' 256 c']) ∧ ColsAt w' a (mapH S x z) ∧ ColsAt w' a' (mapB S x z) := ⟨_, rfl⟩
  rw [← hPost]
  have HP : Hid (∀ a c a' c' w', Below w.heap.size w w' → ColsAt w' a (mapH S x z) → ColsAt w' a' (mapB S x z) → Post (.returned (.tuple #[.slice a 256 c, .slice a' 256 c'])) w') := fun a c a' c' w' h1 h2 h3 => by rw [hPost]; exact ⟨h1, a, c, a', c', rfl, h2, h3⟩
  clear hPost
  obtain ⟨hx1, hx2⟩ := hx
  obtain ⟨hz1, hz2⟩ := hz
  have Hb0 : Hid (Below w.heap.size w (w.alloc (.cells #[.int .i64 x, .int .i64 z] 28))) := (Below.refl _ _).alloc (Nat.le_refl _) _
  have HX0 : Hid ((w.alloc (.cells #[.int .i64 x, .int .i64 z] 28)).heap[w.heap.size]? = some (.cells #[.int .i64 x, .int .i64 z] 28 (0, 0))) := heap_alloc_new w (.cells #[.int .i64 x, .int .i64 z] 28)
  have hsz : (w.alloc (.cells #[.int .i64 x, .int .i64 z] 28)).heap.size = w.heap.size + 1 := by simp
  have Hlh : Hid ((mapH S x z).length = 256) := mapH_len S x z
  have Hlb : Hid ((mapB S x z).length = 256) := mapB_len S x z
  have Hth : Hid (∀ i, i < 256 → (mapH S x z).take (i + 1) = (mapH S x z).take i ++ [hOf S (x * 16 + (i : Int) % 16) (z * 16 + (i : Int) / 16)]) := fun i h => mapH_take S x z i h
  have Htb : Hid (∀ i, i < 256 → (mapB S x z).take (i + 1) = (mapB S x z).take i ++ [bandOf S (x * 16 + (i : Int) % 16) (z * 16 + (i : Int) / 16)]) := fun i h => mapB_take S x z i h
  generalize mapH S x z = HL at *
  generalize mapB S x z = BL at *
  go_enter Try.func25, Try.ntmps25
  go_wp2_with fail
  generalize w.alloc (.cells #[.int .i64 x, .int .i64 z] 28) = w0 at *
  go_loopw [6, 7, 8] (fun vh vb vi wr => ∃ (i : Nat) (ah : Option Addr) (ch : Nat) (ab : Option Addr) (cb : Nat), i ≤ 256 ∧ vi = .int .i64 (i : Int) ∧ vh = .slice ah i ch ∧ vb = .slice ab i cb ∧ Hid (Two w0 ah ch i (HL.take i) ab cb i (BL.take i) wr)) (fun _ _ vi _ => 256 - (intOf vi).toNat)
  case atStart => exact ⟨0, none, 0, none, 0, by omega, by go_num, rfl, rfl, ⟨World.ownsRow_nil _ _ _ _, World.ownsRow_nil _ _ _ _, rfl, rfl, fun g hg => by simp [Value.ownBlock] at hg, Below.refl _ _⟩⟩
  case round =>
    obtain ⟨i, ah, ch, ab, cb, hi, rfl, rfl, rfl, HT⟩ := hrel
    by_cases hlt : i < 256
    · have hlt' : (i : Int) < 256 := by omega
      have hX := (HT.out.bel.block w.heap.size (by omega)).trans HX0.out
      have y0 : wr.cell? ⟨w.heap.size, 0, none⟩ = some (.int .i64 x) := (cell_of_row wr _ 0 _ 28 (0, 0) hX).trans rfl
      have y1 : wr.cell? ⟨w.heap.size, 1, none⟩ = some (.int .i64 z) := (cell_of_row wr _ 1 _ 28 (0, 0) hX).trans rfl
      have eh := Hth.out i hlt
      have eb := Htb.out i hlt
      clear hX HP
      have hXi : I64 (x * 16 + (i : Int) % 16) := ⟨by omega, by omega⟩
      have hZi : I64 (z * 16 + (i : Int) / 16) := ⟨by omega, by omega⟩
      have HXi : Hid (I64 (x * 16 + (i : Int) % 16)) := hXi
      have HZi : Hid (I64 (z * 16 + (i : Int) / 16)) := hZi
      clear hXi hZi
      go_wp2_with fail
      clear y0 y1
      generalize x * 16 + (i : Int) % 16 = X at *
      generalize z * 16 + (i : Int) / 16 = Z at *
      refine (rof_c S X Z wr hS HXi.out HZi.out).mono ?_
      rintro _ w1 ⟨rfl, hb1⟩
      have HT1 : Hid (Two w0 ah ch i (HL.take i) ab cb i (BL.take i) (w1.alloc (.cells #[.int .i64 (hOf S X Z)] 3))) := (HT.out.on hb1).on ((Below.refl _ _).alloc (Nat.le_refl _) _)
      clear hb1 HT
      generalize hOf S X Z = hv at *
      obtain ⟨H0, hH0⟩ : ∃ H0, H0 = HL.take i := ⟨_, rfl⟩
      obtain ⟨B0, hB0⟩ : ∃ B0, B0 = BL.take i := ⟨_, rfl⟩
      rw [← hH0] at eh HT1
      rw [← hB0] at eb HT1
      clear hH0 hB0
      have Heh : Hid (HL.take (i + 1) = H0 ++ [hv]) := eh
      have Heb : Hid (BL.take (i + 1) = B0 ++ [bandOf S X Z]) := eb
      clear eh eb
      go_wp2_with (at_builtin; refine wpList_append_int rfl _ _ rfl w0.heap.size ah i ch H0 HT1.out.lh rfl HT1.out.h ⟨w1.heap.size, 0, none⟩ hv rfl (cell_one_int _ _ _) (by omega) HT1.out.bel.size ?_; intro a3 c3 w3 HO3 hg3 hat3)
      have HT3 : Hid (Two w0 a3 c3 (i + 1) (H0 ++ [hv]) ab cb i B0 w3) := HT1.out.add HO3.out hg3 hat3
      clear HO3 hg3 hat3 HT1
      go_wp2_with fail
      refine (rband_c S X Z w3 hS HXi.out HZi.out).mono ?_
      rintro _ w4 ⟨rfl, hb4⟩
      have HT4 : Hid (Two w0 a3 c3 (i + 1) (H0 ++ [hv]) ab cb i B0 (w4.alloc (.cells #[.int .i64 (bandOf S X Z)] 3))) := (HT3.out.on hb4).on ((Below.refl _ _).alloc (Nat.le_refl _) _)
      clear hb4 HT3
      generalize bandOf S X Z = bv at *
      go_wp2_with (at_builtin; refine wpList_append_int rfl _ _ rfl w0.heap.size ab i cb B0 HT4.out.lb rfl HT4.out.b ⟨w4.heap.size, 0, none⟩ bv rfl (cell_one_int _ _ _) (by omega) HT4.out.bel.size ?_; intro a5 c5 w5 HO5 hg5 hat5)
      have HT5 : Hid (Two w0 a3 c3 (i + 1) (HL.take (i + 1)) a5 c5 (i + 1) (BL.take (i + 1)) w5) := by rw [Heh.out, Heb.out]; exact (HT4.out.swap.add HO5.out hg5 hat5).swap
      clear HO5 hg5 hat5 HT4
      go_wp2
      go_roundw
      case rel => first | exact ⟨i + 1, a3, c3, a5, c5, by omega, by go_num, rfl, rfl, HT5⟩ | (trace_state; fail)
      case measure => simp [intOf]; omega
    · obtain rfl : i = 256 := by omega
      have eh : HL.take 256 = HL := List.take_of_length_le (by rw [Hlh.out]; exact Nat.le_refl _)
      have eb : BL.take 256 = BL := List.take_of_length_le (by rw [Hlb.out]; exact Nat.le_refl _)
      have hT := HT.out
      rw [eh, eb] at hT
      have R := HP.out ah ch ab cb wr (Hb0.out.trans (hT.bel.mono Hb0.out.size)) (hT.h.cols (by rw [Hlh.out]; omega)) (hT.b.cols (by rw [Hlb.out]; omega))
      clear HP HT hT eh eb
      go_wp2
      exact R
end Go.Proofs.Ytajjaeaknonmfaa