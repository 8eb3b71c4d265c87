/-
  The law's numbers and tasks: lists that are the same.
-/
import Derived.Test.YtokjbjfpgjincaaLneed
set_option maxRecDepth 20000
namespace Go.Proofs.Ytokjbjfpgjincaa
open Go.RowKit

set_option maxHeartbeats 1000000 in
theorem numbers_c (a b : Option Addr) (n ca cb : Nat) (xs : List Int) (w : World) (ha : IntsAt w a xs) (hb : IntsAt w b xs) (hn : xs.length = n) (hle : n ≤ 1000000) :
    Calls Try.prog 13 #[.slice a n ca, .slice b n cb] w fun e w' => e = .returned (.bool true) ∧ Below w.heap.size w w' := by
  obtain ⟨Post, hPost⟩ : ∃ Post : Ending → World → Prop, Post = fun e w' => e = .returned (.bool true) ∧ Below w.heap.size w w' := ⟨_, rfl⟩
  rw [← hPost]
  have HP : Hid (∀ w', Below w.heap.size w w' → Post (.returned (.bool true)) w') := fun w' h => by rw [hPost]; exact ⟨rfl, h⟩
  clear hPost
  have Ha : Hid (IntsAt w a xs) := ha
  have Hb : Hid (IntsAt w b xs) := hb
  have Hn : Hid (xs.length = n) := hn
  clear ha hb hn
  go_enter Try.func13, Try.ntmps13
  go_wp2
  go_loopw [5] (fun v wr => ∃ (i : Nat), i ≤ n ∧ v = .int .i64 (i : Int) ∧ Hid (Below w.heap.size w wr)) (fun v _ => n - (intOf v).toNat)
  case atStart => exact ⟨0, Nat.zero_le _, by go_num, Below.refl _ _⟩
  case round =>
    obtain ⟨i, hi, rfl, HBe⟩ := hrel
    by_cases hlt : i < n
    · have hlt' : (i : Int) < (n : Int) := by omega
      have hil : i < xs.length := by rw [Hn.out]; exact hlt
      obtain ⟨ab, ao, rfl, hac⟩ : ∃ b off, a = some ⟨b, off, none⟩ ∧ ∀ j (h : j < xs.length), wr.cell? ⟨b, off + j, none⟩ = some (.int .i64 xs[j]) := by
        rcases Ha.out.on HBe.out with h | h
        · rw [h] at hil; simp at hil
        · exact h
      obtain ⟨bb, bo, rfl, hbc⟩ : ∃ b' off, b = some ⟨b', off, none⟩ ∧ ∀ j (h : j < xs.length), wr.cell? ⟨b', off + j, none⟩ = some (.int .i64 xs[j]) := by
        rcases Hb.out.on HBe.out with h | h
        · rw [h] at hil; simp at hil
        · exact h
      have q0 := hac i hil
      have q1 := hbc i hil
      generalize xs[i] = v at *
      clear HP hac hbc
      go_wp2_with fail
      go_big_quiet (fail)
      have HB2 : Hid (Below w.heap.size w (wr.drewN nq)) := below_drewN HBe.out nq
      go_wp2
      go_roundw
      case rel => exact ⟨i + 1, by omega, by go_num, HB2⟩
      case measure => simp [intOf]; omega
    · obtain rfl : i = n := by omega
      have hge : ¬ (i : Int) < (i : Int) := by omega
      have R := HP.out wr HBe.out
      clear HP
      go_wp2
      exact R
set_option maxHeartbeats 1000000 in
theorem tasks_c (a b : Option Addr) (n ca cb : Nat) (xs : List Tk) (w : World) (ha : TksAt w a xs) (hb : TksAt w b xs) (hn : xs.length = n) (hle : n ≤ 1000000) :
    Calls Try.prog 16 #[.slice a n ca, .slice b n cb] w fun e w' => e = .returned (.bool true) ∧ Below w.heap.size w w' := by
  obtain ⟨Post, hPost⟩ : ∃ Post : Ending → World → Prop, Post = fun e w' => e = .returned (.bool true) ∧ Below w.heap.size w w' := ⟨_, rfl⟩
  rw [← hPost]
  have HP : Hid (∀ w', Below w.heap.size w w' → Post (.returned (.bool true)) w') := fun w' h => by rw [hPost]; exact ⟨rfl, h⟩
  clear hPost
  have Ha : Hid (TksAt w a xs) := ha
  have Hb : Hid (TksAt w b xs) := hb
  have Hn : Hid (xs.length = n) := hn
  clear ha hb hn
  go_enter Try.func16, Try.ntmps16
  go_wp2
  go_loopw [5] (fun v wr => ∃ (i : Nat), i ≤ n ∧ v = .int .i64 (i : Int) ∧ Hid (Below w.heap.size w wr)) (fun v _ => n - (intOf v).toNat)
  case atStart => exact ⟨0, Nat.zero_le _, by go_num, Below.refl _ _⟩
  case round =>
    obtain ⟨i, hi, rfl, HBe⟩ := hrel
    by_cases hlt : i < n
    · have hlt' : (i : Int) < (n : Int) := by omega
      have hil : i < xs.length := by rw [Hn.out]; exact hlt
      obtain ⟨ab, ao, rfl, hac⟩ : ∃ b off, a = some ⟨b, off, none⟩ ∧ ∀ k (h : k < xs.length), TkIn wr b off k xs[k] := by
        rcases Ha.out.on HBe.out with h | h
        · rw [h] at hil; simp at hil
        · exact h
      obtain ⟨bb, bo, rfl, hbc⟩ : ∃ b' off, b = some ⟨b', off, none⟩ ∧ ∀ k (h : k < xs.length), TkIn wr b' off k xs[k] := by
        rcases Hb.out.on HBe.out with h | h
        · rw [h] at hil; simp at hil
        · exact h
      have q0 := (hac i hil).c0
      have q1 := (hac i hil).c1
      have q2 := (hac i hil).c2
      have p0 := (hbc i hil).c0
      have p1 := (hbc i hil).c1
      have p2 := (hbc i hil).c2
      generalize xs[i] = v at *
      obtain ⟨v0, v1, v2⟩ := v
      simp only at q0 q1 q2 p0 p1 p2
      clear HP hac hbc
      go_wp2_with fail
      go_big_quiet (fail)
      have HB2 : Hid (Below w.heap.size w (wr.drewN nq)) := below_drewN HBe.out nq
      go_wp2
      go_roundw
      case rel => exact ⟨i + 1, by omega, by go_num, HB2⟩
      case measure => simp [intOf]; omega
    · obtain rfl : i = n := by omega
      have hge : ¬ (i : Int) < (i : Int) := by omega
      have R := HP.out wr HBe.out
      clear HP
      go_wp2
      exact R
end Go.Proofs.Ytokjbjfpgjincaa
