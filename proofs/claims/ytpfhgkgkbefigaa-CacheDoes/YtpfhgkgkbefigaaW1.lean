/-
  The laws' last; where a cache stands in a law.
-/
import Derived.Test.YtpfhgkgkbefigaaWi
set_option maxRecDepth 20000
namespace Go.Proofs.Ytpfhgkgkbefigaa
open Go.RowKit Go.Maps

theorem last_c {w : World} {a : Option Addr} {n c : Nat} {l : List (Int × Int)} (h : Ats w a l) (hn : l.length = n) (hl : n ≤ 1000) (x z : Int) :
    Calls Try.prog 24 #[.slice a n c, valA x z] w fun e w' => e = .returned (.int .i64 (lastK l (x, z) n)) ∧ Below w.heap.size w w' := by
  obtain ⟨Post, hPost⟩ : ∃ Post : Ending → World → Prop, Post = fun e w' => e = .returned (.int .i64 (lastK l (x, z) n)) ∧ Below w.heap.size w w' := ⟨_, rfl⟩
  rw [← hPost]
  have HP : Hid (∀ w', Below w.heap.size w w' → Post (.returned (.int .i64 (lastK l (x, z) n))) w') := fun w' h1 => by rw [hPost]; exact ⟨rfl, h1⟩
  clear hPost
  obtain ⟨hb0, x0, x1⟩ := box_new w x z
  have HA : Hid (Ats w a l) := h
  have HB : Hid (Below w.heap.size w (w.alloc (.cells #[.int .i64 x, .int .i64 z] 31))) := hb0
  clear h hb0
  go_enter Try.func24, Try.ntmps24
  go_upto_region 1 with fail
  have HX : Hid ((w.alloc (.cells #[.int .i64 x, .int .i64 z] 31)).cell? ⟨w.heap.size, 0, none⟩ = some (.int .i64 x) ∧ (w.alloc (.cells #[.int .i64 x, .int .i64 z] 31)).cell? ⟨w.heap.size, 1, none⟩ = some (.int .i64 z)) := ⟨x0, x1⟩
  clear x0 x1
  generalize w.alloc (.cells #[.int .i64 x, .int .i64 z] 31) = w0 at *
  go_wp2
  go_loopw [5, 6] (fun vl vi wr => ∃ k : Nat, vi = .int .i64 (k : Int) ∧ vl = .int .i64 (lastK l (x, z) k) ∧ k ≤ n ∧ Hid (Below w.heap.size w wr ∧ wr.cell? ⟨w.heap.size, 0, none⟩ = some (.int .i64 x) ∧ wr.cell? ⟨w.heap.size, 1, none⟩ = some (.int .i64 z))) (fun _ vi _ => n - (intOf vi).toNat)
  case atStart => exact ⟨0, rfl, rfl, Nat.zero_le _, HB.out, HX.out⟩
  case round =>
    obtain ⟨k, rfl, rfl, hk, HI⟩ := hrel
    obtain ⟨hb, x0, x1⟩ := HI.out
    by_cases hlt : k < n
    · have hlt' : (k : Int) < (n : Int) := by omega
      obtain ⟨b, off, rfl, k0, k1⟩ := (HA.out.on hb) k (by omega)
      have HL : Hid (lastK l (x, z) (k + 1) = if l.getD k (0, 0) = (x, z) then (k : Int) else lastK l (x, z) k) := rfl
      rw [show l.getD k (0, 0) = l[k]'(by omega) by simp [show k < l.length by omega]] at HL
      have hlb := lastK_lt l (x, z) k
      have HI3 : Hid (∀ nq, Below w.heap.size w (wr.drewN nq) ∧ (wr.drewN nq).cell? ⟨w.heap.size, 0, none⟩ = some (.int .i64 x) ∧ (wr.drewN nq).cell? ⟨w.heap.size, 1, none⟩ = some (.int .i64 z)) := fun nq => ⟨hb.trans (⟨rfl, rfl, rfl, Nat.le_refl _, fun _ _ => rfl⟩), x0, x1⟩
      have HLB : Hid (-1 ≤ lastK l (x, z) k ∧ lastK l (x, z) k < k) := hlb
      have hlb1 := hlb.1
      have hlb2 := hlb.2
      generalize hpq : l[k] = pq at *
      obtain ⟨p, q⟩ := pq
      clear hpq hlb hb HA HP HI
      generalize lastK l (x, z) k = L0 at *
      by_cases h1 : p = x
      · by_cases h2 : q = z
        · have HE : Hid (lastK l (x, z) (k + 1) = (k : Int)) := by have := HL.out; rw [h1, h2, if_pos rfl] at this; exact this
          subst h1 h2
          clear HL
          go_wp2
          go_big_quiet (fail)
          go_wp2
          go_roundw
          case rel => exact ⟨k + 1, by go_num, by rw [HE.out], by omega, HI3.out nq⟩
          case measure => simp [intOf]; omega
        · have HE : Hid (lastK l (x, z) (k + 1) = L0) := by have := HL.out; rw [if_neg (by simp [h2])] at this; exact this
          subst h1
          clear HL
          go_wp2
          go_big_quiet (fail)
          go_wp2
          go_roundw
          case rel => exact ⟨k + 1, by go_num, by rw [HE.out], by omega, HI3.out nq⟩
          case measure => simp [intOf]; omega
      · have HE : Hid (lastK l (x, z) (k + 1) = L0) := by have := HL.out; rw [if_neg (by simp [h1])] at this; exact this
        clear HL
        go_wp2
        go_big_quiet (fail)
        go_wp2
        go_roundw
        case rel => exact ⟨k + 1, by go_num, by rw [HE.out], by omega, HI3.out nq⟩
        case measure => simp [intOf]; omega
    · obtain rfl : k = n := by omega
      have R := HP.out wr hb
      go_wp2
      exact R
end Go.Proofs.Ytpfhgkgkbefigaa
