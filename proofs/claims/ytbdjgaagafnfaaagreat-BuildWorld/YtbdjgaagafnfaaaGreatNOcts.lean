/-
  What the document's Hash, and Below of both, answer, for every number; the document's Hash leaves one new block behind it.
  Plain numbers for the heights: Fade, what lies between two numbers, and Flat over any lattice with heights from 0 to 65535. No program in here.
  What Lattice, Fade, Clamp and split answer, of the program and of the document, for every number; the document's Lattice leaves new blocks behind it, the others turn nothing.
  What between and around answer: what lies between two ends, and the heights of the four corners; both make new blocks and turn nothing that was there.
  What Flat answers, for every number: what lies between the four corners of the plane; it makes new blocks and turns nothing that was there.
  What Octaves answers, for every number: the sum of heights, each half as great and half as wide as the one before; it makes new blocks and turns nothing that was there.
-/
import Derived.Test.YtbdjgaagafnfaaaGreatNDiv
import Derived.Below
import Derived.Laws.Bits64
import Derived.Deep.QuietTactic
import Derived.BigQuiet
import Derived.LoopN
import Derived.Deep.DeepCutAuto
import Derived.Deep.RegionWith
namespace Go.Proofs.YtbdjgaagafnfaaaGreat.N
section
open Go.RowKit

set_option maxHeartbeats 400000 in
theorem rhash_any (S : Nat) (a b c d : Int) (w : World) (hS : S < 18446744073709551616) :
    Calls Tryz.prog 68 #[.int .u64 S, .int .i64 a, .int .i64 b, .int .i64 c, .int .i64 d] w fun e w' => e = .returned (.int .u64 (hashN S a b c d)) ∧ Below w.heap.size w w' := by
  have hw : Hid (Below w.heap.size w (w.alloc (.cells #[.int .i64 a, .int .i64 b, .int .i64 c, .int .i64 d] 141))) := (Below.refl _ _).alloc (Nat.le_refl _) _
  have c0 : (w.alloc (.cells #[.int .i64 a, .int .i64 b, .int .i64 c, .int .i64 d] 141)).cell? ⟨w.heap.size, 0, none⟩ = some (.int .i64 a) := by rw [cell_of_row _ _ _ _ _ _ (heap_alloc_new w _)]; rfl
  have c1 : (w.alloc (.cells #[.int .i64 a, .int .i64 b, .int .i64 c, .int .i64 d] 141)).cell? ⟨w.heap.size, 1, none⟩ = some (.int .i64 b) := by rw [cell_of_row _ _ _ _ _ _ (heap_alloc_new w _)]; rfl
  have c2 : (w.alloc (.cells #[.int .i64 a, .int .i64 b, .int .i64 c, .int .i64 d] 141)).cell? ⟨w.heap.size, 2, none⟩ = some (.int .i64 c) := by rw [cell_of_row _ _ _ _ _ _ (heap_alloc_new w _)]; rfl
  have c3 : (w.alloc (.cells #[.int .i64 a, .int .i64 b, .int .i64 c, .int .i64 d] 141)).cell? ⟨w.heap.size, 3, none⟩ = some (.int .i64 d) := by rw [cell_of_row _ _ _ _ _ _ (heap_alloc_new w _)]; rfl
  go_enter Tryz.func68, Tryz.ntmps68
  go_wp2_with (go_at_call 78; go_must (refine (rmix_any S _ hS).mono ?_); rintro e w' ⟨rfl, hw2⟩; subst w')
  generalize (w.alloc (.cells #[.int .i64 a, .int .i64 b, .int .i64 c, .int .i64 d] 141)) = W at *
  go_loop [11, 13] (fun x i => ∃ k : Nat, k ≤ 4 ∧ i = .int .i64 k ∧ x = .int .u64 (chain link (mixN S) [a, b, c, d] k)) (fun _ i => 4 - (intOf i).toNat)
  case atStart => exact ⟨0, by omega, rfl, val_nat (chain_0 link (mixN S) a b c d).symm⟩
  case round =>
    obtain ⟨k, hk, rfl, rfl⟩ := hrel
    have hh := chain_lt S [a, b, c, d] k
    have hk5 : k = 0 ∨ k = 1 ∨ k = 2 ∨ k = 3 ∨ k = 4 := by omega
    rcases hk5 with rfl | rfl | rfl | rfl | rfl
    · have HL : Hid (chain link (mixN S) [a, b, c, d] 1 = link (chain link (mixN S) [a, b, c, d] 0) a) := chain_1 link (mixN S) a b c d
      generalize chain link (mixN S) [a, b, c, d] 0 = h at *
      have e1 := go_asN a
      have e2 := go_link h a hh
      go_wp2_with (go_at_call 78; go_must (refine (rmix_any _ _ (Nat.mod_lt _ (by decide))).mono ?_); rintro e w' ⟨rfl, hw2⟩; subst w')
      go_round
      case rel => exact ⟨1, by omega, rfl, val_nat (by rw [HL.out, link_eq])⟩
      case measure => simp [intOf]
    · have HL : Hid (chain link (mixN S) [a, b, c, d] 2 = link (chain link (mixN S) [a, b, c, d] 1) b) := chain_2 link (mixN S) a b c d
      generalize chain link (mixN S) [a, b, c, d] 1 = h at *
      have e1 := go_asN b
      have e2 := go_link h b hh
      go_wp2_with (go_at_call 78; go_must (refine (rmix_any _ _ (Nat.mod_lt _ (by decide))).mono ?_); rintro e w' ⟨rfl, hw2⟩; subst w')
      go_round
      case rel => exact ⟨2, by omega, rfl, val_nat (by rw [HL.out, link_eq])⟩
      case measure => simp [intOf]
    · have HL : Hid (chain link (mixN S) [a, b, c, d] 3 = link (chain link (mixN S) [a, b, c, d] 2) c) := chain_3 link (mixN S) a b c d
      generalize chain link (mixN S) [a, b, c, d] 2 = h at *
      have e1 := go_asN c
      have e2 := go_link h c hh
      go_wp2_with (go_at_call 78; go_must (refine (rmix_any _ _ (Nat.mod_lt _ (by decide))).mono ?_); rintro e w' ⟨rfl, hw2⟩; subst w')
      go_round
      case rel => exact ⟨3, by omega, rfl, val_nat (by rw [HL.out, link_eq])⟩
      case measure => simp [intOf]
    · have HL : Hid (chain link (mixN S) [a, b, c, d] 4 = link (chain link (mixN S) [a, b, c, d] 3) d) := chain_4 link (mixN S) a b c d
      generalize chain link (mixN S) [a, b, c, d] 3 = h at *
      have e1 := go_asN d
      have e2 := go_link h d hh
      go_wp2_with (go_at_call 78; go_must (refine (rmix_any _ _ (Nat.mod_lt _ (by decide))).mono ?_); rintro e w' ⟨rfl, hw2⟩; subst w')
      go_round
      case rel => exact ⟨4, by omega, rfl, val_nat (by rw [HL.out, link_eq])⟩
      case measure => simp [intOf]
    · have HC : Hid (chain link (mixN S) [a, b, c, d] 4 = hashN S a b c d) := chain_all S a b c d
      generalize chain link (mixN S) [a, b, c, d] 4 = h at *
      go_wp2
      go_ret
      exact ⟨ret_int (by rw [HC.out]), hw.out⟩
end
section
def cl (t : Int) : Int := if t < 0 then 0 else if 65536 < t then 65536 else t
def poly (t : Int) : Int := t * t * (196608 - 2 * t)
def fade (t : Int) : Int := poly (cl t) / 4294967296
def btw (a b t : Int) : Int := a + (b - a) * t / 65536

theorem cl_bd (t : Int) : 0 ≤ cl t ∧ cl t ≤ 65536 := by
  unfold cl
  split
  · omega
  · split <;> omega
theorem cl_mono {s t : Int} (h : s ≤ t) : cl s ≤ cl t := by
  unfold cl
  split <;> split <;> (try split) <;> (try split) <;> omega
theorem cl_in {t : Int} (h0 : 0 ≤ t) (h1 : t ≤ 65536) : cl t = t := by unfold cl; rw [if_neg (by omega), if_neg (by omega)]

theorem poly_diff (s t : Int) : poly t - poly s = (t - s) * (196608 * (t + s) - 2 * (t * t + t * s + s * s)) := by unfold poly; grind
theorem poly_mono {s t : Int} (h0 : 0 ≤ s) (h : s ≤ t) (h1 : t ≤ 65536) : poly s ≤ poly t := by
  have d := poly_diff s t
  have a : 0 ≤ t * (65536 - t) := Int.mul_nonneg (by omega) (by omega)
  have b : 0 ≤ s * (65536 - s) := Int.mul_nonneg (by omega) (by omega)
  have c : 0 ≤ t * (65536 - s) := Int.mul_nonneg (by omega) (by omega)
  have c' : 0 ≤ s * (65536 - t) := Int.mul_nonneg (by omega) (by omega)
  have e : 0 ≤ 196608 * (t + s) - 2 * (t * t + t * s + s * s) := by grind
  have := Int.mul_nonneg (show 0 ≤ t - s by omega) e
  omega
theorem poly_lip {s t : Int} (h : s ≤ t) : poly t - poly s ≤ (t - s) * 6442450944 := by
  rw [poly_diff s t]
  have a : 0 ≤ (t + s - 65536) * (t + s - 65536) := by
    rcases Int.le_total 0 (t + s - 65536) with h | h
    · exact Int.mul_nonneg h h
    · exact Int.mul_nonneg_of_nonpos_of_nonpos h h
  have b : 0 ≤ (t - s) * (t - s) := Int.mul_nonneg (by omega) (by omega)
  have e : 196608 * (t + s) - 2 * (t * t + t * s + s * s) ≤ 6442450944 := by grind
  exact Int.mul_le_mul_of_nonneg_left e (by omega)
theorem fade_mono {s t : Int} (h : s ≤ t) : fade s ≤ fade t :=
  Int.ediv_le_ediv (by omega) (poly_mono (cl_bd s).1 (cl_mono h) (cl_bd t).2)
theorem fade_0 : fade 0 = 0 := by decide +kernel
theorem fade_1 : fade 65536 = 65536 := by decide +kernel
theorem fade_bd (t : Int) : 0 ≤ fade t ∧ fade t ≤ 65536 := by
  have h := cl_bd t
  have a : poly 0 ≤ poly (cl t) := poly_mono (by omega) h.1 h.2
  have b : poly (cl t) ≤ poly 65536 := poly_mono h.1 h.2 (by omega)
  have e0 : poly 0 = 0 := by decide +kernel
  have e1 : poly 65536 = 65536 * 4294967296 := by decide +kernel
  unfold fade
  omega
/-- A step of d makes at most three halves of it, and one. -/
theorem fade_step {s t d : Int} (h : s ≤ t) (h0 : 0 ≤ s) (h1 : t ≤ 65536) (hd : t - s ≤ d) : fade t - fade s ≤ d + d / 2 + 1 := by
  have a := poly_lip h
  have b : (t - s) * 6442450944 ≤ d * 6442450944 := Int.mul_le_mul_of_nonneg_right hd (by omega)
  unfold fade
  rw [cl_in h0 (by omega), cl_in (by omega) h1]
  omega

theorem btw_low {a b t m : Int} (h0 : 0 ≤ t) (h1 : t ≤ 65536) (ha : m ≤ a) (hb : m ≤ b) : m ≤ btw a b t := by
  unfold btw
  have e : (b - a) * t = (b - m) * t + (a - m) * (65536 - t) - (a - m) * 65536 := by grind
  have p : 0 ≤ (b - m) * t := Int.mul_nonneg (by omega) h0
  have q : 0 ≤ (a - m) * (65536 - t) := Int.mul_nonneg (by omega) (by omega)
  rw [e]
  generalize (b - m) * t = P at *
  generalize (a - m) * (65536 - t) = Q at *
  omega
theorem btw_high {a b t m : Int} (h0 : 0 ≤ t) (h1 : t ≤ 65536) (ha : a ≤ m) (hb : b ≤ m) : btw a b t ≤ m := by
  unfold btw
  have e : (b - a) * t = (a - m) * 65536 * (-1) - (m - b) * t - (m - a) * (65536 - t) := by grind
  have p : 0 ≤ (m - b) * t := Int.mul_nonneg (by omega) h0
  have q : 0 ≤ (m - a) * (65536 - t) := Int.mul_nonneg (by omega) (by omega)
  rw [e]
  generalize (m - b) * t = P at *
  generalize (m - a) * (65536 - t) = Q at *
  omega
theorem btw_0 (a b : Int) : btw a b 0 = a := by unfold btw; omega
theorem btw_1 (a b : Int) : btw a b 65536 = b := by unfold btw; omega
/-- Where t goes on by d, so much more or less is what lies between numbers from 0 to 65535, and one. -/
theorem btw_step {a b s t d : Int} (ha : 0 ≤ a ∧ a ≤ 65535) (hb : 0 ≤ b ∧ b ≤ 65535) (h : s ≤ t) (hd : t - s ≤ d) : btw a b t - btw a b s ≤ d + 1 ∧ btw a b s - btw a b t ≤ d + 1 := by
  have e : (b - a) * t = (b - a) * s + (b - a) * (t - s) := by grind
  have p : (b - a) * (t - s) ≤ 65535 * (t - s) := Int.mul_le_mul_of_nonneg_right (by omega) (by omega)
  have q : -65535 * (t - s) ≤ (b - a) * (t - s) := Int.mul_le_mul_of_nonneg_right (by omega) (by omega)
  unfold btw
  rw [e]
  generalize (b - a) * (t - s) = P at *
  generalize (b - a) * s = Q at *
  constructor <;> omega
/-- Where both numbers go on by d at most, so does what lies between, and one. -/
theorem btw_near {a b a' b' t d : Int} (h0 : 0 ≤ t) (h1 : t ≤ 65536) (ha : a' - a ≤ d) (hb : b' - b ≤ d) : btw a' b' t - btw a b t ≤ d + 1 := by
  have e : (b' - a') * t = (b - a) * t + (b' - b) * t - (a' - a) * t := by grind
  have p : (b' - b) * t ≤ d * t := Int.mul_le_mul_of_nonneg_right hb h0
  have q : (a' - a) * (65536 - t) ≤ d * (65536 - t) := Int.mul_le_mul_of_nonneg_right ha (by omega)
  have r : (a' - a) * (65536 - t) = (a' - a) * 65536 - (a' - a) * t := by grind
  have u : d * (65536 - t) = d * 65536 - d * t := by grind
  rw [r, u] at q
  unfold btw
  rw [e]
  generalize (b' - b) * t = P at *
  generalize (a' - a) * t = Q at *
  generalize (b - a) * t = R at *
  generalize d * t = U at *
  omega

/-- A height of any place: the lattice is any function, S how wide corners are apart. -/
def mid (L : Int → Int → Int) (cx cz tx tz : Int) : Int := btw (btw (L cx cz) (L (cx + 1) cz) tx) (btw (L cx (cz + 1)) (L (cx + 1) (cz + 1)) tx) tz
def frac (x S : Int) : Int := fade (x % S * 65536 / S)
def flat (L : Int → Int → Int) (x z S : Int) : Int := mid L (x / S) (z / S) (frac x S) (frac z S)

theorem frac_bd (x S : Int) : 0 ≤ frac x S ∧ frac x S ≤ 65536 := fade_bd _
theorem mid_low (L : Int → Int → Int) {cx cz tx tz m : Int} (h0 : 0 ≤ tx ∧ tx ≤ 65536) (h1 : 0 ≤ tz ∧ tz ≤ 65536) (a : m ≤ L cx cz) (b : m ≤ L (cx + 1) cz) (c : m ≤ L cx (cz + 1)) (d : m ≤ L (cx + 1) (cz + 1)) : m ≤ mid L cx cz tx tz :=
  btw_low h1.1 h1.2 (btw_low h0.1 h0.2 a b) (btw_low h0.1 h0.2 c d)
theorem mid_high (L : Int → Int → Int) {cx cz tx tz m : Int} (h0 : 0 ≤ tx ∧ tx ≤ 65536) (h1 : 0 ≤ tz ∧ tz ≤ 65536) (a : L cx cz ≤ m) (b : L (cx + 1) cz ≤ m) (c : L cx (cz + 1) ≤ m) (d : L (cx + 1) (cz + 1) ≤ m) : mid L cx cz tx tz ≤ m :=
  btw_high h1.1 h1.2 (btw_high h0.1 h0.2 a b) (btw_high h0.1 h0.2 c d)
theorem frac_step {S m d : Int} (hS : 0 < S) (h : S * d = 65536 ∨ 65536 ≤ S ∧ d = 1) : m * 65536 / S ≤ (m + 1) * 65536 / S ∧ (m + 1) * 65536 / S - m * 65536 / S ≤ d := by
  refine ⟨Int.ediv_le_ediv hS (by omega), ?_⟩
  rcases h with h | ⟨h, rfl⟩
  · rw [show m * 65536 = m * d * S by grind, show (m + 1) * 65536 = (m + 1) * d * S by grind, Int.mul_ediv_cancel _ (by omega), Int.mul_ediv_cancel _ (by omega)]
    grind
  · have a : (m + 1) * 65536 / S ≤ (m * 65536 + S) / S := Int.ediv_le_ediv hS (by omega)
    rw [Int.add_ediv_of_dvd_right ⟨1, by omega⟩, Int.ediv_self (by omega)] at a
    omega
theorem frac_fade {S m d : Int} (hS : 0 < S) (h : S * d = 65536 ∨ 65536 ≤ S ∧ d = 1) (m0 : 0 ≤ m) (m1 : m < S) :
    fade (m * 65536 / S) ≤ fade ((m + 1) * 65536 / S) ∧ fade ((m + 1) * 65536 / S) - fade (m * 65536 / S) ≤ d + d / 2 + 1 := by
  obtain ⟨a, b⟩ := frac_step (m := m) hS h
  have c : 0 ≤ m * 65536 / S := Int.ediv_nonneg (by omega) (by omega)
  have e : (m + 1) * 65536 / S ≤ 65536 * S / S := Int.ediv_le_ediv hS (by omega)
  rw [Int.mul_ediv_cancel _ (by omega)] at e
  exact ⟨fade_mono a, fade_step a c e b⟩
theorem most_le {S d : Int} (hS : 0 < S) (h : S * d = 65536 ∨ 65536 ≤ S ∧ d = 1) : d + d / 2 + 3 ≤ 98304 / S + 6 := by
  rcases h with h | ⟨h, rfl⟩
  · have a : d + d / 2 ≤ 98304 / S := by
      rw [Int.le_ediv_iff_mul_le hS]
      have b : 2 * (d / 2) * S ≤ d * S := Int.mul_le_mul_of_nonneg_right (by omega) (by omega)
      grind
    omega
  · have : 0 ≤ 98304 / S := Int.ediv_nonneg (by omega) (by omega)
    omega

/-- The place behind one: its corner and fraction, or the next corner. -/
theorem next_place (x S : Int) (hS : 0 < S) : (x + 1) / S = x / S ∧ (x + 1) % S = x % S + 1 ∧ x % S + 1 < S ∨ (x + 1) / S = x / S + 1 ∧ (x + 1) % S = 0 ∧ x % S + 1 = S := by
  have e := Int.emod_add_mul_ediv x S
  have l := Int.emod_lt_of_pos x hS
  have n := Int.emod_nonneg x (show S ≠ 0 by omega)
  by_cases h : x % S + 1 < S
  · left
    have e2 : x + 1 = x % S + 1 + S * (x / S) := by omega
    refine ⟨?_, ?_, h⟩
    · rw [e2, Int.add_mul_ediv_left _ _ (by omega), Int.ediv_eq_zero_of_lt (by omega) h]; omega
    · rw [e2, Int.add_mul_emod_self_left, Int.emod_eq_of_lt (by omega) h]
  · right
    have h2 : x % S + 1 = S := by omega
    have e2 : x + 1 = 0 + S * (x / S + 1) := by grind
    refine ⟨?_, ?_, h2⟩
    · rw [e2, Int.add_mul_ediv_left _ _ (by omega)]; simp
    · rw [e2, Int.add_mul_emod_self_left]; simp
theorem mid_x1 (L : Int → Int → Int) (cx cz tz : Int) : mid L (cx + 1) cz 0 tz = mid L cx cz 65536 tz := by unfold mid; rw [btw_0, btw_0, btw_1, btw_1]
theorem mid_z1 (L : Int → Int → Int) (cx cz tx : Int) : mid L cx (cz + 1) tx 0 = mid L cx cz tx 65536 := by unfold mid; rw [btw_0, btw_1]
theorem full {S m : Int} (hS : 0 < S) (h : m + 1 = S) : fade ((m + 1) * 65536 / S) = 65536 := by
  rw [h, Int.mul_comm, Int.mul_ediv_cancel _ (by omega)]; exact fade_1
theorem none_left (S : Int) : fade (0 * 65536 / S) = 0 := by simp [fade_0]

theorem slope_x (L : Int → Int → Int) (hL : ∀ x z, 0 ≤ L x z ∧ L x z ≤ 65535) {S d : Int} (x z : Int) (hS : 0 < S) (h : S * d = 65536 ∨ 65536 ≤ S ∧ d = 1) :
    flat L (x + 1) z S - flat L x z S ≤ 98304 / S + 6 ∧ flat L x z S - flat L (x + 1) z S ≤ 98304 / S + 6 := by
  obtain ⟨m0, m1⟩ : 0 ≤ x % S ∧ x % S < S := ⟨Int.emod_nonneg x (by omega), Int.emod_lt_of_pos x hS⟩
  obtain ⟨f0, f1⟩ := frac_fade hS h m0 m1
  have fb := frac_bd z S
  have hm := most_le hS h
  have e : flat L (x + 1) z S = mid L (x / S) (z / S) (fade ((x % S + 1) * 65536 / S)) (frac z S) := by
    rcases next_place x S hS with ⟨a, b, _⟩ | ⟨a, b, c⟩
    · unfold flat; rw [a]; unfold frac; rw [b]
    · unfold flat; rw [a, full hS c, ← mid_x1]
      unfold frac
      rw [b, none_left]
  rw [e]
  have e2 : flat L x z S = mid L (x / S) (z / S) (fade (x % S * 65536 / S)) (frac z S) := rfl
  rw [e2]
  generalize fade (x % S * 65536 / S) = u at *
  generalize fade ((x % S + 1) * 65536 / S) = v at *
  obtain ⟨p1, p2⟩ := btw_step (hL (x / S) (z / S)) (hL (x / S + 1) (z / S)) f0 f1
  obtain ⟨q1, q2⟩ := btw_step (hL (x / S) (z / S + 1)) (hL (x / S + 1) (z / S + 1)) f0 f1
  have r1 := btw_near fb.1 fb.2 p1 q1
  have r2 := btw_near fb.1 fb.2 p2 q2
  unfold mid
  constructor <;> omega
theorem slope_z (L : Int → Int → Int) (hL : ∀ x z, 0 ≤ L x z ∧ L x z ≤ 65535) {S d : Int} (x z : Int) (hS : 0 < S) (h : S * d = 65536 ∨ 65536 ≤ S ∧ d = 1) :
    flat L x (z + 1) S - flat L x z S ≤ 98304 / S + 6 ∧ flat L x z S - flat L x (z + 1) S ≤ 98304 / S + 6 := by
  obtain ⟨m0, m1⟩ : 0 ≤ z % S ∧ z % S < S := ⟨Int.emod_nonneg z (by omega), Int.emod_lt_of_pos z hS⟩
  obtain ⟨f0, f1⟩ := frac_fade hS h m0 m1
  have fb := frac_bd x S
  have hm := most_le hS h
  have e : flat L x (z + 1) S = mid L (x / S) (z / S) (frac x S) (fade ((z % S + 1) * 65536 / S)) := by
    rcases next_place z S hS with ⟨a, b, _⟩ | ⟨a, b, c⟩
    · unfold flat; rw [a]; unfold frac; rw [b]
    · unfold flat; rw [a, full hS c, ← mid_z1]
      unfold frac
      rw [b, none_left]
  rw [e]
  have e2 : flat L x z S = mid L (x / S) (z / S) (frac x S) (fade (z % S * 65536 / S)) := rfl
  rw [e2]
  generalize fade (z % S * 65536 / S) = u at *
  generalize fade ((z % S + 1) * 65536 / S) = v at *
  have ha : 0 ≤ btw (L (x / S) (z / S)) (L (x / S + 1) (z / S)) (frac x S) ∧ btw (L (x / S) (z / S)) (L (x / S + 1) (z / S)) (frac x S) ≤ 65535 :=
    ⟨btw_low fb.1 fb.2 (hL _ _).1 (hL _ _).1, btw_high fb.1 fb.2 (hL _ _).2 (hL _ _).2⟩
  have hb : 0 ≤ btw (L (x / S) (z / S + 1)) (L (x / S + 1) (z / S + 1)) (frac x S) ∧ btw (L (x / S) (z / S + 1)) (L (x / S + 1) (z / S + 1)) (frac x S) ≤ 65535 :=
    ⟨btw_low fb.1 fb.2 (hL _ _).1 (hL _ _).1, btw_high fb.1 fb.2 (hL _ _).2 (hL _ _).2⟩
  obtain ⟨p1, p2⟩ := btw_step ha hb f0 f1
  unfold mid
  constructor <;> omega
/-- At a corner the height is the corner's. -/
theorem flat_corner (L : Int → Int → Int) (x z S : Int) (hS : 0 < S) : flat L (x * S) (z * S) S = L x z := by
  have c : ∀ y : Int, frac (y * S) S = 0 := fun y => by unfold frac; rw [Int.mul_emod_left, none_left]
  unfold flat mid
  rw [c, c, btw_0, btw_0, Int.mul_ediv_cancel _ (by omega), Int.mul_ediv_cancel _ (by omega)]
theorem flat_bd (L : Int → Int → Int) (hL : ∀ x z, 0 ≤ L x z ∧ L x z ≤ 65535) (x z S : Int) : 0 ≤ flat L x z S ∧ flat L x z S ≤ 65535 :=
  ⟨mid_low L (frac_bd x S) (frac_bd z S) (hL _ _).1 (hL _ _).1 (hL _ _).1 (hL _ _).1, mid_high L (frac_bd x S) (frac_bd z S) (hL _ _).2 (hL _ _).2 (hL _ _).2 (hL _ _).2⟩
end
section
open Go.RowKit

/-- The height of a corner. -/
def latN (S : Nat) (stage x z : Int) : Int := (hashN S stage x 0 z : Int) / 281474976710656
theorem lat_bd (S : Nat) (stage x z : Int) : 0 ≤ latN S stage x z ∧ latN S stage x z ≤ 65535 := by
  have h := hashN_lt S stage x 0 z
  unfold latN
  omega
theorem lat_out (S : Nat) (stage x z : Int) : wrap64 ((hashN S stage x 0 z : Int) / 281474976710656) = latN S stage x z := by
  have h := lat_bd S stage x z
  unfold latN at *
  unfold wrap64
  omega
set_option maxHeartbeats 400000 in
theorem rlattice_any (S : Nat) (stage x z : Int) (w : World) (hS : S < 18446744073709551616) :
    Calls Tryz.prog 82 #[.int .u64 S, .int .i64 stage, .int .i64 x, .int .i64 z] w fun e w' => e = .returned (.int .i64 (latN S stage x z)) ∧ Below w.heap.size w w' := by
  have HL : Hid _ := lat_out S stage x z
  go_enter Tryz.func82, Tryz.ntmps82
  go_wp2_with (go_at_call 68; go_must (refine (rhash_any S stage x 0 z _ hS).mono ?_); rintro e w' ⟨rfl, hb⟩)
  go_ret
  exact ⟨ret_int HL.out, hb⟩

theorem rclamp_any (t : Int) (w : World) : Calls Tryz.prog 89 #[.int .i64 t, .int .i64 0, .int .i64 65536] w fun e w' => e = .returned (.int .i64 (cl t)) ∧ w' = w := by
  by_cases h : t < 0
  · have e : cl t = 0 := by unfold cl; rw [if_pos h]
    rw [e]
    go_enter Tryz.func89, Tryz.ntmps89
    go_wp2
    go_ret
    exact ⟨rfl, rfl⟩
  · by_cases h2 : 65536 < t
    · have e : cl t = 65536 := by unfold cl; rw [if_neg h, if_pos h2]
      rw [e]
      go_enter Tryz.func89, Tryz.ntmps89
      go_wp2
      go_ret
      exact ⟨rfl, rfl⟩
    · have e : cl t = t := by unfold cl; rw [if_neg h, if_neg h2]
      rw [e]
      go_enter Tryz.func89, Tryz.ntmps89
      go_wp2
      go_ret
      exact ⟨rfl, rfl⟩

theorem sq_bd {c : Int} (h0 : 0 ≤ c) (h1 : c ≤ 65536) : 0 ≤ c * c ∧ c * c ≤ 4294967296 :=
  ⟨Int.mul_nonneg h0 h0, Int.mul_le_mul h1 h1 h0 (by omega)⟩
theorem poly_bd {c : Int} (h0 : 0 ≤ c) (h1 : c ≤ 65536) : 0 ≤ poly c ∧ poly c ≤ 281474976710656 := by
  have a : poly 0 ≤ poly c := poly_mono (by omega) h0 h1
  have b : poly c ≤ poly 65536 := poly_mono h0 h1 (by omega)
  have e0 : poly 0 = 0 := by decide +kernel
  have e1 : poly 65536 = 281474976710656 := by decide +kernel
  omega
set_option maxHeartbeats 400000 in
theorem rfade_any (t : Int) (w : World) : Calls Tryz.prog 80 #[.int .i64 t] w fun e w' => e = .returned (.int .i64 (fade t)) ∧ w' = w := by
  have HF : Hid (fade t = poly (cl t) / 4294967296) := rfl
  have hc := cl_bd t
  have hq := sq_bd hc.1 hc.2
  have hp := poly_bd hc.1 hc.2
  have hpe : cl t * cl t * (196608 - 2 * cl t) = poly (cl t) := rfl
  go_enter Tryz.func80, Tryz.ntmps80
  go_wp2_with fail
  refine (rclamp_any t _).mono ?_
  rintro e w' ⟨rfl, hw⟩
  subst w'
  generalize cl t = c at *
  go_wp2
  go_ret
  exact ⟨ret_int (by rw [HF.out]), rfl⟩

theorem ret_two {a b c : Int} (h : c = b) : Ending.returned (.tuple #[.int .i64 a, .int .i64 b]) = .returned (.tuple #[.int .i64 a, .int .i64 c]) := by rw [h]
theorem rest_bd {v a : Int} (h1 : 1 ≤ a) (h2 : a ≤ 1048576) : (0 ≤ v % a ∧ v % a < a) ∧ 0 ≤ v % a * 65536 ∧ v % a * 65536 ≤ 68719476736 := by
  have m0 := Int.emod_nonneg v (show a ≠ 0 by omega)
  have m1 := Int.emod_lt_of_pos v (show 0 < a by omega)
  omega
end
section
open Go.RowKit

theorem drewN_heap (w : World) (n : Nat) : (w.drewN n).heap = w.heap ∧ (w.drewN n).os = w.os ∧ (w.drewN n).tape = w.tape ∧ (w.drewN n).output = w.output := by
  induction n generalizing w with
  | zero => exact ⟨rfl, rfl, rfl, rfl⟩
  | succ n ih => exact ih w.drew
theorem below_drewN {B : Nat} {w w' : World} (h : Below B w w') (n : Nat) : Below B w (w'.drewN n) := by
  obtain ⟨e, o, t, u⟩ := drewN_heap w' n
  exact ⟨by rw [o]; exact h.os, by rw [t]; exact h.tape, by rw [u]; exact h.output, by rw [e]; exact h.size, fun k hk => by rw [e]; exact h.block k hk⟩

theorem i64_id {n : Int} (h0 : -9223372036854775808 ≤ n) (h1 : n ≤ 9223372036854775807) : IntKind.i64.wrap n = n := by rw [IntKind.wrap_i64]; omega
theorem side_bd {a b t : Int} (ha : 0 ≤ a ∧ a ≤ 65535) (hb : 0 ≤ b ∧ b ≤ 65535) (ht : 0 ≤ t ∧ t ≤ 65536) : -4294967296 ≤ (b - a) * t ∧ (b - a) * t ≤ 4294967296 := by
  have p : (b - a) * t ≤ 65536 * t := Int.mul_le_mul_of_nonneg_right (by omega) ht.1
  have q : -65536 * t ≤ (b - a) * t := Int.mul_le_mul_of_nonneg_right (by omega) ht.1
  omega
/-- The world in which the result is taken over. -/
def fin (wr : World) (n : Nat) (p q r s : Int) : World :=
  (((wr.setCell ⟨n, 0, none⟩ (.int .i64 p)).setCell ⟨n, 1, none⟩ (.int .i64 q)).setCell ⟨n, 2, none⟩ (.int .i64 r)).setCell ⟨n, 3, none⟩ (.int .i64 s)
end
section
open Go.RowKit

/-- The corners of a plane: beyond the greatest number comes the least one. -/
def plane (S : Nat) (stage : Int) (x z : Int) : Int := latN S stage (wrap64 x) (wrap64 z)
theorem plane_bd (S : Nat) (stage x z : Int) : 0 ≤ plane S stage x z ∧ plane S stage x z ≤ 65535 := lat_bd _ _ _ _
def wide (shift : Int) : Int := 2 ^ shift.toNat
theorem wide_bd {shift : Int} (h0 : 0 ≤ shift) (h1 : shift ≤ 20) : 1 ≤ wide shift ∧ wide shift ≤ 1048576 := by
  have h : shift = 0 ∨ shift = 1 ∨ shift = 2 ∨ shift = 3 ∨ shift = 4 ∨ shift = 5 ∨ shift = 6 ∨ shift = 7 ∨ shift = 8 ∨ shift = 9 ∨ shift = 10 ∨ shift = 11 ∨ shift = 12 ∨ shift = 13 ∨ shift = 14 ∨ shift = 15 ∨ shift = 16 ∨ shift = 17 ∨ shift = 18 ∨ shift = 19 ∨ shift = 20 := by omega
  rcases h with rfl | rfl | rfl | rfl | rfl | rfl | rfl | rfl | rfl | rfl | rfl | rfl | rfl | rfl | rfl | rfl | rfl | rfl | rfl | rfl | rfl <;> decide +kernel
theorem div_in {x a : Int} (hx : -9223372036854775808 ≤ x ∧ x ≤ 9223372036854775807) (ha : 1 ≤ a) : -9223372036854775808 ≤ x / a ∧ x / a ≤ 9223372036854775807 := by
  have d := div_bd x a ha
  rcases Int.lt_or_le x 0 with k | k
  · have := d.2 k; omega
  · have := d.1 k; omega
theorem w64_in {n : Int} (h : -9223372036854775808 ≤ n ∧ n ≤ 9223372036854775807) : wrap64 n = n := by unfold wrap64; omega
theorem btw_bd {a b t : Int} (ha : 0 ≤ a ∧ a ≤ 65535) (hb : 0 ≤ b ∧ b ≤ 65535) (ht : 0 ≤ t ∧ t ≤ 65536) : 0 ≤ btw a b t ∧ btw a b t ≤ 65535 :=
  ⟨btw_low ht.1 ht.2 ha.1 hb.1, btw_high ht.1 ht.2 ha.2 hb.2⟩
/-- What Flat answers. -/
def flatN (S : Nat) (stage x z shift : Int) : Int := if shift < 0 ∨ 20 < shift then 0 else flat (plane S stage) x z (wide shift)
theorem flatN_out (S : Nat) (stage x z : Int) {shift : Int} (h : shift < 0 ∨ 20 < shift) : flatN S stage x z shift = 0 := by unfold flatN; rw [if_pos h]
theorem flatN_in (S : Nat) (stage x z : Int) {shift : Int} (h0 : 0 ≤ shift) (h1 : shift ≤ 20) : flatN S stage x z shift = flat (plane S stage) x z (wide shift) := by unfold flatN; rw [if_neg (by omega)]
theorem flatN_bd (S : Nat) (stage x z shift : Int) : 0 ≤ flatN S stage x z shift ∧ flatN S stage x z shift ≤ 65535 := by
  unfold flatN
  split
  · omega
  · exact flat_bd _ (plane_bd S stage) _ _ _
end
section
open Go.RowKit

/-- The first k heights, each half as great and half as wide as the one before. -/
def octs (S : Nat) (stage x z shift : Int) : Nat → Int
  | 0 => 0
  | k + 1 => octs S stage x z shift k + flatN S (wrap64 (stage + 100 * k)) x z (shift - k) / 2 ^ (k + 1)
theorem term_bd {f : Int} (h : 0 ≤ f ∧ f ≤ 65535) (k : Nat) (hk : k ≤ 7) : 0 ≤ f / 2 ^ (k + 1) ∧ f / 2 ^ (k + 1) ≤ 65536 / 2 ^ (k + 1) ∧ (65536 : Int) / 2 ^ (k + 1) * 2 = 65536 / 2 ^ k := by
  have hk8 : k = 0 ∨ k = 1 ∨ k = 2 ∨ k = 3 ∨ k = 4 ∨ k = 5 ∨ k = 6 ∨ k = 7 := by omega
  rcases hk8 with rfl | rfl | rfl | rfl | rfl | rfl | rfl | rfl <;> simp <;> omega
theorem octs_bd (S : Nat) (stage x z shift : Int) (k : Nat) (hk : k ≤ 8) : 0 ≤ octs S stage x z shift k ∧ octs S stage x z shift k ≤ 65536 - 65536 / 2 ^ k := by
  induction k with
  | zero => simp [octs]
  | succ k ih =>
    have i := ih (by omega)
    have t := term_bd (flatN_bd S (wrap64 (stage + 100 * k)) x z (shift - k)) k (by omega)
    unfold octs
    omega
/-- What Octaves answers. -/
def octN (S : Nat) (stage x z shift many : Int) : Int := if many < 1 ∨ 8 < many ∨ shift < many - 1 ∨ 20 < shift then 0 else octs S stage x z shift many.toNat
theorem octN_out (S : Nat) (stage x z : Int) {shift many : Int} (h : many < 1 ∨ 8 < many ∨ shift < many - 1 ∨ 20 < shift) : octN S stage x z shift many = 0 := by unfold octN; rw [if_pos h]
theorem octN_in (S : Nat) (stage x z : Int) {shift many : Int} (m0 : 1 ≤ many) (m1 : many ≤ 8) (h0 : many - 1 ≤ shift) (h1 : shift ≤ 20) : octN S stage x z shift many = octs S stage x z shift many.toNat := by unfold octN; rw [if_neg (by omega)]
theorem octN_bd (S : Nat) (stage x z shift many : Int) : 0 ≤ octN S stage x z shift many ∧ octN S stage x z shift many ≤ 65535 := by
  by_cases h : many < 1 ∨ 8 < many ∨ shift < many - 1 ∨ 20 < shift
  · rw [octN_out S stage x z h]; omega
  · rw [octN_in S stage x z (by omega) (by omega) (by omega) (by omega)]
    have hk : many.toNat = 1 ∨ many.toNat = 2 ∨ many.toNat = 3 ∨ many.toNat = 4 ∨ many.toNat = 5 ∨ many.toNat = 6 ∨ many.toNat = 7 ∨ many.toNat = 8 := by omega
    have b := octs_bd S stage x z shift many.toNat (by omega)
    refine ⟨b.1, ?_⟩
    rcases hk with e | e | e | e | e | e | e | e <;> rw [e] at b ⊢ <;> simp at b <;> omega
end
end Go.Proofs.YtbdjgaagafnfaaaGreat.N
