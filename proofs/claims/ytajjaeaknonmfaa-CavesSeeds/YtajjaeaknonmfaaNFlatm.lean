/-
  Plain numbers for the heights: Fade, what lies between two numbers, and Flat over any lattice with heights from 0 to 65535. No program in here.
-/
import Derived.Laws.Bits64
namespace Go.Proofs.Ytajjaeaknonmfaa.N
def cl (t : Int) : Int := if t < 0 then 0 else if 65536 < t then 65536 else t
def poly (t : Int) : Int := t * t * (196608 - 2 * t)
def fade (t : Int) : Int := poly (cl t) / 4294967296
def btw (a b t : Int) : Int := a + (b - a) * t / 65536

theorem cl_bd (t : Int) : 0 ≤ cl t ∧ cl t ≤ 65536 := by
  unfold cl
  split
  · omega
  · split <;> omega
theorem cl_mono {s t : Int} (h : s ≤ t) : cl s ≤ cl t := by
  unfold cl
  split <;> split <;> (try split) <;> (try split) <;> omega
theorem cl_in {t : Int} (h0 : 0 ≤ t) (h1 : t ≤ 65536) : cl t = t := by unfold cl; rw [if_neg (by omega), if_neg (by omega)]

theorem poly_diff (s t : Int) : poly t - poly s = (t - s) * (196608 * (t + s) - 2 * (t * t + t * s + s * s)) := by unfold poly; grind
theorem poly_mono {s t : Int} (h0 : 0 ≤ s) (h : s ≤ t) (h1 : t ≤ 65536) : poly s ≤ poly t := by
  have d := poly_diff s t
  have a : 0 ≤ t * (65536 - t) := Int.mul_nonneg (by omega) (by omega)
  have b : 0 ≤ s * (65536 - s) := Int.mul_nonneg (by omega) (by omega)
  have c : 0 ≤ t * (65536 - s) := Int.mul_nonneg (by omega) (by omega)
  have c' : 0 ≤ s * (65536 - t) := Int.mul_nonneg (by omega) (by omega)
  have e : 0 ≤ 196608 * (t + s) - 2 * (t * t + t * s + s * s) := by grind
  have := Int.mul_nonneg (show 0 ≤ t - s by omega) e
  omega
theorem poly_lip {s t : Int} (h : s ≤ t) : poly t - poly s ≤ (t - s) * 6442450944 := by
  rw [poly_diff s t]
  have a : 0 ≤ (t + s - 65536) * (t + s - 65536) := by
    rcases Int.le_total 0 (t + s - 65536) with h | h
    · exact Int.mul_nonneg h h
    · exact Int.mul_nonneg_of_nonpos_of_nonpos h h
  have b : 0 ≤ (t - s) * (t - s) := Int.mul_nonneg (by omega) (by omega)
  have e : 196608 * (t + s) - 2 * (t * t + t * s + s * s) ≤ 6442450944 := by grind
  exact Int.mul_le_mul_of_nonneg_left e (by omega)
theorem fade_mono {s t : Int} (h : s ≤ t) : fade s ≤ fade t :=
  Int.ediv_le_ediv (by omega) (poly_mono (cl_bd s).1 (cl_mono h) (cl_bd t).2)
theorem fade_0 : fade 0 = 0 := by decide +kernel
theorem fade_1 : fade 65536 = 65536 := by decide +kernel
theorem fade_bd (t : Int) : 0 ≤ fade t ∧ fade t ≤ 65536 := by
  have h := cl_bd t
  have a : poly 0 ≤ poly (cl t) := poly_mono (by omega) h.1 h.2
  have b : poly (cl t) ≤ poly 65536 := poly_mono h.1 h.2 (by omega)
  have e0 : poly 0 = 0 := by decide +kernel
  have e1 : poly 65536 = 65536 * 4294967296 := by decide +kernel
  unfold fade
  omega
/-- A step of d makes at most three halves of it, and one. -/
theorem fade_step {s t d : Int} (h : s ≤ t) (h0 : 0 ≤ s) (h1 : t ≤ 65536) (hd : t - s ≤ d) : fade t - fade s ≤ d + d / 2 + 1 := by
  have a := poly_lip h
  have b : (t - s) * 6442450944 ≤ d * 6442450944 := Int.mul_le_mul_of_nonneg_right hd (by omega)
  unfold fade
  rw [cl_in h0 (by omega), cl_in (by omega) h1]
  omega

theorem btw_low {a b t m : Int} (h0 : 0 ≤ t) (h1 : t ≤ 65536) (ha : m ≤ a) (hb : m ≤ b) : m ≤ btw a b t := by
  unfold btw
  have e : (b - a) * t = (b - m) * t + (a - m) * (65536 - t) - (a - m) * 65536 := by grind
  have p : 0 ≤ (b - m) * t := Int.mul_nonneg (by omega) h0
  have q : 0 ≤ (a - m) * (65536 - t) := Int.mul_nonneg (by omega) (by omega)
  rw [e]
  generalize (b - m) * t = P at *
  generalize (a - m) * (65536 - t) = Q at *
  omega
theorem btw_high {a b t m : Int} (h0 : 0 ≤ t) (h1 : t ≤ 65536) (ha : a ≤ m) (hb : b ≤ m) : btw a b t ≤ m := by
  unfold btw
  have e : (b - a) * t = (a - m) * 65536 * (-1) - (m - b) * t - (m - a) * (65536 - t) := by grind
  have p : 0 ≤ (m - b) * t := Int.mul_nonneg (by omega) h0
  have q : 0 ≤ (m - a) * (65536 - t) := Int.mul_nonneg (by omega) (by omega)
  rw [e]
  generalize (m - b) * t = P at *
  generalize (m - a) * (65536 - t) = Q at *
  omega
theorem btw_0 (a b : Int) : btw a b 0 = a := by unfold btw; omega
theorem btw_1 (a b : Int) : btw a b 65536 = b := by unfold btw; omega
/-- Where t goes on by d, so much more or less is what lies between numbers from 0 to 65535, and one. -/
theorem btw_step {a b s t d : Int} (ha : 0 ≤ a ∧ a ≤ 65535) (hb : 0 ≤ b ∧ b ≤ 65535) (h : s ≤ t) (hd : t - s ≤ d) : btw a b t - btw a b s ≤ d + 1 ∧ btw a b s - btw a b t ≤ d + 1 := by
  have e : (b - a) * t = (b - a) * s + (b - a) * (t - s) := by grind
  have p : (b - a) * (t - s) ≤ 65535 * (t - s) := Int.mul_le_mul_of_nonneg_right (by omega) (by omega)
  have q : -65535 * (t - s) ≤ (b - a) * (t - s) := Int.mul_le_mul_of_nonneg_right (by omega) (by omega)
  unfold btw
  rw [e]
  generalize (b - a) * (t - s) = P at *
  generalize (b - a) * s = Q at *
  constructor <;> omega
/-- Where both numbers go on by d at most, so does what lies between, and one. -/
theorem btw_near {a b a' b' t d : Int} (h0 : 0 ≤ t) (h1 : t ≤ 65536) (ha : a' - a ≤ d) (hb : b' - b ≤ d) : btw a' b' t - btw a b t ≤ d + 1 := by
  have e : (b' - a') * t = (b - a) * t + (b' - b) * t - (a' - a) * t := by grind
  have p : (b' - b) * t ≤ d * t := Int.mul_le_mul_of_nonneg_right hb h0
  have q : (a' - a) * (65536 - t) ≤ d * (65536 - t) := Int.mul_le_mul_of_nonneg_right ha (by omega)
  have r : (a' - a) * (65536 - t) = (a' - a) * 65536 - (a' - a) * t := by grind
  have u : d * (65536 - t) = d * 65536 - d * t := by grind
  rw [r, u] at q
  unfold btw
  rw [e]
  generalize (b' - b) * t = P at *
  generalize (a' - a) * t = Q at *
  generalize (b - a) * t = R at *
  generalize d * t = U at *
  omega

/-- A height of any place: the lattice is any function, S how wide corners are apart. -/
def mid (L : Int → Int → Int) (cx cz tx tz : Int) : Int := btw (btw (L cx cz) (L (cx + 1) cz) tx) (btw (L cx (cz + 1)) (L (cx + 1) (cz + 1)) tx) tz
def frac (x S : Int) : Int := fade (x % S * 65536 / S)
def flat (L : Int → Int → Int) (x z S : Int) : Int := mid L (x / S) (z / S) (frac x S) (frac z S)

theorem frac_bd (x S : Int) : 0 ≤ frac x S ∧ frac x S ≤ 65536 := fade_bd _
theorem mid_low (L : Int → Int → Int) {cx cz tx tz m : Int} (h0 : 0 ≤ tx ∧ tx ≤ 65536) (h1 : 0 ≤ tz ∧ tz ≤ 65536) (a : m ≤ L cx cz) (b : m ≤ L (cx + 1) cz) (c : m ≤ L cx (cz + 1)) (d : m ≤ L (cx + 1) (cz + 1)) : m ≤ mid L cx cz tx tz :=
  btw_low h1.1 h1.2 (btw_low h0.1 h0.2 a b) (btw_low h0.1 h0.2 c d)
theorem mid_high (L : Int → Int → Int) {cx cz tx tz m : Int} (h0 : 0 ≤ tx ∧ tx ≤ 65536) (h1 : 0 ≤ tz ∧ tz ≤ 65536) (a : L cx cz ≤ m) (b : L (cx + 1) cz ≤ m) (c : L cx (cz + 1) ≤ m) (d : L (cx + 1) (cz + 1) ≤ m) : mid L cx cz tx tz ≤ m :=
  btw_high h1.1 h1.2 (btw_high h0.1 h0.2 a b) (btw_high h0.1 h0.2 c d)
theorem frac_step {S m d : Int} (hS : 0 < S) (h : S * d = 65536 ∨ 65536 ≤ S ∧ d = 1) : m * 65536 / S ≤ (m + 1) * 65536 / S ∧ (m + 1) * 65536 / S - m * 65536 / S ≤ d := by
  refine ⟨Int.ediv_le_ediv hS (by omega), ?_⟩
  rcases h with h | ⟨h, rfl⟩
  · rw [show m * 65536 = m * d * S by grind, show (m + 1) * 65536 = (m + 1) * d * S by grind, Int.mul_ediv_cancel _ (by omega), Int.mul_ediv_cancel _ (by omega)]
    grind
  · have a : (m + 1) * 65536 / S ≤ (m * 65536 + S) / S := Int.ediv_le_ediv hS (by omega)
    rw [Int.add_ediv_of_dvd_right ⟨1, by omega⟩, Int.ediv_self (by omega)] at a
    omega
theorem frac_fade {S m d : Int} (hS : 0 < S) (h : S * d = 65536 ∨ 65536 ≤ S ∧ d = 1) (m0 : 0 ≤ m) (m1 : m < S) :
    fade (m * 65536 / S) ≤ fade ((m + 1) * 65536 / S) ∧ fade ((m + 1) * 65536 / S) - fade (m * 65536 / S) ≤ d + d / 2 + 1 := by
  obtain ⟨a, b⟩ := frac_step (m := m) hS h
  have c : 0 ≤ m * 65536 / S := Int.ediv_nonneg (by omega) (by omega)
  have e : (m + 1) * 65536 / S ≤ 65536 * S / S := Int.ediv_le_ediv hS (by omega)
  rw [Int.mul_ediv_cancel _ (by omega)] at e
  exact ⟨fade_mono a, fade_step a c e b⟩
theorem most_le {S d : Int} (hS : 0 < S) (h : S * d = 65536 ∨ 65536 ≤ S ∧ d = 1) : d + d / 2 + 3 ≤ 98304 / S + 6 := by
  rcases h with h | ⟨h, rfl⟩
  · have a : d + d / 2 ≤ 98304 / S := by
      rw [Int.le_ediv_iff_mul_le hS]
      have b : 2 * (d / 2) * S ≤ d * S := Int.mul_le_mul_of_nonneg_right (by omega) (by omega)
      grind
    omega
  · have : 0 ≤ 98304 / S := Int.ediv_nonneg (by omega) (by omega)
    omega

/-- The place behind one: its corner and fraction, or the next corner. -/
theorem next_place (x S : Int) (hS : 0 < S) : (x + 1) / S = x / S ∧ (x + 1) % S = x % S + 1 ∧ x % S + 1 < S ∨ (x + 1) / S = x / S + 1 ∧ (x + 1) % S = 0 ∧ x % S + 1 = S := by
  have e := Int.emod_add_mul_ediv x S
  have l := Int.emod_lt_of_pos x hS
  have n := Int.emod_nonneg x (show S ≠ 0 by omega)
  by_cases h : x % S + 1 < S
  · left
    have e2 : x + 1 = x % S + 1 + S * (x / S) := by omega
    refine ⟨?_, ?_, h⟩
    · rw [e2, Int.add_mul_ediv_left _ _ (by omega), Int.ediv_eq_zero_of_lt (by omega) h]; omega
    · rw [e2, Int.add_mul_emod_self_left, Int.emod_eq_of_lt (by omega) h]
  · right
    have h2 : x % S + 1 = S := by omega
    have e2 : x + 1 = 0 + S * (x / S + 1) := by grind
    refine ⟨?_, ?_, h2⟩
    · rw [e2, Int.add_mul_ediv_left _ _ (by omega)]; simp
    · rw [e2, Int.add_mul_emod_self_left]; simp
theorem mid_x1 (L : Int → Int → Int) (cx cz tz : Int) : mid L (cx + 1) cz 0 tz = mid L cx cz 65536 tz := by unfold mid; rw [btw_0, btw_0, btw_1, btw_1]
theorem mid_z1 (L : Int → Int → Int) (cx cz tx : Int) : mid L cx (cz + 1) tx 0 = mid L cx cz tx 65536 := by unfold mid; rw [btw_0, btw_1]
theorem full {S m : Int} (hS : 0 < S) (h : m + 1 = S) : fade ((m + 1) * 65536 / S) = 65536 := by
  rw [h, Int.mul_comm, Int.mul_ediv_cancel _ (by omega)]; exact fade_1
theorem none_left (S : Int) : fade (0 * 65536 / S) = 0 := by simp [fade_0]

theorem slope_x (L : Int → Int → Int) (hL : ∀ x z, 0 ≤ L x z ∧ L x z ≤ 65535) {S d : Int} (x z : Int) (hS : 0 < S) (h : S * d = 65536 ∨ 65536 ≤ S ∧ d = 1) :
    flat L (x + 1) z S - flat L x z S ≤ 98304 / S + 6 ∧ flat L x z S - flat L (x + 1) z S ≤ 98304 / S + 6 := by
  obtain ⟨m0, m1⟩ : 0 ≤ x % S ∧ x % S < S := ⟨Int.emod_nonneg x (by omega), Int.emod_lt_of_pos x hS⟩
  obtain ⟨f0, f1⟩ := frac_fade hS h m0 m1
  have fb := frac_bd z S
  have hm := most_le hS h
  have e : flat L (x + 1) z S = mid L (x / S) (z / S) (fade ((x % S + 1) * 65536 / S)) (frac z S) := by
    rcases next_place x S hS with ⟨a, b, _⟩ | ⟨a, b, c⟩
    · unfold flat; rw [a]; unfold frac; rw [b]
    · unfold flat; rw [a, full hS c, ← mid_x1]
      unfold frac
      rw [b, none_left]
  rw [e]
  have e2 : flat L x z S = mid L (x / S) (z / S) (fade (x % S * 65536 / S)) (frac z S) := rfl
  rw [e2]
  generalize fade (x % S * 65536 / S) = u at *
  generalize fade ((x % S + 1) * 65536 / S) = v at *
  obtain ⟨p1, p2⟩ := btw_step (hL (x / S) (z / S)) (hL (x / S + 1) (z / S)) f0 f1
  obtain ⟨q1, q2⟩ := btw_step (hL (x / S) (z / S + 1)) (hL (x / S + 1) (z / S + 1)) f0 f1
  have r1 := btw_near fb.1 fb.2 p1 q1
  have r2 := btw_near fb.1 fb.2 p2 q2
  unfold mid
  constructor <;> omega
theorem slope_z (L : Int → Int → Int) (hL : ∀ x z, 0 ≤ L x z ∧ L x z ≤ 65535) {S d : Int} (x z : Int) (hS : 0 < S) (h : S * d = 65536 ∨ 65536 ≤ S ∧ d = 1) :
    flat L x (z + 1) S - flat L x z S ≤ 98304 / S + 6 ∧ flat L x z S - flat L x (z + 1) S ≤ 98304 / S + 6 := by
  obtain ⟨m0, m1⟩ : 0 ≤ z % S ∧ z % S < S := ⟨Int.emod_nonneg z (by omega), Int.emod_lt_of_pos z hS⟩
  obtain ⟨f0, f1⟩ := frac_fade hS h m0 m1
  have fb := frac_bd x S
  have hm := most_le hS h
  have e : flat L x (z + 1) S = mid L (x / S) (z / S) (frac x S) (fade ((z % S + 1) * 65536 / S)) := by
    rcases next_place z S hS with ⟨a, b, _⟩ | ⟨a, b, c⟩
    · unfold flat; rw [a]; unfold frac; rw [b]
    · unfold flat; rw [a, full hS c, ← mid_z1]
      unfold frac
      rw [b, none_left]
  rw [e]
  have e2 : flat L x z S = mid L (x / S) (z / S) (frac x S) (fade (z % S * 65536 / S)) := rfl
  rw [e2]
  generalize fade (z % S * 65536 / S) = u at *
  generalize fade ((z % S + 1) * 65536 / S) = v at *
  have ha : 0 ≤ btw (L (x / S) (z / S)) (L (x / S + 1) (z / S)) (frac x S) ∧ btw (L (x / S) (z / S)) (L (x / S + 1) (z / S)) (frac x S) ≤ 65535 :=
    ⟨btw_low fb.1 fb.2 (hL _ _).1 (hL _ _).1, btw_high fb.1 fb.2 (hL _ _).2 (hL _ _).2⟩
  have hb : 0 ≤ btw (L (x / S) (z / S + 1)) (L (x / S + 1) (z / S + 1)) (frac x S) ∧ btw (L (x / S) (z / S + 1)) (L (x / S + 1) (z / S + 1)) (frac x S) ≤ 65535 :=
    ⟨btw_low fb.1 fb.2 (hL _ _).1 (hL _ _).1, btw_high fb.1 fb.2 (hL _ _).2 (hL _ _).2⟩
  obtain ⟨p1, p2⟩ := btw_step ha hb f0 f1
  unfold mid
  constructor <;> omega
/-- At a corner the height is the corner's. -/
theorem flat_corner (L : Int → Int → Int) (x z S : Int) (hS : 0 < S) : flat L (x * S) (z * S) S = L x z := by
  have c : ∀ y : Int, frac (y * S) S = 0 := fun y => by unfold frac; rw [Int.mul_emod_left, none_left]
  unfold flat mid
  rw [c, c, btw_0, btw_0, Int.mul_ediv_cancel _ (by omega), Int.mul_ediv_cancel _ (by omega)]
theorem flat_bd (L : Int → Int → Int) (hL : ∀ x z, 0 ≤ L x z ∧ L x z ≤ 65535) (x z S : Int) : 0 ≤ flat L x z S ∧ flat L x z S ≤ 65535 :=
  ⟨mid_low L (frac_bd x S) (frac_bd z S) (hL _ _).1 (hL _ _).1 (hL _ _).1 (hL _ _).1, mid_high L (frac_bd x S) (frac_bd z S) (hL _ _).2 (hL _ _).2 (hL _ _).2 (hL _ _).2⟩
end Go.Proofs.Ytajjaeaknonmfaa.N