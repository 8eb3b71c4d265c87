/-
  Plain numbers of 64 bits: what Mix, Unmix, Hash and Below make of them, and that Mix and Unmix undo one another. No program in here.
  What Mix and Unmix of the program and the Mix of the document answer, for every number of 64 bits; none turns anything.
  What Div and Mod answer, of the program and of the document, for every two integers: the quotient rounded down and the rest, 0 for a divisor below 1; none turns anything.
-/
import Derived.Laws.Bits64
import Derived.Test.YtbdjgaagafnfaaaProg
import Derived.WalkKit
import Derived.WalkLawsBesides
import Derived.WalkSpells
namespace Go.Proofs.Ytbdjgaagafnfaaa.N
section
def st1 (x : Nat) : Nat := (x ^^^ x / 1073741824) * 13787848793156543929 % 18446744073709551616
def st2 (x : Nat) : Nat := (x ^^^ x / 134217728) * 10723151780598845931 % 18446744073709551616
def st3 (x : Nat) : Nat := x ^^^ x / 2147483648
def mixN (x : Nat) : Nat := st3 (st2 (st1 x))
def un3 (x : Nat) : Nat := (x ^^^ x / 2147483648 ^^^ x / 4611686018427387904) * 3573116690164977347 % 18446744073709551616
def un2 (x : Nat) : Nat := (x ^^^ x / 134217728 ^^^ x / 18014398509481984) * 10871156337175269513 % 18446744073709551616
def un1 (x : Nat) : Nat := x ^^^ x / 1073741824 ^^^ x / 1152921504606846976
def unmixN (x : Nat) : Nat := un1 (un2 (un3 x))

theorem xor_lt {a b : Nat} (ha : a < 18446744073709551616) (hb : b < 18446744073709551616) : a ^^^ b < 18446744073709551616 :=
  Nat.xor_lt_two_pow (n := 64) ha hb
theorem div_lt {a s : Nat} (ha : a < 18446744073709551616) : a / s < 18446744073709551616 := Nat.lt_of_le_of_lt (Nat.div_le_self _ _) ha

/-- A number turned by itself shifted, turned by that once more and by what is behind it, is the number. -/
theorem there (s x : Nat) (hs : 64 ≤ 3 * s) (hx : x < 18446744073709551616) :
    (x ^^^ x >>> s) ^^^ (x ^^^ x >>> s) >>> s ^^^ (x ^^^ x >>> s) >>> (2 * s) = x := by
  have h3 : x >>> (s + 2 * s) = 0 := by
    rw [Nat.shiftRight_eq_div_pow]
    refine Nat.div_eq_of_lt (Nat.lt_of_lt_of_le hx ?_)
    exact Nat.pow_le_pow_right (n := 2) (by omega) (show 64 ≤ s + 2 * s by omega)
  rw [Nat.shiftRight_xor_distrib, Nat.shiftRight_xor_distrib, ← Nat.shiftRight_add, ← Nat.shiftRight_add, h3, Nat.xor_zero, show s + s = 2 * s by omega, Nat.xor_assoc, Nat.xor_assoc, Nat.xor_assoc, Nat.xor_self, Nat.xor_zero, Nat.xor_self, Nat.xor_zero]
theorem back (s x : Nat) (hs : 64 ≤ 3 * s) (hx : x < 18446744073709551616) :
    (x ^^^ x >>> s ^^^ x >>> (2 * s)) ^^^ (x ^^^ x >>> s ^^^ x >>> (2 * s)) >>> s = x := by
  have h3 : x >>> (2 * s + s) = 0 := by
    rw [Nat.shiftRight_eq_div_pow]
    refine Nat.div_eq_of_lt (Nat.lt_of_lt_of_le hx ?_)
    exact Nat.pow_le_pow_right (n := 2) (by omega) (show 64 ≤ 2 * s + s by omega)
  rw [Nat.shiftRight_xor_distrib, Nat.shiftRight_xor_distrib, ← Nat.shiftRight_add, ← Nat.shiftRight_add, h3, Nat.xor_zero, show s + s = 2 * s by omega, Nat.xor_assoc, Nat.xor_assoc]
  rw [← Nat.xor_assoc (x >>> (2 * s)), Nat.xor_comm (x >>> (2 * s)) (x >>> s), Nat.xor_assoc (x >>> s), Nat.xor_self, Nat.xor_zero, Nat.xor_self, Nat.xor_zero]
theorem times (a c d : Nat) (ha : a < 18446744073709551616) (h : c * d % 18446744073709551616 = 1) : a * c % 18446744073709551616 * d % 18446744073709551616 = a := by
  rw [Nat.mod_mul_mod, Nat.mul_assoc, Nat.mul_mod, h, Nat.mul_one, Nat.mod_mod]
  exact Nat.mod_eq_of_lt ha

theorem sh (x s k : Nat) (h : s = 2 ^ k) : x / s = x >>> k := by rw [Nat.shiftRight_eq_div_pow, h]
theorem st1_lt (x : Nat) : st1 x < 18446744073709551616 := Nat.mod_lt _ (by decide)
theorem st2_lt (x : Nat) : st2 x < 18446744073709551616 := Nat.mod_lt _ (by decide)
theorem un2_lt (x : Nat) : un2 x < 18446744073709551616 := Nat.mod_lt _ (by decide)
theorem un3_lt (x : Nat) : un3 x < 18446744073709551616 := Nat.mod_lt _ (by decide)
theorem st3_lt {x : Nat} (h : x < 18446744073709551616) : st3 x < 18446744073709551616 := xor_lt h (div_lt h)
theorem un1_lt {x : Nat} (h : x < 18446744073709551616) : un1 x < 18446744073709551616 := xor_lt (xor_lt h (div_lt h)) (div_lt h)
theorem mixN_lt (x : Nat) : mixN x < 18446744073709551616 := st3_lt (st2_lt _)
theorem unmixN_lt (x : Nat) : unmixN x < 18446744073709551616 := un1_lt (un2_lt _)

theorem un3_st3 (x : Nat) (h : x < 18446744073709551616) : un3 (st3 x) = x * 3573116690164977347 % 18446744073709551616 := by
  have e := there 31 x (by omega) h
  unfold un3 st3
  rw [sh _ 2147483648 31 (by decide), sh _ 4611686018427387904 62 (by decide), sh _ 2147483648 31 (by decide), e]
theorem st1_un1 (x : Nat) (h : x < 18446744073709551616) : st1 (un1 x) = x * 13787848793156543929 % 18446744073709551616 := by
  have e := back 30 x (by omega) h
  unfold un1 st1
  rw [sh _ 1073741824 30 (by decide), sh _ 1152921504606846976 60 (by decide), sh _ 1073741824 30 (by decide), e]
theorem un2_mid (x : Nat) (h : x < 18446744073709551616) : un2 (x ^^^ x / 134217728) = x * 10871156337175269513 % 18446744073709551616 := by
  have e := there 27 x (by omega) h
  unfold un2
  rw [sh _ 134217728 27 (by decide), sh _ 18014398509481984 54 (by decide), sh _ 134217728 27 (by decide), e]
theorem st2_mid (x : Nat) (h : x < 18446744073709551616) : st2 (x ^^^ x / 134217728 ^^^ x / 18014398509481984) = x * 10723151780598845931 % 18446744073709551616 := by
  have e := back 27 x (by omega) h
  unfold st2
  rw [sh _ 134217728 27 (by decide), sh _ 18014398509481984 54 (by decide), sh _ 134217728 27 (by decide), e]
theorem un1_mid (x : Nat) (h : x < 18446744073709551616) : un1 (x ^^^ x / 1073741824) = x := by
  have e := there 30 x (by omega) h
  unfold un1
  rw [sh _ 1073741824 30 (by decide), sh _ 1152921504606846976 60 (by decide), sh _ 1073741824 30 (by decide), e]
theorem st3_mid (x : Nat) (h : x < 18446744073709551616) : st3 (x ^^^ x / 2147483648 ^^^ x / 4611686018427387904) = x := by
  have e := back 31 x (by omega) h
  unfold st3
  rw [sh _ 2147483648 31 (by decide), sh _ 4611686018427387904 62 (by decide), sh _ 2147483648 31 (by decide), e]

theorem unmix_mix (x : Nat) (h : x < 18446744073709551616) : unmixN (mixN x) = x := by
  unfold unmixN mixN
  rw [un3_st3 _ (st2_lt _)]
  have e2 : st2 (st1 x) * 3573116690164977347 % 18446744073709551616 = st1 x ^^^ st1 x / 134217728 :=
    times (st1 x ^^^ st1 x / 134217728) 10723151780598845931 3573116690164977347 (xor_lt (st1_lt x) (div_lt (st1_lt x))) (by decide +kernel)
  rw [e2, un2_mid _ (st1_lt x)]
  have e1 : st1 x * 10871156337175269513 % 18446744073709551616 = x ^^^ x / 1073741824 :=
    times (x ^^^ x / 1073741824) 13787848793156543929 10871156337175269513 (xor_lt h (div_lt h)) (by decide +kernel)
  rw [e1, un1_mid x h]
theorem mix_unmix (x : Nat) (h : x < 18446744073709551616) : mixN (unmixN x) = x := by
  unfold unmixN mixN
  rw [st1_un1 _ (un2_lt _)]
  have e2 : un2 (un3 x) * 13787848793156543929 % 18446744073709551616 = un3 x ^^^ un3 x / 134217728 ^^^ un3 x / 18014398509481984 :=
    times (un3 x ^^^ un3 x / 134217728 ^^^ un3 x / 18014398509481984) 10871156337175269513 13787848793156543929 (xor_lt (xor_lt (un3_lt x) (div_lt (un3_lt x))) (div_lt (un3_lt x))) (by decide +kernel)
  rw [e2, st2_mid _ (un3_lt x)]
  have e1 : un3 x * 10723151780598845931 % 18446744073709551616 = x ^^^ x / 2147483648 ^^^ x / 4611686018427387904 :=
    times (x ^^^ x / 2147483648 ^^^ x / 4611686018427387904) 3573116690164977347 10723151780598845931 (xor_lt (xor_lt h (div_lt h)) (div_lt h)) (by decide +kernel)
  rw [e1, st3_mid x h]
theorem mixN_inj {x y : Nat} (hx : x < 18446744073709551616) (hy : y < 18446744073709551616) (h : mixN x = mixN y) : x = y := by
  rw [← unmix_mix x hx, h, unmix_mix y hy]

/-- An int as a number of 64 bits. -/
def asN (n : Int) : Nat := (n % 18446744073709551616).toNat
theorem asN_lt (n : Int) : asN n < 18446744073709551616 := by unfold asN; omega
theorem asN_eq (n : Int) : ((asN n : Nat) : Int) = n % 18446744073709551616 := by unfold asN; omega
/-- One link of the chain. -/
def link (h : Nat) (n : Int) : Nat := mixN (((h ^^^ asN n) + 11400714819323198485) % 18446744073709551616)
theorem link_lt (h : Nat) (n : Int) : link h n < 18446744073709551616 := mixN_lt _
def hashN (seed : Nat) (stage x y z : Int) : Nat := link (link (link (link (mixN seed) stage) x) y) z
theorem hashN_lt (seed : Nat) (stage x y z : Int) : hashN seed stage x y z < 18446744073709551616 := link_lt _ _
end
section
open Go.RowKit

theorem ret_int {k : IntKind} {a b : Int} (h : a = b) : Ending.returned (.int k a) = .returned (.int k b) := by rw [h]

theorem go_st1 (X : Nat) (hX : X < 18446744073709551616) : IntKind.u64.wrap (bits .xor .u64 (X : Int) ((X : Int) / 1073741824) * 13787848793156543929) = (st1 X : Int) :=
  mixStep_u64 X 1073741824 13787848793156543929 hX
theorem go_st2 (X : Nat) (hX : X < 18446744073709551616) : IntKind.u64.wrap (bits .xor .u64 (X : Int) ((X : Int) / 134217728) * 10723151780598845931) = (st2 X : Int) :=
  mixStep_u64 X 134217728 10723151780598845931 hX
theorem go_st3 (X : Nat) (hX : X < 18446744073709551616) : bits .xor .u64 (X : Int) ((X : Int) / 2147483648) = (st3 X : Int) :=
  xorShift_u64 X 2147483648 hX
set_option maxHeartbeats 400000 in
theorem mix_any (X : Nat) (w : World) (hX : X < 18446744073709551616) :
    Calls Try.prog 99 #[.int .u64 X] w fun e w' => e = .returned (.int .u64 (mixN X)) ∧ w' = w := by
  go_enter Try.func99, Try.ntmps99
  go_wp2
  go_ret
  exact ⟨ret_int (by rw [go_st1 X hX, go_st2 _ (st1_lt X), go_st3 _ (st2_lt _)]; rfl), rfl⟩
set_option maxHeartbeats 400000 in
theorem rmix_any (X : Nat) (w : World) (hX : X < 18446744073709551616) :
    Calls Try.prog 70 #[.int .u64 X] w fun e w' => e = .returned (.int .u64 (mixN X)) ∧ w' = w := by
  go_enter Try.func70, Try.ntmps70
  go_wp2
  go_ret
  exact ⟨ret_int (by rw [go_st1 X hX, go_st2 _ (st1_lt X), go_st3 _ (st2_lt _)]; rfl), rfl⟩
/-- An int made a number of 64 bits, as the walk spells it. -/
theorem go_asN (n : Int) : IntKind.u64.wrap n = (asN n : Int) := by rw [IntKind.wrap_u64, asN_eq]
theorem go_link (h : Nat) (n : Int) (hh : h < 18446744073709551616) : IntKind.u64.wrap (bits .xor .u64 (h : Int) (asN n : Int) + 11400714819323198485) = ((((h ^^^ asN n) + 11400714819323198485) % 18446744073709551616 : Nat) : Int) := by
  rw [bits_xor_u64_nat _ _ hh (asN_lt n), IntKind.wrap_u64]
  omega
/-- The chain behind its first k links. -/
def chain (f : Nat → Int → Nat) (h : Nat) (l : List Int) (k : Nat) : Nat := (l.take k).foldl f h
theorem foldl_lt (f : Nat → Int → Nat) (hf : ∀ h n, f h n < 18446744073709551616) (l : List Int) (h : Nat) (hh : h < 18446744073709551616) : l.foldl f h < 18446744073709551616 := by
  induction l generalizing h with
  | nil => exact hh
  | cons n r ih => exact ih _ (hf h n)
theorem chain_lt (S : Nat) (l : List Int) (k : Nat) : chain link (mixN S) l k < 18446744073709551616 := foldl_lt link link_lt _ _ (mixN_lt S)
theorem chain_0 (f : Nat → Int → Nat) (h : Nat) (a b c d : Int) : chain f h [a, b, c, d] 0 = h := rfl
theorem chain_1 (f : Nat → Int → Nat) (h : Nat) (a b c d : Int) : chain f h [a, b, c, d] 1 = f (chain f h [a, b, c, d] 0) a := rfl
theorem chain_2 (f : Nat → Int → Nat) (h : Nat) (a b c d : Int) : chain f h [a, b, c, d] 2 = f (chain f h [a, b, c, d] 1) b := rfl
theorem chain_3 (f : Nat → Int → Nat) (h : Nat) (a b c d : Int) : chain f h [a, b, c, d] 3 = f (chain f h [a, b, c, d] 2) c := rfl
theorem chain_4 (f : Nat → Int → Nat) (h : Nat) (a b c d : Int) : chain f h [a, b, c, d] 4 = f (chain f h [a, b, c, d] 3) d := rfl
theorem chain_4' (f : Nat → Int → Nat) (h : Nat) (a b c d : Int) : chain f h [a, b, c, d] 4 = f (f (f (f h a) b) c) d := rfl
theorem chain_all (S : Nat) (a b c d : Int) : chain link (mixN S) [a, b, c, d] 4 = hashN S a b c d := by rw [chain_4', hashN]
theorem link_eq (h : Nat) (n : Int) : link h n = mixN (((h ^^^ asN n) + 11400714819323198485) % 18446744073709551616) := by rw [link]
theorem val_nat {k : IntKind} {a b : Nat} (h : a = b) : Value.int k (a : Int) = .int k (b : Int) := by rw [h]

set_option maxHeartbeats 400000 in
theorem hash_any (S : Nat) (a b c d : Int) (w : World) (hS : S < 18446744073709551616) :
    Calls Try.prog 81 #[.int .u64 S, .int .i64 a, .int .i64 b, .int .i64 c, .int .i64 d] w fun e w' => e = .returned (.int .u64 (hashN S a b c d)) ∧ w' = w := by
  go_enter Try.func81, Try.ntmps81
  go_wp2_with (go_at_call 99; go_must (refine (mix_any S _ hS).mono ?_); rintro e w' ⟨rfl, rfl⟩)
  go_loop [11, 21] (fun x i => ∃ k : Nat, k ≤ 4 ∧ i = .int .i64 k ∧ x = .int .u64 (chain link (mixN S) [a, b, c, d] k)) (fun _ i => 4 - (intOf i).toNat)
  case atStart => exact ⟨0, by omega, rfl, val_nat (chain_0 link (mixN S) a b c d).symm⟩
  case round =>
    obtain ⟨k, hk, rfl, rfl⟩ := hrel
    have hh := chain_lt S [a, b, c, d] k
    have hk5 : k = 0 ∨ k = 1 ∨ k = 2 ∨ k = 3 ∨ k = 4 := by omega
    rcases hk5 with rfl | rfl | rfl | rfl | rfl
    · have HL : Hid (chain link (mixN S) [a, b, c, d] 1 = link (chain link (mixN S) [a, b, c, d] 0) a) := chain_1 link (mixN S) a b c d
      generalize chain link (mixN S) [a, b, c, d] 0 = h at *
      have e1 := go_asN a
      have ix : ∀ w, (Instr.index 133 (.agg #[.int .i64 a, .int .i64 b, .int .i64 c, .int .i64 d]) (.int .i64 0)).run Try.prog w = .ok (.int .i64 a) w := fun _ => by kernel_rfl
      have e2 := go_link h a hh
      go_wp2_with (go_at_call 99; go_must (refine (mix_any _ _ (Nat.mod_lt _ (by decide))).mono ?_); rintro e w' ⟨rfl, rfl⟩)
      go_round
      case rel => exact ⟨1, by omega, rfl, val_nat (by rw [HL.out, link_eq])⟩
      case measure => simp [intOf]
    · have HL : Hid (chain link (mixN S) [a, b, c, d] 2 = link (chain link (mixN S) [a, b, c, d] 1) b) := chain_2 link (mixN S) a b c d
      generalize chain link (mixN S) [a, b, c, d] 1 = h at *
      have e1 := go_asN b
      have ix : ∀ w, (Instr.index 133 (.agg #[.int .i64 a, .int .i64 b, .int .i64 c, .int .i64 d]) (.int .i64 1)).run Try.prog w = .ok (.int .i64 b) w := fun _ => by kernel_rfl
      have e2 := go_link h b hh
      go_wp2_with (go_at_call 99; go_must (refine (mix_any _ _ (Nat.mod_lt _ (by decide))).mono ?_); rintro e w' ⟨rfl, rfl⟩)
      go_round
      case rel => exact ⟨2, by omega, rfl, val_nat (by rw [HL.out, link_eq])⟩
      case measure => simp [intOf]
    · have HL : Hid (chain link (mixN S) [a, b, c, d] 3 = link (chain link (mixN S) [a, b, c, d] 2) c) := chain_3 link (mixN S) a b c d
      generalize chain link (mixN S) [a, b, c, d] 2 = h at *
      have e1 := go_asN c
      have ix : ∀ w, (Instr.index 133 (.agg #[.int .i64 a, .int .i64 b, .int .i64 c, .int .i64 d]) (.int .i64 2)).run Try.prog w = .ok (.int .i64 c) w := fun _ => by kernel_rfl
      have e2 := go_link h c hh
      go_wp2_with (go_at_call 99; go_must (refine (mix_any _ _ (Nat.mod_lt _ (by decide))).mono ?_); rintro e w' ⟨rfl, rfl⟩)
      go_round
      case rel => exact ⟨3, by omega, rfl, val_nat (by rw [HL.out, link_eq])⟩
      case measure => simp [intOf]
    · have HL : Hid (chain link (mixN S) [a, b, c, d] 4 = link (chain link (mixN S) [a, b, c, d] 3) d) := chain_4 link (mixN S) a b c d
      generalize chain link (mixN S) [a, b, c, d] 3 = h at *
      have e1 := go_asN d
      have ix : ∀ w, (Instr.index 133 (.agg #[.int .i64 a, .int .i64 b, .int .i64 c, .int .i64 d]) (.int .i64 3)).run Try.prog w = .ok (.int .i64 d) w := fun _ => by kernel_rfl
      have e2 := go_link h d hh
      go_wp2_with (go_at_call 99; go_must (refine (mix_any _ _ (Nat.mod_lt _ (by decide))).mono ?_); rintro e w' ⟨rfl, rfl⟩)
      go_round
      case rel => exact ⟨4, by omega, rfl, val_nat (by rw [HL.out, link_eq])⟩
      case measure => simp [intOf]
    · have HC : Hid (chain link (mixN S) [a, b, c, d] 4 = hashN S a b c d) := chain_all S a b c d
      generalize chain link (mixN S) [a, b, c, d] 4 = h at *
      go_wp2
      go_ret
      exact ⟨ret_int (by rw [HC.out]), rfl⟩
end
section
open Go.RowKit

theorem tdiv_floor (a b : Int) (hb : 1 ≤ b) : (a.tmod b < 0 → a.tdiv b - 1 = a / b ∧ a.tmod b + b = a % b) ∧ (0 ≤ a.tmod b → a.tdiv b = a / b ∧ a.tmod b = a % b) := by
  have e1 := Int.mul_tdiv_add_tmod a b
  have e2 := Int.mul_ediv_add_emod a b
  have m0 := Int.emod_nonneg a (show b ≠ 0 by omega)
  have m1 := Int.emod_lt_of_pos a (show 0 < b by omega)
  have t1 : a.tmod b < b := Int.tmod_lt_of_pos a (by omega)
  have t2 : -b < a.tmod b := by
    have := Int.tmod_lt_of_pos (-a) (show 0 < b by omega)
    rw [Int.neg_tmod] at this
    omega
  constructor
  · intro h
    have hm : a.tmod b + b = a % b := by
      have : (a.tmod b + b) % b = a % b := by
        rw [Int.add_emod_right]
        conv => rhs; rw [← e1]
        rw [Int.mul_add_emod_self_left]
      rw [Int.emod_eq_of_lt (by omega) (by omega)] at this
      exact this
    refine ⟨?_, hm⟩
    have h3 : b * (a.tdiv b - 1) = b * (a / b) := by rw [Int.mul_sub, Int.mul_one]; omega
    exact Int.eq_of_mul_eq_mul_left (by omega) h3
  · intro h
    have hm : a.tmod b = a % b := by
      have : (a.tmod b) % b = a % b := by
        conv => rhs; rw [← e1]
        rw [Int.mul_add_emod_self_left]
      rw [Int.emod_eq_of_lt h (by omega)] at this
      exact this
    refine ⟨?_, hm⟩
    have h3 : b * (a.tdiv b) = b * (a / b) := by omega
    exact Int.eq_of_mul_eq_mul_left (by omega) h3
theorem div_bd (a b : Int) (hb : 1 ≤ b) : (0 ≤ a → 0 ≤ a / b ∧ a / b ≤ a) ∧ (a < 0 → a ≤ a / b ∧ a / b < 0) := by
  have e2 := Int.mul_ediv_add_emod a b
  have m0 := Int.emod_nonneg a (show b ≠ 0 by omega)
  have m1 := Int.emod_lt_of_pos a (show 0 < b by omega)
  constructor
  · intro h
    exact ⟨Int.ediv_nonneg h (by omega), Int.ediv_le_self _ h⟩
  · intro h
    refine ⟨?_, Int.ediv_neg_of_neg_of_pos h (by omega)⟩
    exact (Int.le_ediv_iff_mul_le (by omega)).2 (by
      have : a * b ≤ a * 1 := Int.mul_le_mul_of_nonpos_left (by omega) hb
      omega)
theorem tdiv_bd (a b : Int) (hb : 1 ≤ b) (h0 : -9223372036854775808 ≤ a) (h1 : a ≤ 9223372036854775807) : -9223372036854775808 ≤ a.tdiv b ∧ a.tdiv b ≤ 9223372036854775807 ∧ (a.tmod b < 0 → -9223372036854775808 < a.tdiv b) := by
  have f := tdiv_floor a b hb
  have d := div_bd a b hb
  rcases Int.lt_or_le (a.tmod b) 0 with h | h
  · have g := f.1 h
    rcases Int.lt_or_le a 0 with k | k
    · have := d.2 k; omega
    · have := Int.tmod_nonneg b k; omega
  · have g := f.2 h
    rcases Int.lt_or_le a 0 with k | k
    · have := d.2 k; omega
    · have := d.1 k; omega

theorem tmod_bd (a b : Int) (hb : 1 ≤ b) : -b < a.tmod b ∧ a.tmod b < b := by
  refine ⟨?_, Int.tmod_lt_of_pos a (by omega)⟩
  have := Int.tmod_lt_of_pos (-a) (show 0 < b by omega)
  rw [Int.neg_tmod] at this
  omega

set_option maxHeartbeats 400000 in
theorem div_lo (a b : Int) (w : World) (hb : b < 1) : Calls Try.prog 40 #[.int .i64 a, .int .i64 b] w fun e w' => e = .returned (.int .i64 0) ∧ w' = w := by
  go_enter Try.func40, Try.ntmps40
  go_wp2
  go_ret
  exact ⟨rfl, rfl⟩
set_option maxHeartbeats 400000 in
theorem div_hi (a b : Int) (w : World) (hb : 1 ≤ b) (hb1 : b ≤ 9223372036854775807) (h0 : -9223372036854775808 ≤ a) (h1 : a ≤ 9223372036854775807) : Calls Try.prog 40 #[.int .i64 a, .int .i64 b] w fun e w' => e = .returned (.int .i64 (a / b)) ∧ w' = w := by
  have HF : Hid _ := tdiv_floor a b hb
  have hd := tdiv_bd a b hb h0 h1
  have ht := tmod_bd a b hb
  by_cases hm : a.tmod b < 0
  · go_enter Try.func40, Try.ntmps40
    go_wp2
    go_ret
    exact ⟨ret_int (HF.out.1 hm).1, rfl⟩
  · go_enter Try.func40, Try.ntmps40
    go_wp2
    go_ret
    exact ⟨ret_int (HF.out.2 (by omega)).1, rfl⟩
set_option maxHeartbeats 400000 in
theorem mod_lo (a b : Int) (w : World) (hb : b < 1) : Calls Try.prog 39 #[.int .i64 a, .int .i64 b] w fun e w' => e = .returned (.int .i64 0) ∧ w' = w := by
  go_enter Try.func39, Try.ntmps39
  go_wp2
  go_ret
  exact ⟨rfl, rfl⟩
set_option maxHeartbeats 400000 in
theorem mod_hi (a b : Int) (w : World) (hb : 1 ≤ b) (hb1 : b ≤ 9223372036854775807) (h0 : -9223372036854775808 ≤ a) (h1 : a ≤ 9223372036854775807) : Calls Try.prog 39 #[.int .i64 a, .int .i64 b] w fun e w' => e = .returned (.int .i64 (a % b)) ∧ w' = w := by
  have HF : Hid _ := tdiv_floor a b hb
  have hd := tdiv_bd a b hb h0 h1
  have ht := tmod_bd a b hb
  by_cases hm : a.tmod b < 0
  · go_enter Try.func39, Try.ntmps39
    go_wp2
    go_ret
    exact ⟨ret_int (HF.out.1 hm).2, rfl⟩
  · go_enter Try.func39, Try.ntmps39
    go_wp2
    go_ret
    exact ⟨ret_int (HF.out.2 (by omega)).2, rfl⟩
set_option maxHeartbeats 400000 in
theorem rdiv_lo (a b : Int) (w : World) (hb : b < 1) : Calls Try.prog 31 #[.int .i64 a, .int .i64 b] w fun e w' => e = .returned (.int .i64 0) ∧ w' = w := by
  go_enter Try.func31, Try.ntmps31
  go_wp2
  go_ret
  exact ⟨rfl, rfl⟩
set_option maxHeartbeats 400000 in
theorem rdiv_hi (a b : Int) (w : World) (hb : 1 ≤ b) (hb1 : b ≤ 9223372036854775807) (h0 : -9223372036854775808 ≤ a) (h1 : a ≤ 9223372036854775807) : Calls Try.prog 31 #[.int .i64 a, .int .i64 b] w fun e w' => e = .returned (.int .i64 (a / b)) ∧ w' = w := by
  have HF : Hid _ := tdiv_floor a b hb
  have hd := tdiv_bd a b hb h0 h1
  have ht := tmod_bd a b hb
  by_cases hm : a.tmod b < 0
  · go_enter Try.func31, Try.ntmps31
    go_wp2
    go_ret
    exact ⟨ret_int (HF.out.1 hm).1, rfl⟩
  · go_enter Try.func31, Try.ntmps31
    go_wp2
    go_ret
    exact ⟨ret_int (HF.out.2 (by omega)).1, rfl⟩
set_option maxHeartbeats 400000 in
theorem rmod_lo (a b : Int) (w : World) (hb : b < 1) : Calls Try.prog 71 #[.int .i64 a, .int .i64 b] w fun e w' => e = .returned (.int .i64 0) ∧ w' = w := by
  go_enter Try.func71, Try.ntmps71
  go_wp2
  go_ret
  exact ⟨rfl, rfl⟩
set_option maxHeartbeats 400000 in
theorem rmod_hi (a b : Int) (w : World) (hb : 1 ≤ b) (hb1 : b ≤ 9223372036854775807) (h0 : -9223372036854775808 ≤ a) (h1 : a ≤ 9223372036854775807) : Calls Try.prog 71 #[.int .i64 a, .int .i64 b] w fun e w' => e = .returned (.int .i64 (a % b)) ∧ w' = w := by
  have HF : Hid _ := tdiv_floor a b hb
  have hd := tdiv_bd a b hb h0 h1
  have ht := tmod_bd a b hb
  by_cases hm : a.tmod b < 0
  · go_enter Try.func71, Try.ntmps71
    go_wp2
    go_ret
    exact ⟨ret_int (HF.out.1 hm).2, rfl⟩
  · go_enter Try.func71, Try.ntmps71
    go_wp2
    go_ret
    exact ⟨ret_int (HF.out.2 (by omega)).2, rfl⟩
end
end Go.Proofs.Ytbdjgaagafnfaaa.N
