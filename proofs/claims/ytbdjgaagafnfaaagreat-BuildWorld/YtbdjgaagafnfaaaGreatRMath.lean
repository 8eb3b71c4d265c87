/-
  Plain numbers of 64 bits: what Mix, Unmix, Hash and Below make of them, and that Mix and Unmix undo one another. No program in here.
-/
import Derived.Laws.Bits64
namespace Go.Proofs.YtbdjgaagafnfaaaGreat.R
def st1 (x : Nat) : Nat := (x ^^^ x / 1073741824) * 13787848793156543929 % 18446744073709551616
def st2 (x : Nat) : Nat := (x ^^^ x / 134217728) * 10723151780598845931 % 18446744073709551616
def st3 (x : Nat) : Nat := x ^^^ x / 2147483648
def mixN (x : Nat) : Nat := st3 (st2 (st1 x))
def un3 (x : Nat) : Nat := (x ^^^ x / 2147483648 ^^^ x / 4611686018427387904) * 3573116690164977347 % 18446744073709551616
def un2 (x : Nat) : Nat := (x ^^^ x / 134217728 ^^^ x / 18014398509481984) * 10871156337175269513 % 18446744073709551616
def un1 (x : Nat) : Nat := x ^^^ x / 1073741824 ^^^ x / 1152921504606846976
def unmixN (x : Nat) : Nat := un1 (un2 (un3 x))

theorem xor_lt {a b : Nat} (ha : a < 18446744073709551616) (hb : b < 18446744073709551616) : a ^^^ b < 18446744073709551616 :=
  Nat.xor_lt_two_pow (n := 64) ha hb
theorem div_lt {a s : Nat} (ha : a < 18446744073709551616) : a / s < 18446744073709551616 := Nat.lt_of_le_of_lt (Nat.div_le_self _ _) ha

/-- A number turned by itself shifted, turned by that once more and by what is behind it, is the number. -/
theorem there (s x : Nat) (hs : 64 ≤ 3 * s) (hx : x < 18446744073709551616) :
    (x ^^^ x >>> s) ^^^ (x ^^^ x >>> s) >>> s ^^^ (x ^^^ x >>> s) >>> (2 * s) = x := by
  have h3 : x >>> (s + 2 * s) = 0 := by
    rw [Nat.shiftRight_eq_div_pow]
    refine Nat.div_eq_of_lt (Nat.lt_of_lt_of_le hx ?_)
    exact Nat.pow_le_pow_right (n := 2) (by omega) (show 64 ≤ s + 2 * s by omega)
  rw [Nat.shiftRight_xor_distrib, Nat.shiftRight_xor_distrib, ← Nat.shiftRight_add, ← Nat.shiftRight_add, h3, Nat.xor_zero, show s + s = 2 * s by omega, Nat.xor_assoc, Nat.xor_assoc, Nat.xor_assoc, Nat.xor_self, Nat.xor_zero, Nat.xor_self, Nat.xor_zero]
theorem back (s x : Nat) (hs : 64 ≤ 3 * s) (hx : x < 18446744073709551616) :
    (x ^^^ x >>> s ^^^ x >>> (2 * s)) ^^^ (x ^^^ x >>> s ^^^ x >>> (2 * s)) >>> s = x := by
  have h3 : x >>> (2 * s + s) = 0 := by
    rw [Nat.shiftRight_eq_div_pow]
    refine Nat.div_eq_of_lt (Nat.lt_of_lt_of_le hx ?_)
    exact Nat.pow_le_pow_right (n := 2) (by omega) (show 64 ≤ 2 * s + s by omega)
  rw [Nat.shiftRight_xor_distrib, Nat.shiftRight_xor_distrib, ← Nat.shiftRight_add, ← Nat.shiftRight_add, h3, Nat.xor_zero, show s + s = 2 * s by omega, Nat.xor_assoc, Nat.xor_assoc]
  rw [← Nat.xor_assoc (x >>> (2 * s)), Nat.xor_comm (x >>> (2 * s)) (x >>> s), Nat.xor_assoc (x >>> s), Nat.xor_self, Nat.xor_zero, Nat.xor_self, Nat.xor_zero]
theorem times (a c d : Nat) (ha : a < 18446744073709551616) (h : c * d % 18446744073709551616 = 1) : a * c % 18446744073709551616 * d % 18446744073709551616 = a := by
  rw [Nat.mod_mul_mod, Nat.mul_assoc, Nat.mul_mod, h, Nat.mul_one, Nat.mod_mod]
  exact Nat.mod_eq_of_lt ha

theorem sh (x s k : Nat) (h : s = 2 ^ k) : x / s = x >>> k := by rw [Nat.shiftRight_eq_div_pow, h]
theorem st1_lt (x : Nat) : st1 x < 18446744073709551616 := Nat.mod_lt _ (by decide)
theorem st2_lt (x : Nat) : st2 x < 18446744073709551616 := Nat.mod_lt _ (by decide)
theorem un2_lt (x : Nat) : un2 x < 18446744073709551616 := Nat.mod_lt _ (by decide)
theorem un3_lt (x : Nat) : un3 x < 18446744073709551616 := Nat.mod_lt _ (by decide)
theorem st3_lt {x : Nat} (h : x < 18446744073709551616) : st3 x < 18446744073709551616 := xor_lt h (div_lt h)
theorem un1_lt {x : Nat} (h : x < 18446744073709551616) : un1 x < 18446744073709551616 := xor_lt (xor_lt h (div_lt h)) (div_lt h)
theorem mixN_lt (x : Nat) : mixN x < 18446744073709551616 := st3_lt (st2_lt _)
theorem unmixN_lt (x : Nat) : unmixN x < 18446744073709551616 := un1_lt (un2_lt _)

theorem un3_st3 (x : Nat) (h : x < 18446744073709551616) : un3 (st3 x) = x * 3573116690164977347 % 18446744073709551616 := by
  have e := there 31 x (by omega) h
  unfold un3 st3
  rw [sh _ 2147483648 31 (by decide), sh _ 4611686018427387904 62 (by decide), sh _ 2147483648 31 (by decide), e]
theorem st1_un1 (x : Nat) (h : x < 18446744073709551616) : st1 (un1 x) = x * 13787848793156543929 % 18446744073709551616 := by
  have e := back 30 x (by omega) h
  unfold un1 st1
  rw [sh _ 1073741824 30 (by decide), sh _ 1152921504606846976 60 (by decide), sh _ 1073741824 30 (by decide), e]
theorem un2_mid (x : Nat) (h : x < 18446744073709551616) : un2 (x ^^^ x / 134217728) = x * 10871156337175269513 % 18446744073709551616 := by
  have e := there 27 x (by omega) h
  unfold un2
  rw [sh _ 134217728 27 (by decide), sh _ 18014398509481984 54 (by decide), sh _ 134217728 27 (by decide), e]
theorem st2_mid (x : Nat) (h : x < 18446744073709551616) : st2 (x ^^^ x / 134217728 ^^^ x / 18014398509481984) = x * 10723151780598845931 % 18446744073709551616 := by
  have e := back 27 x (by omega) h
  unfold st2
  rw [sh _ 134217728 27 (by decide), sh _ 18014398509481984 54 (by decide), sh _ 134217728 27 (by decide), e]
theorem un1_mid (x : Nat) (h : x < 18446744073709551616) : un1 (x ^^^ x / 1073741824) = x := by
  have e := there 30 x (by omega) h
  unfold un1
  rw [sh _ 1073741824 30 (by decide), sh _ 1152921504606846976 60 (by decide), sh _ 1073741824 30 (by decide), e]
theorem st3_mid (x : Nat) (h : x < 18446744073709551616) : st3 (x ^^^ x / 2147483648 ^^^ x / 4611686018427387904) = x := by
  have e := back 31 x (by omega) h
  unfold st3
  rw [sh _ 2147483648 31 (by decide), sh _ 4611686018427387904 62 (by decide), sh _ 2147483648 31 (by decide), e]

theorem unmix_mix (x : Nat) (h : x < 18446744073709551616) : unmixN (mixN x) = x := by
  unfold unmixN mixN
  rw [un3_st3 _ (st2_lt _)]
  have e2 : st2 (st1 x) * 3573116690164977347 % 18446744073709551616 = st1 x ^^^ st1 x / 134217728 :=
    times (st1 x ^^^ st1 x / 134217728) 10723151780598845931 3573116690164977347 (xor_lt (st1_lt x) (div_lt (st1_lt x))) (by decide +kernel)
  rw [e2, un2_mid _ (st1_lt x)]
  have e1 : st1 x * 10871156337175269513 % 18446744073709551616 = x ^^^ x / 1073741824 :=
    times (x ^^^ x / 1073741824) 13787848793156543929 10871156337175269513 (xor_lt h (div_lt h)) (by decide +kernel)
  rw [e1, un1_mid x h]
theorem mix_unmix (x : Nat) (h : x < 18446744073709551616) : mixN (unmixN x) = x := by
  unfold unmixN mixN
  rw [st1_un1 _ (un2_lt _)]
  have e2 : un2 (un3 x) * 13787848793156543929 % 18446744073709551616 = un3 x ^^^ un3 x / 134217728 ^^^ un3 x / 18014398509481984 :=
    times (un3 x ^^^ un3 x / 134217728 ^^^ un3 x / 18014398509481984) 10871156337175269513 13787848793156543929 (xor_lt (xor_lt (un3_lt x) (div_lt (un3_lt x))) (div_lt (un3_lt x))) (by decide +kernel)
  rw [e2, st2_mid _ (un3_lt x)]
  have e1 : un3 x * 10723151780598845931 % 18446744073709551616 = x ^^^ x / 2147483648 ^^^ x / 4611686018427387904 :=
    times (x ^^^ x / 2147483648 ^^^ x / 4611686018427387904) 3573116690164977347 10723151780598845931 (xor_lt (xor_lt h (div_lt h)) (div_lt h)) (by decide +kernel)
  rw [e1, st3_mid x h]
theorem mixN_inj {x y : Nat} (hx : x < 18446744073709551616) (hy : y < 18446744073709551616) (h : mixN x = mixN y) : x = y := by
  rw [← unmix_mix x hx, h, unmix_mix y hy]

/-- An int as a number of 64 bits. -/
def asN (n : Int) : Nat := (n % 18446744073709551616).toNat
theorem asN_lt (n : Int) : asN n < 18446744073709551616 := by unfold asN; omega
theorem asN_eq (n : Int) : ((asN n : Nat) : Int) = n % 18446744073709551616 := by unfold asN; omega
/-- One link of the chain. -/
def link (h : Nat) (n : Int) : Nat := mixN (((h ^^^ asN n) + 11400714819323198485) % 18446744073709551616)
theorem link_lt (h : Nat) (n : Int) : link h n < 18446744073709551616 := mixN_lt _
def hashN (seed : Nat) (stage x y z : Int) : Nat := link (link (link (link (mixN seed) stage) x) y) z
theorem hashN_lt (seed : Nat) (stage x y z : Int) : hashN seed stage x y z < 18446744073709551616 := link_lt _ _
def belowN (h : Nat) (n : Int) : Int := if n < 1 ∨ 2147483647 < n then 0 else (h : Int) / 4294967296 * n / 4294967296
def nextN (key count : Nat) : Nat := mixN ((key + count * 11400714819323198485) % 18446744073709551616)
theorem nextN_lt (k c : Nat) : nextN k c < 18446744073709551616 := mixN_lt _
end Go.Proofs.YtbdjgaagafnfaaaGreat.R