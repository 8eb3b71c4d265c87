/-
  Plain mathematics for the layer num: groups of seven bits, the number that bytes begin with, and the sum of bytes; no program is named here.
-/
import Derived.Laws.Bits128
import Derived.Laws.BitsAllLaws
import Derived.Lib.BitFns
import Derived.Lib.ItoaNum
namespace Go.Proofs.Ytdkihhjhjfkjjaa

/-! ### bits -/
theorem i64_or_nat (a b : Nat) (ha : a < 9223372036854775808) (hb : b < 9223372036854775808) : bits .or .i64 (a : Int) (b : Int) = ((a ||| b : Nat) : Int) := by
  have hx : a ||| b < 2 ^ 63 := Nat.or_lt_two_pow (by omega) (by omega)
  show IntKind.i64.wrap ((BitVec.ofInt 64 (a : Int) ||| BitVec.ofInt 64 (b : Int)).toNat : Int) = _
  rw [BitVec.toNat_or, ofInt_u64 a (by omega), ofInt_u64 b (by omega)]
  simp [IntKind.wrap, IntKind.bits, IntKind.signed]
  omega
theorem or_join (a b : Int) (m : Nat) (h0 : 0 ≤ a) (h1 : a < 2 ^ m) (hb : 0 ≤ b) (hm : b % 2 ^ m = 0) (hs : a + b < 9223372036854775808) : bits .or .i64 a b = a + b := by
  obtain ⟨A, rfl⟩ := Int.eq_ofNat_of_zero_le h0
  obtain ⟨B, rfl⟩ := Int.eq_ofNat_of_zero_le hb
  have hA : A < 2 ^ m := by exact_mod_cast h1
  have hB : B % 2 ^ m = 0 := by exact_mod_cast hm
  rw [i64_or_nat A B (by omega) (by omega), Nat.or_comm, nat_join m B A hB hA]
  omega
theorem or0 (a b : Int) (h0 : 0 ≤ a) (h1 : a < 1) (hb : 0 ≤ b) (hs : b < 4294967296) : bits .or .i64 a b = a + b := or_join a b 0 h0 (by simpa using h1) hb (by omega) (by omega)
theorem or1 (a b : Int) (h0 : 0 ≤ a) (h1 : a < 128) (hb : 0 ≤ b) (hs : b < 128) : bits .or .i64 a (b * 128) = a + b * 128 := or_join a _ 7 h0 (by simpa using h1) (by omega) (by omega) (by omega)
theorem or2 (a b : Int) (h0 : 0 ≤ a) (h1 : a < 16384) (hb : 0 ≤ b) (hs : b < 128) : bits .or .i64 a (b * 16384) = a + b * 16384 := or_join a _ 14 h0 (by simpa using h1) (by omega) (by omega) (by omega)
theorem or3 (a b : Int) (h0 : 0 ≤ a) (h1 : a < 2097152) (hb : 0 ≤ b) (hs : b < 128) : bits .or .i64 a (b * 2097152) = a + b * 2097152 := or_join a _ 21 h0 (by simpa using h1) (by omega) (by omega) (by omega)
theorem or4 (a b : Int) (h0 : 0 ≤ a) (h1 : a < 268435456) (hb : 0 ≤ b) (hs : b < 128) : bits .or .i64 a (b * 268435456) = a + b * 268435456 := or_join a _ 28 h0 (by simpa using h1) (by omega) (by omega) (by omega)
theorem orTop (a : Int) (h0 : 0 ≤ a) (h1 : a < 128) : bits .or .i64 a 128 = a + 128 := or_join a 128 7 h0 (by simpa using h1) (by omega) (by omega) (by omega)
theorem and7 (z : Int) (h0 : 0 ≤ z) (h1 : z ≤ 255) : bits .and .u8 z 127 = z % 128 := by
  rw [u8_and z 127 h0 (by omega) (by omega) (by omega), show (127 : Int).toNat = 127 from rfl, nat_mask7]
  omega

/-! ### the sum -/
def fnv (x c : Int) : Int := ((x.toNat ^^^ c.toNat : Nat) : Int) * 16777619 % 4294967296
def sumL (zs : List Int) : Int := zs.foldl fnv 2166136261
theorem fnv_bd (x c : Int) : 0 ≤ fnv x c ∧ fnv x c ≤ 4294967295 := by unfold fnv; omega
theorem foldl_bd (zs : List Int) (x : Int) (h : 0 ≤ x ∧ x ≤ 4294967295) : 0 ≤ zs.foldl fnv x ∧ zs.foldl fnv x ≤ 4294967295 := by
  induction zs generalizing x with
  | nil => exact h
  | cons z r ih => exact ih _ (fnv_bd x z)
theorem sumL_bd (zs : List Int) : 0 ≤ sumL zs ∧ sumL zs ≤ 4294967295 := foldl_bd zs _ (by omega)
theorem fnv_walk (x c : Int) (h0 : 0 ≤ x) (h1 : x ≤ 4294967295) (c0 : 0 ≤ c) (c1 : c ≤ 255) : bits .xor .u32 x c * 16777619 % 4294967296 = fnv x c := by
  rw [u32_xor x c h0 (by omega) c0 (by omega), fnv]
theorem times_key (x : Int) (h0 : 0 ≤ x) (h1 : x < 4294967296) : (x * 16777619 % 4294967296) * 899433627 % 4294967296 = x := by omega
theorem times_inj (u v : Nat) (hu : u < 4294967296) (hv : v < 4294967296) : (u : Int) * 16777619 % 4294967296 = (v : Int) * 16777619 % 4294967296 → u = v := by
  have a := times_key u (by omega) (by omega)
  have b := times_key v (by omega) (by omega)
  intro h
  rw [h, b] at a
  clear h b
  omega
theorem xor_cancel (a b c : Nat) (h : a ^^^ c = b ^^^ c) : a = b := by
  have := congrArg (· ^^^ c) h
  simpa [Nat.xor_assoc] using this
theorem fnv_inj (x y c : Int) (hx : 0 ≤ x ∧ x ≤ 4294967295) (hy : 0 ≤ y ∧ y ≤ 4294967295) (hc : 0 ≤ c ∧ c ≤ 255) (h : fnv x c = fnv y c) : x = y := by
  unfold fnv at h
  have := times_inj _ _ (Nat.xor_lt_two_pow (n := 32) (by omega) (by omega)) (Nat.xor_lt_two_pow (n := 32) (by omega) (by omega)) h
  have := xor_cancel _ _ _ this
  omega
theorem fnv_inj' (x c d : Int) (hx : 0 ≤ x ∧ x ≤ 4294967295) (hc : 0 ≤ c ∧ c ≤ 255) (hd : 0 ≤ d ∧ d ≤ 255) (h : fnv x c = fnv x d) : c = d := by
  unfold fnv at h
  have := times_inj _ _ (Nat.xor_lt_two_pow (n := 32) (by omega) (by omega)) (Nat.xor_lt_two_pow (n := 32) (by omega) (by omega)) h
  rw [Nat.xor_comm, Nat.xor_comm x.toNat] at this
  have := xor_cancel _ _ _ this
  omega
theorem foldl_inj (zs : List Int) (x y : Int) (hz : ∀ n ∈ zs, 0 ≤ n ∧ n ≤ 255) (hx : 0 ≤ x ∧ x ≤ 4294967295) (hy : 0 ≤ y ∧ y ≤ 4294967295) (h : zs.foldl fnv x = zs.foldl fnv y) : x = y := by
  induction zs generalizing x y with
  | nil => exact h
  | cons z r ih =>
    have := ih _ _ (fun n hn => hz n (by simp [hn])) (fnv_bd x z) (fnv_bd y z) h
    exact fnv_inj x y z hx hy (hz z (by simp)) this
/-- One byte that is another one makes another sum. -/
theorem sumL_set (zs : List Int) (k : Nat) (c : Int) (hk : k < zs.length) (hz : ∀ n ∈ zs, 0 ≤ n ∧ n ≤ 255) (hc : 0 ≤ c ∧ c ≤ 255) (hne : zs[k] ≠ c) : sumL (zs.set k c) ≠ sumL zs := by
  intro h
  have e1 : zs = zs.take k ++ zs[k] :: zs.drop (k + 1) := by rw [List.getElem_cons_drop]; simp
  have e2 : zs.set k c = zs.take k ++ c :: zs.drop (k + 1) := List.set_eq_take_append_cons_drop .. |>.trans (if_pos hk)
  unfold sumL at h
  rw [e2] at h
  conv at h => rhs; rw [e1]
  simp only [List.foldl_append, List.foldl_cons] at h
  have hb := foldl_bd (zs.take k) 2166136261 (by omega)
  have := foldl_inj _ _ _ (fun n hn => hz n (List.mem_of_mem_drop hn)) (fnv_bd _ _) (fnv_bd _ _) h
  exact hne (fnv_inj' _ _ _ hb hc (hz _ (List.getElem_mem _)) this).symm
theorem sumL_succ (zs : List Int) (k : Nat) (hk : k < zs.length) : sumL (zs.take (k + 1)) = fnv (sumL (zs.take k)) zs[k] := by
  unfold sumL
  rw [List.take_succ_eq_append_getElem hk, List.foldl_append]
  rfl

/-! ### the number that bytes begin with -/
def getF : Nat → Nat → Int → List Int → Int × Int
  | 0, _, _, _ => (0, 0)
  | _ + 1, _, _, [] => (0, 0)
  | f + 1, i, acc, z :: r => if z < 128 then (if 2147483647 < acc + z % 128 * 128 ^ i then (0, 0) else (acc + z % 128 * 128 ^ i, (i : Int) + 1)) else getF f (i + 1) (acc + z % 128 * 128 ^ i) r
def getAt (xs : List Int) (k : Nat) (acc : Int) : Int × Int := getF (5 - k) k acc (xs.drop k)
def getL (xs : List Int) : Int × Int := getF 5 0 0 xs
theorem getAt_zero (xs : List Int) : getAt xs 0 0 = getL xs := by simp [getAt, getL]
theorem getAt_cons (xs : List Int) (k : Nat) (acc : Int) (hk : k < xs.length) (h5 : k < 5) :
    getAt xs k acc = if xs[k] < 128 then (if 2147483647 < acc + xs[k] % 128 * 128 ^ k then (0, 0) else (acc + xs[k] % 128 * 128 ^ k, (k : Int) + 1)) else getAt xs (k + 1) (acc + xs[k] % 128 * 128 ^ k) := by
  unfold getAt
  rw [List.drop_eq_getElem_cons hk, show 5 - k = (5 - (k + 1)) + 1 by omega, getF]
theorem getAt_more (xs : List Int) (k : Nat) (acc z : Int) (hk : k < xs.length) (h5 : k < 5) (hz : z = xs[k]) (h : 128 ≤ z) : getAt xs k acc = getAt xs (k + 1) (acc + z % 128 * 128 ^ k) := by
  subst hz
  rw [getAt_cons xs k acc hk h5, if_neg (by omega)]
theorem getAt_great (xs : List Int) (k : Nat) (acc z : Int) (hk : k < xs.length) (h5 : k < 5) (hz : z = xs[k]) (h : z < 128) (hg : 2147483647 < acc + z % 128 * 128 ^ k) : getAt xs k acc = (0, 0) := by
  subst hz
  rw [getAt_cons xs k acc hk h5, if_pos h, if_pos hg]
theorem getAt_last (xs : List Int) (k : Nat) (acc z : Int) (hk : k < xs.length) (h5 : k < 5) (hz : z = xs[k]) (h : z < 128) (hg : acc + z % 128 * 128 ^ k ≤ 2147483647) : getAt xs k acc = (acc + z % 128 * 128 ^ k, (k : Int) + 1) := by
  subst hz
  rw [getAt_cons xs k acc hk h5, if_pos h, if_neg (by omega)]
theorem getAt_out (xs : List Int) (k : Nat) (acc : Int) (h : xs.length ≤ k ∨ 5 ≤ k) : getAt xs k acc = (0, 0) := by
  unfold getAt
  rcases h with h | h
  · rw [List.drop_eq_nil_of_le h]; cases 5 - k <;> rfl
  · rw [show 5 - k = 0 by omega]; rfl

/-! ### groups of seven bits -/
/-- How many groups a number has. -/
def grp (n : Int) : Nat := if n < 0 then 0 else max 1 ((Lib.bitLen n.toNat + 6) / 7)
/-- The lowest k groups, each with 128 more. -/
def digs (n : Int) (k : Nat) : List Int := (List.range k).map fun i => n / 128 ^ i % 128 + 128
/-- A number in groups. -/
def putL (n : Int) : List Int := if n < 0 then [] else digs n (grp n - 1) ++ [n / 128 ^ (grp n - 1)]
theorem pow128 (k : Nat) : (128 : Nat) ^ k = 2 ^ (7 * k) := by rw [Nat.pow_mul]
theorem grp_nat (m : Nat) (h : m < 9223372036854775808) : 1 ≤ grp m ∧ grp m ≤ 9 ∧ m < 128 ^ grp m ∧ (grp m = 1 ∨ 128 ^ (grp m - 1) ≤ m) := by
  have hd : grp (m : Int) = max 1 ((Lib.bitLen m + 6) / 7) := by unfold grp; rw [if_neg (by omega)]; rfl
  by_cases h0 : m = 0
  · subst h0
    have e : grp ((0 : Nat) : Int) = 1 := by decide
    rw [e]; omega
  · obtain ⟨b1, b2, b3⟩ := Lib.bitLenAux_bounds 64 m (by omega) h0
    have bu : Lib.bitLen m ≤ 63 := Lib.bitLen_le m 63 (by omega) (by omega)
    have eL : Lib.bitLenAux 64 m = Lib.bitLen m := rfl
    rw [eL] at b1 b2 b3
    generalize Lib.bitLen m = L at *
    generalize hg : grp (m : Int) = g at *
    have g1 : 1 ≤ g := by omega
    have gL : L ≤ 7 * g := by omega
    have gU : g = 1 ∨ 7 * (g - 1) ≤ L - 1 := by omega
    refine ⟨g1, by omega, ?_, ?_⟩
    · rw [pow128]; exact Nat.lt_of_lt_of_le b3 (Nat.pow_le_pow_right (by omega) gL)
    · rcases gU with e | gU
      · exact Or.inl e
      · right; rw [pow128]; exact Nat.le_trans (Nat.pow_le_pow_right (by omega) gU) b2
theorem grp_spec (n : Int) (h0 : 0 ≤ n) (h1 : n < 9223372036854775808) : 1 ≤ grp n ∧ grp n ≤ 9 ∧ n < 128 ^ grp n ∧ (grp n = 1 ∨ (128 : Int) ^ (grp n - 1) ≤ n) := by
  obtain ⟨m, rfl⟩ := Int.eq_ofNat_of_zero_le h0
  obtain ⟨a, b, c, d⟩ := grp_nat m (by omega)
  exact ⟨a, b, by exact_mod_cast c, d.imp id fun h => by exact_mod_cast h⟩
theorem grp_uniq (n : Int) (h0 : 0 ≤ n) (h1 : n < 9223372036854775808) (k : Nat) (hk : 1 ≤ k) (hu : n < 128 ^ k) (hl : k = 1 ∨ (128 : Int) ^ (k - 1) ≤ n) : k = grp n := by
  obtain ⟨m, rfl⟩ := Int.eq_ofNat_of_zero_le h0
  obtain ⟨a, b, c, d⟩ := grp_nat m (by omega)
  generalize grp (m : Int) = g at *
  have hu' : m < 128 ^ k := by exact_mod_cast hu
  have hl' : k = 1 ∨ 128 ^ (k - 1) ≤ m := hl.imp id fun h => by exact_mod_cast h
  have f1 : k - 1 < g ∨ k = 1 := by
    rcases hl' with h | h
    · exact Or.inr h
    · left; exact (Nat.pow_lt_pow_iff_right (by omega)).1 (Nat.lt_of_le_of_lt h c)
  have f2 : g - 1 < k ∨ g = 1 := by
    rcases d with h | h
    · exact Or.inr h
    · left; exact (Nat.pow_lt_pow_iff_right (by omega)).1 (Nat.lt_of_le_of_lt h hu')
  omega
theorem digs_len (n : Int) (k : Nat) : (digs n k).length = k := by simp [digs]
theorem digs_succ (n : Int) (k : Nat) : digs n (k + 1) = digs n k ++ [n / 128 ^ k % 128 + 128] := by simp [digs, List.range_succ]
theorem digs_fit (n : Int) (k : Nat) : ∀ z ∈ digs n k, 0 ≤ z ∧ z ≤ 255 := by
  intro z hz
  simp only [digs, List.mem_map] at hz
  obtain ⟨i, _, rfl⟩ := hz
  omega
theorem div_pow_succ (n : Int) (k : Nat) : n / 128 ^ (k + 1) = n / 128 ^ k / 128 := by
  rw [Int.pow_succ, Int.ediv_ediv_of_nonneg (Int.le_of_lt (Int.pow_pos (by omega)))]
theorem div_pow_nonneg (n : Int) (k : Nat) (h : 0 ≤ n) : 0 ≤ n / 128 ^ k := Int.ediv_nonneg h (Int.le_of_lt (Int.pow_pos (by omega)))
theorem div_pow_le (n : Int) (k : Nat) (h : 0 ≤ n) : n / 128 ^ k ≤ n := by
  induction k with
  | zero => simp
  | succ k ih => rw [div_pow_succ]; have := div_pow_nonneg n k h; omega
theorem div_pow_lt (n : Int) (k : Nat) (h : n < 128 ^ (k + 1)) : n / 128 ^ k < 128 := by
  rw [Int.pow_succ] at h
  exact Int.ediv_lt_of_lt_mul (Int.pow_pos (by omega)) (by rw [Int.mul_comm]; exact h)
theorem div_pow_ge (n : Int) (k : Nat) (h : 128 ≤ n / 128 ^ k) : (128 : Int) ^ (k + 1) ≤ n := by
  have := (Int.le_ediv_iff_mul_le (Int.pow_pos (show (0 : Int) < 128 by omega))).1 h
  rw [Int.pow_succ]; rw [Int.mul_comm]; exact this
theorem putL_len (n : Int) (h0 : 0 ≤ n) (h1 : n < 9223372036854775808) : (putL n).length = grp n := by
  have := grp_spec n h0 h1
  unfold putL
  rw [if_neg (by omega)]
  simp [digs_len]
  omega
theorem putL_fit (n : Int) (h1 : n < 9223372036854775808) : ∀ z ∈ putL n, 0 ≤ z ∧ z ≤ 255 := by
  intro z hz
  unfold putL at hz
  split at hz
  · simp at hz
  · have g := grp_spec n (by omega) h1
    rw [List.mem_append] at hz
    rcases hz with hz | hz
    · exact digs_fit n _ z hz
    · simp at hz
      subst hz
      have := div_pow_nonneg n (grp n - 1) (by omega)
      have := div_pow_lt n (grp n - 1) (by rw [show grp n - 1 + 1 = grp n by omega]; exact g.2.2.1)
      omega
/-- All groups with 128 more, and then the last one without. -/
theorem putL_digs (n : Int) (h0 : 0 ≤ n) (h1 : n < 9223372036854775808) (k : Nat) (hk : k + 1 = grp n) : putL n = digs n k ++ [(n / 128 ^ k % 128 + 128) % 128] := by
  have g := grp_spec n h0 h1
  unfold putL
  rw [if_neg (by omega), ← hk]
  have a := div_pow_nonneg n k h0
  have b := div_pow_lt n k (by rw [hk]; exact g.2.2.1)
  simp only [Nat.add_sub_cancel]
  congr 2
  omega
/-- Groups are taken off till what is left is below 128. -/
theorem putL_stop (n : Int) (h0 : 0 ≤ n) (h1 : n < 9223372036854775808) (k : Nat) (hl : k = 0 ∨ (128 : Int) ^ k ≤ n) (hk : n / 128 ^ k < 128) : putL n = digs n k ++ [n / 128 ^ k] := by
  have e : k + 1 = grp n := grp_uniq n h0 h1 (k + 1) (by omega) (by
    rw [Int.pow_succ, Int.mul_comm]
    exact Int.lt_mul_of_ediv_lt (Int.pow_pos (show (0 : Int) < 128 by omega)) hk) (by
    rcases hl with h | h
    · left; omega
    · right; simpa using h)
  unfold putL
  rw [if_neg (by omega), ← e]
  simp
/-- What was put is read as it was, whatever stands behind it. -/
theorem getL_putL (n : Int) (h0 : 0 ≤ n) (h1 : n ≤ 2147483647) (tail : List Int) : getL (putL n ++ tail) = (n, (grp n : Int)) ∧ 1 ≤ grp n ∧ grp n ≤ 5 := by
  obtain ⟨a, b, c, d⟩ := grp_spec n h0 (by omega)
  have g5 : grp n ≤ 5 := by
    rcases d with h | h
    · omega
    · have : (128 : Int) ^ (grp n - 1) < 128 ^ 5 := Int.lt_of_le_of_lt h (by omega)
      have h' : (128 : Nat) ^ (grp n - 1) < 128 ^ 5 := by exact_mod_cast this
      have := (Nat.pow_lt_pow_iff_right (by omega)).1 h'
      omega
  refine ⟨?_, a, g5⟩
  have hp : putL n = digs n (grp n - 1) ++ [n / 128 ^ (grp n - 1)] := by unfold putL; rw [if_neg (by omega)]
  rw [hp]
  generalize grp n = g at *
  have hg : g = 1 ∨ g = 2 ∨ g = 3 ∨ g = 4 ∨ g = 5 := by omega
  have s1 : ∀ z r f i acc, z < 128 → ¬ 2147483647 < acc + z % 128 * 128 ^ i → getF (f + 1) i acc (z :: r) = (acc + z % 128 * 128 ^ i, (i : Int) + 1) := by
    intro z r f i acc h h'; rw [getF, if_pos h, if_neg h']
  have s2 : ∀ z r f i acc, ¬ z < 128 → getF (f + 1) i acc (z :: r) = getF f (i + 1) (acc + z % 128 * 128 ^ i) r := by
    intro z r f i acc h; rw [getF, if_neg h]
  rcases hg with rfl | rfl | rfl | rfl | rfl
  all_goals simp only [digs, List.range_succ, List.range_zero, List.map_cons, List.map_nil, List.nil_append, List.cons_append, getL, Nat.sub_self, Nat.reduceSub, Int.pow_zero, Int.ediv_one, Int.reducePow]
  · rw [s1 _ _ _ _ _ (by omega) (by omega)]; simp; omega
  · rw [s2 _ _ _ _ _ (by omega), s1 _ _ _ _ _ (by omega) (by omega)]; simp; omega
  · rw [s2 _ _ _ _ _ (by omega), s2 _ _ _ _ _ (by omega), s1 _ _ _ _ _ (by omega) (by omega)]; simp; omega
  · rw [s2 _ _ _ _ _ (by omega), s2 _ _ _ _ _ (by omega), s2 _ _ _ _ _ (by omega), s1 _ _ _ _ _ (by omega) (by omega)]; simp; omega
  · rw [s2 _ _ _ _ _ (by omega), s2 _ _ _ _ _ (by omega), s2 _ _ _ _ _ (by omega), s2 _ _ _ _ _ (by omega), s1 _ _ _ _ _ (by omega) (by omega)]; simp; omega
end Go.Proofs.Ytdkihhjhjfkjjaa
