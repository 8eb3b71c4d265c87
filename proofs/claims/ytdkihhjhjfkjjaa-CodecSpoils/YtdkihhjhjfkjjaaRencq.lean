/-
  Places joined to a byte, one by one.
-/
import Derived.Test.YtdkihhjhjfkjjaaRencp
namespace Go.Proofs.Ytdkihhjhjfkjjaa
open Go.RowKit

theorem or_back (a b : Int) (m : Nat) (h0 : 0 ≤ a) (h1 : a < 2 ^ m) (hb : 0 ≤ b) (hm : b % 2 ^ m = 0) (hs : a + b < 9223372036854775808) : bits .or .i64 b a = b + a := by
  obtain ⟨A, rfl⟩ := Int.eq_ofNat_of_zero_le h0
  obtain ⟨B, rfl⟩ := Int.eq_ofNat_of_zero_le hb
  have hA : A < 2 ^ m := by exact_mod_cast h1
  have hB : B % 2 ^ m = 0 := by exact_mod_cast hm
  rw [i64_or_nat B A (by omega) (by omega), nat_join m B A hB hA]
  omega
theorem undig_byte (w : Nat) (ps : List Int) (h : ∀ p ∈ ps, 0 ≤ p ∧ p < 2 ^ w) (hl : w * ps.length ≤ 8) : 0 ≤ undig w ps ∧ undig w ps ≤ 255 := by
  have h1 := undig_fit w ps h
  have h2 : 2 ^ (w * ps.length) ≤ 2 ^ 8 := Nat.pow_le_pow_right (by omega) hl
  generalize w * ps.length = e at *
  have h3 : (2 : Int) ^ e = ((2 ^ e : Nat) : Int) := by rw [Int.natCast_pow]; rfl
  rw [h3] at h1
  have h4 : (2 : Nat) ^ 8 = 256 := rfl
  generalize 2 ^ e = f at *
  omega
theorem undig_drop (w : Nat) (L : List Int) (K : Nat) (h : K < L.length) : undig w (L.drop K) = L[K] + 2 ^ w * undig w (L.drop (K + 1)) := by
  rw [List.drop_eq_getElem_cons h, undig]
theorem grp_len (l cs : List Int) (m I : Nat) (h : I * m + m ≤ cs.length) : (grpP l cs m I).length = m := by
  unfold grpP
  rw [List.length_map, List.length_take, List.length_drop]
  omega
theorem grp_at (l cs : List Int) (m I K : Nat) (h : I * m + m ≤ cs.length) (hK : K < m) (hg : K < (grpP l cs m I).length) : (grpP l cs m I)[K] = (plc l (cs.getD (I * m + K) 0) : Int) := by
  have h1 : I * m + K < cs.length := by omega
  refine Option.some.inj ?_
  rw [← List.getElem?_eq_getElem hg, List.getD_eq_getElem?_getD, List.getElem?_eq_getElem h1]
  unfold grpP
  rw [List.getElem?_map, List.getElem?_take_of_lt hK, List.getElem?_drop, List.getElem?_eq_getElem h1]
  rfl
theorem grp_fit (l cs : List Int) (w m I : Nat) (hl : ∀ x ∈ cs, x ∈ l) (hw : l.length ≤ 2 ^ w) : ∀ p ∈ grpP l cs m I, 0 ≤ p ∧ p < 2 ^ w := by
  intro p hp
  unfold grpP at hp
  obtain ⟨c, hc, rfl⟩ := List.mem_map.1 hp
  have h1 := plc_lt (hl c (List.mem_of_mem_drop (List.mem_of_mem_take hc)))
  have h2 : plc l c < 2 ^ w := by omega
  exact ⟨by omega, by exact_mod_cast h2⟩
theorem ix0 (g n c : Nat) (w : World) : (Instr.indexAt 25 (.slice (some ⟨g, 0, none⟩) (2 + n) c) (.int .i64 0)).run Try.prog w = .ok (.pointer (some ⟨g, 0, none⟩)) w := by
  have h := @run_indexAt_slice Try.prog w 25 ⟨g, 0, none⟩ (2 + n) c .i64 0 (by rfl)
  have hc : (0 : Int) ≤ 0 ∧ (0 : Int) < ((2 + n : Nat) : Int) := by omega
  rw [if_pos hc] at h
  exact h.trans rfl
end Go.Proofs.Ytdkihhjhjfkjjaa
