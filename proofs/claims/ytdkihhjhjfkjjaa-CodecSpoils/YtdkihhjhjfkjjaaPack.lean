/-
  Plain mathematics for the layer codec: packed numbers; a chunk's bytes, there and back.
-/
import Derived.Test.YtdkihhjhjfkjjaaCode
namespace Go.Proofs.Ytdkihhjhjfkjjaa

/-! ### packed numbers -/
/-- The places in a byte, lowest first. -/
def digsW (w : Nat) : Nat → Int → List Int
  | 0, _ => []
  | k + 1, v => v % 2 ^ w :: digsW w k (v / 2 ^ w)
/-- The number of places, lowest first. -/
def undig (w : Nat) : List Int → Int
  | [] => 0
  | p :: r => p + 2 ^ w * undig w r
theorem digs_back (w : Nat) : ∀ ps : List Int, (∀ p ∈ ps, 0 ≤ p ∧ p < 2 ^ w) → digsW w ps.length (undig w ps) = ps
  | [], _ => rfl
  | p :: r, h => by
    have hp := h p (List.mem_cons_self ..)
    have ih := digs_back w r (fun q hq => h q (List.mem_cons_of_mem _ hq))
    have hpos : (0 : Int) < 2 ^ w := Int.pow_pos (by omega)
    unfold undig
    rw [List.length_cons, digsW]
    rw [Int.add_mul_emod_self_left, Int.emod_eq_of_lt hp.1 hp.2, Int.add_mul_ediv_left _ _ (by omega), Int.ediv_eq_zero_of_lt hp.1 hp.2, Int.zero_add, ih]
theorem digsW_len (w : Nat) : ∀ (k : Nat) (v : Int), (digsW w k v).length = k
  | 0, _ => rfl
  | k + 1, v => by rw [digsW, List.length_cons, digsW_len w k]
theorem digsW_fit (w : Nat) : ∀ (k : Nat) (v : Int), ∀ p ∈ digsW w k v, 0 ≤ p ∧ p < 2 ^ w
  | 0, _, p, h => by simp [digsW] at h
  | k + 1, v, p, h => by
    have hpos : (0 : Int) < 2 ^ w := Int.pow_pos (by omega)
    rw [digsW, List.mem_cons] at h
    rcases h with rfl | h
    · exact ⟨Int.emod_nonneg _ (by omega), Int.emod_lt_of_pos _ hpos⟩
    · exact digsW_fit w k _ p h
theorem undig_fit (w : Nat) : ∀ ps : List Int, (∀ p ∈ ps, 0 ≤ p ∧ p < 2 ^ w) → 0 ≤ undig w ps ∧ undig w ps < 2 ^ (w * ps.length)
  | [], _ => by simp [undig]
  | p :: r, h => by
    have hp := h p (List.mem_cons_self ..)
    have ih := undig_fit w r (fun q hq => h q (List.mem_cons_of_mem _ hq))
    have hpos : (0 : Int) < 2 ^ w := Int.pow_pos (by omega)
    unfold undig
    rw [List.length_cons, Nat.mul_add, Nat.mul_one, Nat.add_comm, Int.pow_add]
    generalize (2 : Int) ^ w = A at *
    generalize (2 : Int) ^ (w * r.length) = C at *
    generalize undig w r = u at *
    have h1 : 0 ≤ A * u := Int.mul_nonneg (by omega) (by omega)
    have h2 : A * (u + 1) ≤ A * C := Int.mul_le_mul_of_nonneg_left (by omega) (by omega)
    rw [Int.mul_add, Int.mul_one] at h2
    omega

/-- The cells from i m on, m of them, as places. -/
def grpP (l cs : List Int) (m i : Nat) : List Int := ((cs.drop (i * m)).take m).map fun c => (plc l c : Int)
/-- The first n groups as numbers. -/
def packTo (l cs : List Int) (w m : Nat) : Nat → List Int
  | 0 => []
  | n + 1 => packTo l cs w m n ++ [undig w (grpP l cs m n)]
theorem packTo_len (l cs : List Int) (w m : Nat) : ∀ n, (packTo l cs w m n).length = n
  | 0 => rfl
  | n + 1 => by rw [packTo, List.length_append, packTo_len l cs w m n]; rfl
/-- The places that bytes tell. -/
def spread (w m : Nat) (bs : List Int) : List Int := bs.flatMap fun v => digsW w m v
theorem spread_app (w m : Nat) (a b : List Int) : spread w m (a ++ b) = spread w m a ++ spread w m b := by unfold spread; rw [List.flatMap_append]
theorem spread_len (w m : Nat) : ∀ bs : List Int, (spread w m bs).length = bs.length * m
  | [] => by simp [spread]
  | v :: r => by
    have ih := spread_len w m r
    unfold spread at *
    rw [List.flatMap_cons, List.length_append, digsW_len, ih, List.length_cons, Nat.add_mul]
    omega
theorem take_more (cs : List Int) (a m : Nat) : cs.take (a + m) = cs.take a ++ (cs.drop a).take m := by rw [List.take_add]
theorem spread_pack (l cs : List Int) (w m : Nat) (hl : ∀ x ∈ cs, x ∈ l) (hw : l.length ≤ 2 ^ w) : ∀ n, n * m ≤ cs.length → spread w m (packTo l cs w m n) = (cs.take (n * m)).map fun c => (plc l c : Int)
  | 0, _ => by simp [packTo, spread]
  | n + 1, h => by
    have hm : n * m + m ≤ cs.length := by rw [Nat.add_mul, Nat.one_mul] at h; exact h
    have ih := spread_pack l cs w m hl hw n (by omega)
    have hlen : (grpP l cs m n).length = m := by
      unfold grpP
      rw [List.length_map, List.length_take, List.length_drop]
      omega
    have hfit : ∀ p ∈ grpP l cs m n, 0 ≤ p ∧ p < 2 ^ w := by
      intro p hp
      unfold grpP at hp
      obtain ⟨c, hc, rfl⟩ := List.mem_map.1 hp
      have h1 := plc_lt (hl c (List.mem_of_mem_drop (List.mem_of_mem_take hc)))
      have h2 : plc l c < 2 ^ w := by omega
      exact ⟨by omega, by exact_mod_cast h2⟩
    have hb := digs_back w _ hfit
    rw [hlen] at hb
    rw [packTo, spread_app, ih, Nat.add_mul, Nat.one_mul, take_more, List.map_append]
    congr 1
    unfold spread
    rw [List.flatMap_cons, List.flatMap_nil, List.append_nil, hb]
    rfl

/-- What packed numbers tell. -/
def packD (l : List Int) (w : Nat) (bs : List Int) : Int × List Int :=
  if bs.length < 4096 * w then (3, [])
  else if (spread w (8 / w) (bs.take (4096 * w))).all (fun p => decide (p < l.length)) = false then (4, [])
  else if 4096 * w < bs.length then (2, [])
  else (0, (spread w (8 / w) (bs.take (4096 * w))).map fun p => l.getD p.toNat 0)
theorem groups_all (n : Nat) : 4096 * wid n * (8 / wid n) = 32768 := by
  rcases wid_is n with h | h | h | h <;> rw [h]
theorem pack_back (l cs : List Int) (hc : cs.length = 32768) (hl : ∀ x ∈ cs, x ∈ l) (h17 : l.length ≤ 17) : packD l (wid l.length) (packTo l cs (wid l.length) (8 / wid l.length) (4096 * wid l.length)) = (0, cs) := by
  have hg := groups_all l.length
  have hw := wid_fit h17
  generalize wid l.length = w at *
  have hs := spread_pack l cs w (8 / w) hl hw (4096 * w) (by omega)
  rw [hg, List.take_of_length_le (by omega)] at hs
  have hlen := packTo_len l cs w (8 / w) (4096 * w)
  unfold packD
  rw [if_neg (by omega), List.take_of_length_le (by omega), hs, if_neg, if_neg (by omega), List.map_map]
  · congr 1
    conv => rhs; rw [← List.map_id cs]
    refine List.map_congr_left fun c hcm => ?_
    show l.getD (plc l c : Int).toNat 0 = c
    rw [Int.toNat_natCast]
    exact plc_at (hl c hcm)
  · rw [Bool.not_eq_false, List.all_eq_true]
    intro p hp
    obtain ⟨c, hcm, rfl⟩ := List.mem_map.1 hp
    have := plc_lt (hl c hcm)
    exact decide_eq_true (by omega)
end Go.Proofs.Ytdkihhjhjfkjjaa
