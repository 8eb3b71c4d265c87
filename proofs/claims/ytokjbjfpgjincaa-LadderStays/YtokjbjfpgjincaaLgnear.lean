/-
  The program's Near, as a row of chunks.
-/
import Derived.Test.YtokjbjfpgjincaaGn6
import Derived.Test.YtokjbjfpgjincaaLnear
set_option maxRecDepth 20000
namespace Go.Proofs.Ytokjbjfpgjincaa
open Go.RowKit

theorem nearL_nr (x z r : Int) (h0 : 0 ≤ r) (h8 : r ≤ 8) (hx : Far 2199023255560 x) (hz : Far 2199023255560 z) : G.flatN x z (G.nearL r) = atCells (nrL x z r) := by
  obtain ⟨x1, x2⟩ := hx
  obtain ⟨z1, z2⟩ := hz
  obtain ⟨_, eN, _⟩ := G.near_count r h0 h8
  have e : G.sideN (-r) r = (((2 * r + 1).toNat : Nat) : Int) := by unfold G.sideN; rw [if_pos (by omega)]; omega
  have eL : G.nearL r = G.upto (-r) 0 (-r) (2 * r + 1).toNat (2 * r + 1).toNat ((2 * r + 1).toNat * (2 * r + 1).toNat) := by
    unfold G.nearL G.boxL
    rw [show G.boxN (-r) 0 (-r) r 0 r = G.nearN r from rfl, eN, e, Int.toNat_natCast]
  rw [eL]
  obtain ⟨S, hS0⟩ : ∃ S, S = (2 * r + 1).toNat := ⟨_, rfl⟩
  have hL : nrL x z r = nrU x z r S (S * S) := by unfold nrL nrU; rw [if_pos (by omega), ← hS0]
  rw [hL, ← hS0]
  have hS : (S : Int) = 2 * r + 1 := by omega
  unfold G.flatN atCells G.upto nrU
  rw [List.flatMap_map, List.flatMap_map]
  have key : ∀ k ∈ List.range (S * S), ([Value.int .i64 (wrap64 (x + (G.cellAt (-r) 0 (-r) S S k).x)), Value.int .i64 (wrap64 (z + (G.cellAt (-r) 0 (-r) S S k).z))] : List Value) = atc (x - r + ((k % S : Nat) : Int), z - r + ((k / S : Nat) : Int)) := fun k hk => by
    rw [List.mem_range] at hk
    have h1 : k % S < S := Nat.mod_lt _ (by omega)
    have h2 : k / S < S := Nat.div_lt_of_lt_mul hk
    have h3 : k / S % S = k / S := Nat.mod_eq_of_lt h2
    unfold G.cellAt atc
    simp only [h3]
    generalize k % S = E at *
    generalize k / S = D at *
    have w1 : wrap64 (x + (-r + (E : Int))) = x - r + (E : Int) := by unfold wrap64; omega
    have w2 : wrap64 (z + (-r + (D : Int))) = z - r + (D : Int) := by unfold wrap64; omega
    rw [w1, w2]
  have gen : ∀ (l : List Nat), (∀ k ∈ l, k ∈ List.range (S * S)) → l.flatMap (fun k => ([Value.int .i64 (wrap64 (x + (G.cellAt (-r) 0 (-r) S S k).x)), Value.int .i64 (wrap64 (z + (G.cellAt (-r) 0 (-r) S S k).z))] : List Value)) = l.flatMap (fun k => atc (x - r + ((k % S : Nat) : Int), z - r + ((k / S : Nat) : Int))) := by
    intro l
    induction l with
    | nil => intro _; rfl
    | cons k l ih =>
      intro hl
      rw [List.flatMap_cons, List.flatMap_cons, key k (hl k (by simp)), ih (fun j hj => hl j (List.mem_cons_of_mem _ hj))]
  exact gen _ (fun k hk => hk)
theorem gnear_c (x z r : Int) (w : World) (hx : Far 2199023255560 x) (hz : Far 2199023255560 z) :
    Calls Try.prog 30 #[.agg #[.int .i64 x, .int .i64 z], .int .i64 r] w fun e w' => Below w.heap.size w w' ∧ ∃ a c, e = .returned (.slice a (nrL x z r).length c) ∧ OwnA w' w.heap.size a c (nrL x z r) ∧ (nrL x z r).length ≤ 289 := by
  by_cases h : 0 ≤ r ∧ r ≤ 8
  · refine (G.near_c x z r h.1 h.2 w).mono ?_
    rintro _ w' ⟨v, rfl, hown, hb⟩
    obtain ⟨_, eN, h289⟩ := G.near_count r h.1 h.2
    have el : (nrL x z r).length = G.nearN r := by rw [eN]; unfold nrL; rw [if_pos h]; simp
    rw [nearL_nr x z r h.1 h.2 hx hz] at hown
    have e : ∃ a c, v = .slice a (nrL x z r).length c := by
      rcases hown.2 with ⟨hv, hn⟩ | ⟨g, cap, _, hv, _⟩
      · exact ⟨none, 0, by rw [hv, el, hn]⟩
      · exact ⟨_, _, by rw [hv, el]⟩
    obtain ⟨a, c, rfl⟩ := e
    refine ⟨hb, a, c, rfl, ?_, by rw [el]; exact h289⟩
    unfold OwnA
    rw [el] at hown ⊢
    exact hown
  · have e : nrL x z r = [] := by unfold nrL; rw [if_neg h]
    refine (G.near_none x z r (by omega) w).mono ?_
    rintro _ w' ⟨rfl, hb⟩
    exact ⟨hb, none, 0, by rw [e]; rfl, by rw [e]; exact World.ownsRow_nil _ _ _ _, by rw [e]; simp⟩
end Go.Proofs.Ytokjbjfpgjincaa
