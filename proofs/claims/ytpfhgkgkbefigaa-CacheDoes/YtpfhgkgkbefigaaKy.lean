/-
  maps.Values, slices.Collect, and how two items are compared.
-/
import Derived.Test.YtpfhgkgkbefigaaKc
set_option maxRecDepth 20000
namespace Go.Proofs.Ytpfhgkgkbefigaa
open Go.RowKit Go.Maps Go.Shelf

theorem collect_c (Bm mb : Nat) {D : Nat → It} {I : List Nat} {Dm : DataW Unit} (hmi : MapIs D I Dm) (hI : I.length ≤ 1000) (w : World) (hm : w.cell? ⟨Bm, 0, none⟩ = some (.map (some mb))) (hown : w.ownsMap Try.prog 31 ptrElem mb 1000 Dm) :
    Calls Try.prog 42 #[.func (.func 44) #[] #[.pointer (some ⟨Bm, 0, none⟩)]] w fun e w' => ∃ a c xs, e = .returned (.slice a xs.length c) ∧ xs.Perm I ∧ PRow w.heap.size w' a xs.length c xs ∧ Below w.heap.size w w' := by
  have h := appendSeq_c Bm mb hmi hI w hm hown
  clear hm hown
  go_enter Try.func42, Try.ntmps42
  go_wp2_with fail
  refine h.mono ?_
  clear h
  rintro _ w1 ⟨a, c, xs, rfl, h1, h2, h3⟩
  go_wp2
  go_ret
  exact ⟨a, c, xs, rfl, h1, h2, h3⟩
theorem values_c (mb : Nat) (w : World) : Calls Try.prog 37 #[.map (some mb)] w fun e w' => e = .returned (.func (.func 44) #[] #[.pointer (some ⟨w.heap.size, 0, none⟩)]) ∧ w' = w.alloc (.cells #[.map (some mb)] 49) := by
  go_enter Try.func37, Try.ntmps37
  go_wp2
  go_ret
  exact ⟨rfl, rfl⟩
/-- Of two numbers. -/
def cmpI (a b : Int) : Int := if a < b then -1 else if b < a then 1 else 0
theorem cmpI_neg (a b : Int) : cmpI a b < 0 ↔ a < b := by unfold cmpI; split <;> (try split) <;> omega
theorem nan_c (a : Int) (w : World) : Calls Try.prog 41 #[.int .i64 a] w fun e w' => e = .returned (.bool false) ∧ w' = w := by
  go_enter Try.func41, Try.ntmps41
  go_wp2
  go_ret
  exact ⟨ret_bool (by simp), rfl⟩
theorem cmp_c (a b : Int) (w : World) : Calls Try.prog 35 #[.int .i64 a, .int .i64 b] w fun e w' => e = .returned (.int .i64 (cmpI a b)) ∧ w' = w := by
  by_cases h1 : a < b
  · have e : cmpI a b = -1 := by unfold cmpI; rw [if_pos h1]
    rw [e]
    go_enter Try.func35, Try.ntmps35
    go_wp2_with (go_at_call 41; refine (nan_c _ _).mono ?_; rintro _ _ ⟨rfl, rfl⟩)
    go_ret
    exact ⟨rfl, rfl⟩
  · by_cases h2 : b < a
    · have e : cmpI a b = 1 := by unfold cmpI; rw [if_neg h1, if_pos h2]
      rw [e]
      go_enter Try.func35, Try.ntmps35
      go_wp2_with (go_at_call 41; refine (nan_c _ _).mono ?_; rintro _ _ ⟨rfl, rfl⟩)
      go_ret
      exact ⟨rfl, rfl⟩
    · have e : cmpI a b = 0 := by unfold cmpI; rw [if_neg h1, if_neg h2]
      rw [e]
      go_enter Try.func35, Try.ntmps35
      go_wp2_with (go_at_call 41; refine (nan_c _ _).mono ?_; rintro _ _ ⟨rfl, rfl⟩)
      go_ret
      exact ⟨rfl, rfl⟩
/-- The closure by which items are sorted. -/
theorem byUse_c (x y : Nat) (ux uy : Int) (w : World) (hx : w.cell? ⟨x, 3, none⟩ = some (.int .i64 ux)) (hy : w.cell? ⟨y, 3, none⟩ = some (.int .i64 uy)) :
    Calls Try.prog 34 #[pv x, pv y] w fun e w' => e = .returned (.int .i64 (cmpI ux uy)) ∧ w' = w.drew := by
  have hc := cmp_c ux uy w.drew
  unfold pv
  generalize cmpI ux uy = r at *
  go_enter Try.func34, Try.ntmps34
  go_wp2
  go_region_with (go_at_call 35; refine hc.mono ?_; rintro _ w3 ⟨rfl, rfl⟩)
  all_goals
    go_wp2
    go_ret
    exact ⟨rfl, rfl⟩
/-- Two rising rows of the same items are one. -/
theorem rise_eq {u : Nat → Nat} : ∀ (a b : List Nat), a.Pairwise (fun x y => u x < u y) → b.Pairwise (fun x y => u x < u y) → (∀ x, x ∈ a ↔ x ∈ b) → a = b
  | [], [], _, _, _ => rfl
  | [], y :: b, _, _, h => by have := (h y).2 (by simp); cases this
  | x :: a, [], _, _, h => by have := (h x).1 (by simp); cases this
  | x :: a, y :: b, ha, hb, h => by
    obtain ⟨ha1, ha2⟩ := List.pairwise_cons.1 ha
    obtain ⟨hb1, hb2⟩ := List.pairwise_cons.1 hb
    have e : x = y := by
      rcases List.mem_cons.1 ((h x).1 (by simp)) with h1 | h1
      · exact h1
      · rcases List.mem_cons.1 ((h y).2 (by simp)) with h2 | h2
        · exact h2.symm
        · have := ha1 y h2
          have := hb1 x h1
          omega
    subst e
    have hna : x ∉ a := fun hm => by have := ha1 x hm; omega
    have hnb : x ∉ b := fun hm => by have := hb1 x hm; omega
    rw [rise_eq a b ha2 hb2 (fun z => ?_)]
    have := h z
    rw [List.mem_cons, List.mem_cons] at this
    constructor
    · intro hz
      exact (this.1 (.inr hz)).resolve_left (fun e => hna (e ▸ hz))
    · intro hz
      exact (this.2 (.inr hz)).resolve_left (fun e => hnb (e ▸ hz))
end Go.Proofs.Ytpfhgkgkbefigaa
