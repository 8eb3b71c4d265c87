/-
  Calls that come in a slice, with the sizes of their bytes.
-/
import Derived.Test.YtfpcfgfpebdplaaDoes
namespace Go.Proofs.Ytfpcfgfpebdplaa
open Go.ChangeShapes Go.WideShapes Go.ChangeAt Go.RowKit Go.Joins Go.Deep

theorem bytes5 : Try.prog.bytesOf 5 = 1 := by kernel_rfl
theorem weightsAll_mem {H : Type} {e : TypeId} {d : DataW H} {n : Nat} : ∀ {l : List (DataW H)}, d ∈ l → n ∈ d.weights Try.prog e → n ∈ DataW.weightsAll Try.prog e l
  | [], h, _ => absurd h (by simp)
  | x :: r, h, hn => by
    rw [DataW.weightsAll, List.mem_append]
    rcases List.mem_cons.1 h with rfl | h
    · exact Or.inl hn
    · exact Or.inr (weightsAll_mem h hn)
section
variable {H : Type} {enc : TypeId × Value → H} {w : World} {base : Nat} {spare : Nat → Bool} {held : Bool}
/-- Bytes that came in. -/
theorem one_bytes_sized {n : Nat} {v : Value} {y : DataW H × List MemPlace} (h : DataW.trod enc Try.prog w base spare held n 31 [v] = some y) (hz : ∀ m ∈ y.1.weights Try.prog 31, m ≤ reachBytes) : ∃ (a : Option Addr) (len cap : Nat) (bs : List Int), v = .slice a len cap ∧ Bytes w a len bs ∧ (a = none → cap = 0) ∧ len ≤ cap ∧ len ≤ reachBytes := by
  rcases open_slice1 Try.underlying31 (by kernel_rfl) h with ⟨hcs, _⟩ | ⟨x, len, cap, m, n, V, D, Pl, hcs, _, hl, _, hm, hy, hx⟩
  · simp at hcs
    exact ⟨none, 0, 0, [], hcs, ⟨rfl, Or.inl rfl, fun z hz => by simp at hz⟩, fun _ => rfl, Nat.le_refl _, Nat.zero_le _⟩
  · simp at hcs
    subst hcs
    have hlm : len ≤ m := by rw [hm]; split <;> omega
    have hsz : len ≤ reachBytes := by
      have := hz ((((List.range len).map D).length + ((List.range (m - len)).map fun j => D (len + j)).length) * Try.prog.bytesOf 5) (by rw [hy]; simp [DataW.weights, Try.underlying31])
      rw [bytes5] at this
      simp at this
      omega
    have each : ∀ i, i < len → ∃ q : Int, w.cell? (x.add i) = some (.int .u8 q) ∧ 0 ≤ q ∧ q ≤ 255 := by
      intro i hi
      obtain ⟨h1, h2⟩ := hx i (by omega)
      obtain ⟨q, e, _, hw⟩ := DataW.trod_int Try.underlying5 h2
      simp at e
      rw [e] at h1
      exact ⟨q, h1, bd8 hw⟩
    refine ⟨some x, len, cap, (List.range len).map fun i => match w.cell? (x.add i) with | some (.int _ q) => q | _ => 0, rfl, ⟨by simp, ?_, ?_⟩, fun e => (by cases e), hl, hsz⟩
    · by_cases h0 : len = 0
      · left; subst h0; rfl
      · right
        obtain ⟨b, off, spot⟩ := x
        have hs : spot = none := by
          obtain ⟨_, z0, _⟩ := each 0 (by omega)
          simpa [Addr.add] using World.cell?_spot z0
        subst hs
        refine ⟨b, off, rfl, fun k hk => ?_⟩
        simp only [List.length_map, List.length_range] at hk
        obtain ⟨q, hq, _⟩ := each k hk
        rw [Addr.add_mid] at hq
        simp only [List.getElem_map, List.getElem_range, Addr.add_mid, hq]
    · intro z hz
      obtain ⟨i, hi, rfl⟩ := List.mem_map.1 hz
      obtain ⟨q, hq, hb⟩ := each i (List.mem_range.1 hi)
      rw [hq]
      exact hb
/-- Calls that came in. -/
theorem open_ops_sized {a : Option Addr} {len cap : Nat} {d : DataW H} {p : List MemPlace} (h : DataW.Trod enc Try.prog w base spare held 22 (.slice a len cap) d p) (hz : ∀ m ∈ d.weights Try.prog 22, m ≤ reachBytes) : ∃ l : List Oc, l.length = len ∧ Ops w a l ∧ ∀ i (h : i < l.length), l[i].n ≤ reachBytes := by
  obtain ⟨fuel, hf⟩ := h
  rcases open_slice Try.underlying22 hf with ⟨hcs, _⟩ | ⟨x, len', cap', m, n, D, Pl, hcs, _, hl, _, hm, hy, hx⟩
  · simp [Value.cells] at hcs
    obtain ⟨rfl, rfl, rfl⟩ := hcs
    exact ⟨[], rfl, fun k hk => absurd hk (Nat.not_lt_zero _), fun k hk => absurd hk (Nat.not_lt_zero _)⟩
  · simp [Value.cells] at hcs
    obtain ⟨rfl, rfl, rfl⟩ := hcs
    have hlm : len ≤ m := by rw [hm]; split <;> omega
    obtain ⟨b, off, spot⟩ := x
    have hspot : 0 < len → spot = none := fun h0 => by
      obtain ⟨cs', h1, h2⟩ := hx 0 (by omega)
      obtain ⟨_, _, _, _, _, _, hl2, _⟩ := trod_struct4 Try.underlying33 h2
      rw [cells33] at hl2 h1
      obtain ⟨_, _, hcell⟩ := World.cells?_some h1
      have e0 := hcell 0 (by omega)
      rw [add_add, List.getElem?_eq_getElem (by omega)] at e0
      simpa [Addr.add] using World.cell?_spot e0
    have each : ∀ i, i < len → ∃ o : Oc, spot = none ∧ OpAt w b off i o ∧ o.n ≤ reachBytes := by
      intro i hi
      have hzi : ∀ m ∈ (D i).weights Try.prog 33, m ≤ reachBytes := fun q hq => hz q (by
        simp only [Prod.mk.injEq] at hy
        rw [hy.1]
        simp only [DataW.weights, Try.underlying22]
        exact List.mem_cons_of_mem _ (List.mem_append_left _ (weightsAll_mem (List.mem_map.2 ⟨i, List.mem_range.2 hi, rfl⟩) hq)))
      have hs := hspot (by omega)
      obtain ⟨cs', h1, h2⟩ := hx i (by omega)
      obtain ⟨y0, y1, y2, y3, m2, hag, hl2, t0, t1, t2, t3⟩ := trod_struct4 Try.underlying33 h2
      have hz3 : ∀ m ∈ y3.1.weights Try.prog 31, m ≤ reachBytes := fun q hq => hzi q (by
        simp only [Prod.mk.injEq] at hag
        rw [hag.1]
        simp only [DataW.weights, Try.underlying33]
        exact DataW.weights_mem_each (j := 3) (t := 31) rfl rfl q hq)
      rw [cells33] at hl2 h1
      match cs', hl2 with
      | [v0, v1, v2, v3, v4, v5], _ =>
        simp only [cells3, cells30, cells31, List.drop_zero, List.drop_succ_cons, List.take_succ_cons, List.take_zero] at t0 t1 t2 t3
        obtain ⟨k, rfl, _⟩ := one_int t0
        obtain ⟨f, ef, b1, b2, b3⟩ := one_file t1
        simp only [List.cons.injEq, and_true] at ef
        obtain ⟨rfl, rfl, rfl⟩ := ef
        obtain ⟨ii, rfl, b4⟩ := one_int t2
        obtain ⟨ab, nb, cb, bs, rfl, hB, hn, hc, hr⟩ := one_bytes_sized t3 hz3
        obtain ⟨_, _, hcell⟩ := World.cells?_some h1
        have e0 := hcell 0 (by simp)
        have e1 := hcell 1 (by simp)
        have e2 := hcell 2 (by simp)
        have e3 := hcell 3 (by simp)
        have e4 := hcell 4 (by simp)
        have e5 := hcell 5 (by simp)
        subst hs
        simp only [Addr.add_mid] at e0 e1 e2 e3 e4 e5
        exact ⟨⟨k, f, ii, ab, nb, cb, bs⟩, rfl, ⟨by simpa using e0, by simpa using e1, by simpa using e2, by simpa using e3, by simpa using e4, by simpa using e5, hB, hn, hc, b4, b1, b2, b3⟩, hr⟩
    obtain ⟨l, hll, hq⟩ := list_of (fun i o => spot = none ∧ OpAt w b off i o ∧ o.n ≤ reachBytes) len each
    refine ⟨l, hll, fun k hk => ?_, fun k hk => (hq k hk).2.2⟩
    obtain ⟨hs, ho, _⟩ := hq k hk
    subst hs
    exact ⟨b, off, rfl, ho⟩
end
end Go.Proofs.Ytfpcfgfpebdplaa
