/-
  What comes in: bytes, changes, changes in a slice, slices of such slices, whole numbers in a slice.
-/
import Derived.Test.YtdjhlpllffakpaaRows
import Derived.Test.YtdjhlpllffakpaaGplans
import Derived.Test.YtdjhlpllffakpaaGalone
import Derived.Test.YtdjhlpllffakpaaGneeds
import Derived.Test.YtdjhlpllffakpaaBase
import Derived.SizedLaws
set_option maxRecDepth 20000
namespace Go.Proofs.Ytdjhlpllffakpaa
open Go.ChangeShapes Go.WideShapes Go.ChangeAt Go.RowKit Go.Joins Go.Deep

theorem bytes5 : Try.prog.bytesOf 5 = 1 := by kernel_rfl
theorem cellsCg : Try.prog.cellsOf 56 = 2 := by kernel_rfl
theorem cellsCgs : Try.prog.cellsOf 49 = 1 := by kernel_rfl
theorem weightsAll_mem {H : Type} {e : TypeId} {d : DataW H} {n : Nat} : ∀ {l : List (DataW H)}, d ∈ l → n ∈ d.weights Try.prog e → n ∈ DataW.weightsAll Try.prog e l
  | [], h, _ => absurd h (by simp)
  | x :: r, h, hn => by
    rw [DataW.weightsAll, List.mem_append]
    rcases List.mem_cons.1 h with rfl | h
    · exact Or.inl hn
    · exact Or.inr (weightsAll_mem h hn)
theorem list_of {α : Type} (Q : Nat → α → Prop) : ∀ n : Nat, (∀ i, i < n → ∃ x, Q i x) → ∃ l : List α, l.length = n ∧ ∀ i (h : i < l.length), Q i l[i]
  | 0, _ => ⟨[], rfl, fun i hi => absurd hi (Nat.not_lt_zero _)⟩
  | n + 1, h => by
    obtain ⟨l, hl, hq⟩ := list_of Q n fun i hi => h i (by omega)
    obtain ⟨x, hx⟩ := h n (by omega)
    refine ⟨l ++ [x], by rw [List.length_append, hl]; rfl, fun i hi => ?_⟩
    by_cases e : i < l.length
    · rw [List.getElem_append_left e]
      exact hq i e
    · rw [List.length_append, List.length_singleton] at hi
      obtain rfl : i = l.length := by omega
      rw [List.getElem_append_right (Nat.le_refl _)]
      simp only [Nat.sub_self, List.getElem_singleton]
      rw [hl]
      exact hx
section
variable {H : Type} {enc : TypeId × Value → H} {w : World} {base : Nat} {spare : Nat → Bool} {held : Bool}
theorem one_int {n : Nat} {v : Value} {y : DataW H × List MemPlace} (h : DataW.trod enc Try.prog w base spare held n 3 [v] = some y) : ∃ x, v = .int .i64 x ∧ I64 x := by
  obtain ⟨a, e, _, hw⟩ := DataW.trod_int Try.underlying3 h
  simp at e
  exact ⟨a, e, bd64 hw⟩
/-- Bytes that came in. -/
theorem one_bytes_sized {n : Nat} {v : Value} {y : DataW H × List MemPlace} (h : DataW.trod enc Try.prog w base spare held n 25 [v] = some y) (hz : ∀ m ∈ y.1.weights Try.prog 25, m ≤ reachBytes) : ∃ (a : Option Addr) (len cap : Nat) (bs : List Int), v = .slice a len cap ∧ Bytes w a len bs ∧ (a = none → cap = 0) ∧ len ≤ reachBytes := by
  rcases open_slice1 Try.underlying25 (by kernel_rfl) h with ⟨hcs, _⟩ | ⟨x, len, cap, m, n, V, D, Pl, hcs, _, hl, _, hm, hy, hx⟩
  · simp at hcs
    exact ⟨none, 0, 0, [], hcs, ⟨rfl, Or.inl rfl, fun z hz => by simp at hz⟩, fun _ => rfl, Nat.zero_le _⟩
  · simp at hcs
    subst hcs
    have hlm : len ≤ m := by rw [hm]; split <;> omega
    have hsz : len ≤ reachBytes := by
      have := hz ((((List.range len).map D).length + ((List.range (m - len)).map fun j => D (len + j)).length) * Try.prog.bytesOf 5) (by rw [hy]; simp [DataW.weights, Try.underlying25])
      rw [bytes5] at this
      simp at this
      omega
    have each : ∀ i, i < len → ∃ q : Int, w.cell? (x.add i) = some (.int .u8 q) ∧ 0 ≤ q ∧ q ≤ 255 := by
      intro i hi
      obtain ⟨h1, h2⟩ := hx i (by omega)
      obtain ⟨q, e, _, hw⟩ := DataW.trod_int Try.underlying5 h2
      simp at e
      rw [e] at h1
      exact ⟨q, h1, bd8 hw⟩
    refine ⟨some x, len, cap, (List.range len).map fun i => match w.cell? (x.add i) with | some (.int _ q) => q | _ => 0, rfl, ⟨by simp, ?_, ?_⟩, fun e => (by cases e), hsz⟩
    · by_cases h0 : len = 0
      · left; subst h0; rfl
      · right
        obtain ⟨b, off, spot⟩ := x
        have hs : spot = none := by
          obtain ⟨_, z0, _⟩ := each 0 (by omega)
          simpa [Addr.add] using World.cell?_spot z0
        subst hs
        refine ⟨b, off, rfl, fun k hk => ?_⟩
        simp only [List.length_map, List.length_range] at hk
        obtain ⟨q, hq, _⟩ := each k hk
        rw [Addr.add_mid] at hq
        simp only [List.getElem_map, List.getElem_range, Addr.add_mid, hq]
    · intro z hz
      obtain ⟨i, hi, rfl⟩ := List.mem_map.1 hz
      obtain ⟨q, hq, hb⟩ := each i (List.mem_range.1 hi)
      rw [hq]
      exact hb
theorem in_bytes {a : Option Addr} {len cap : Nat} {d : DataW H} {p : List MemPlace} (h : DataW.Trod enc Try.prog w base spare held 25 (.slice a len cap) d p) (hz : ∀ m ∈ d.weights Try.prog 25, m ≤ reachBytes) : ∃ bs, Bytes w a len bs := by
  obtain ⟨fuel, hf⟩ := h
  obtain ⟨a', len', cap', bs, e, hB, _⟩ := one_bytes_sized (v := .slice a len cap) (y := (d, p)) hf hz
  cases e
  exact ⟨bs, hB⟩
/-- A change that came in, its cells. -/
theorem one_cg {n : Nat} {cs : List Value} {y : DataW H × List MemPlace} (h : DataW.trod enc Try.prog w base spare held n 56 cs = some y) (hz : ∀ m ∈ y.1.weights Try.prog 56, m ≤ reachBytes) : ∃ o : Cg, cs = [.int .i64 o.s, .slice o.a o.n o.c] ∧ CgIn w o := by
  obtain ⟨y0, y1, k, hag, hl, t0, t1⟩ := trod_struct2 Try.underlying56 h
  have hz3 : ∀ m ∈ y1.1.weights Try.prog 25, m ≤ reachBytes := fun q hq => hz q (by
    rw [hag]
    simp only [DataW.weights, Try.underlying56]
    exact DataW.weights_mem_each (j := 1) (t := 25) rfl rfl q hq)
  rw [cellsCg] at hl
  match cs, hl with
  | [v0, v1], _ =>
    simp only [cells3, cells25, List.drop_zero, List.drop_succ_cons, List.take_succ_cons, List.take_zero] at t0 t1
    obtain ⟨s, rfl, hs⟩ := one_int t0
    obtain ⟨ab, nb, cb, bs, rfl, hB, hn, hr⟩ := one_bytes_sized t1 hz3
    exact ⟨⟨s, ab, nb, cb, bs⟩, rfl, ⟨hB, hn, hs, hr⟩⟩
theorem in_cg {r : Reach} {b0 : Nat} {v : Value} {d : DataW H} {p : List MemPlace} (hv : Value.okWide Try.prog w r b0 56 v) (h : DataW.Trod enc Try.prog w base spare held 56 v d p) (hz : ∀ m ∈ d.weights Try.prog 56, m ≤ reachBytes) : ∃ (s : Int) (a : Option Addr) (n c : Nat) (b : List Int), v = .agg #[.int .i64 s, .slice a n c] ∧ CgIn w ⟨s, a, n, c, b⟩ := by
  obtain ⟨cs, rfl, _⟩ := okWide_struct Try.underlying56 hv
  obtain ⟨fuel, hf⟩ := h
  obtain ⟨⟨s, a, n, c, b⟩, e, ho⟩ := one_cg (y := (d, p)) hf hz
  refine ⟨s, a, n, c, b, ?_, ho⟩
  congr 1
  exact Array.toList_inj.1 (by simpa [Value.cells] using e)
/-- Changes that came in. -/
theorem open_cgs {fuel : Nat} {v : Value} {y : DataW H × List MemPlace} (hf : DataW.trod enc Try.prog w base spare held fuel 49 [v] = some y) (hz : ∀ m ∈ y.1.weights Try.prog 49, m ≤ reachBytes) :
    ∃ a len cap, v = .slice a len cap ∧ len ≤ maxLen ∧ ∃ l : List Cg, l.length = len ∧ CgsAt w a l := by
  rcases open_slice Try.underlying49 hf with ⟨hcs, _⟩ | ⟨x, len, cap, m, n, D, Pl, hcs, _, hl, hcap, hm, hy, hx⟩
  · simp at hcs
    exact ⟨none, 0, 0, hcs, Nat.zero_le _, [], rfl, fun k hk => absurd hk (Nat.not_lt_zero _)⟩
  · simp at hcs
    refine ⟨some x, len, cap, hcs, by omega, ?_⟩
    have hlm : len ≤ m := by rw [hm]; split <;> omega
    obtain ⟨b, off, spot⟩ := x
    have hspot : 0 < len → spot = none := fun h0 => by
      obtain ⟨cs', h1, h2⟩ := hx 0 (by omega)
      obtain ⟨_, _, _, _, hl2, _⟩ := trod_struct2 Try.underlying56 h2
      rw [cellsCg] at hl2 h1
      obtain ⟨_, _, hcell⟩ := World.cells?_some h1
      have e0 := hcell 0 (by omega)
      rw [add_add, List.getElem?_eq_getElem (by omega)] at e0
      simpa [Addr.add] using World.cell?_spot e0
    have each : ∀ i, i < len → ∃ o : Cg, spot = none ∧ CgAt w b off i o := by
      intro i hi
      have hzi : ∀ m ∈ (D i).weights Try.prog 56, m ≤ reachBytes := fun q hq => hz q (by
        rw [hy]
        simp only [DataW.weights, Try.underlying49]
        exact List.mem_cons_of_mem _ (List.mem_append_left _ (weightsAll_mem (List.mem_map.2 ⟨i, List.mem_range.2 hi, rfl⟩) hq)))
      have hs := hspot (by omega)
      obtain ⟨cs', h1, h2⟩ := hx i (by omega)
      obtain ⟨o, rfl, ho⟩ := one_cg h2 hzi
      rw [cellsCg] at h1
      obtain ⟨_, _, hcell⟩ := World.cells?_some h1
      have e0 := hcell 0 (by simp)
      have e1 := hcell 1 (by simp)
      subst hs
      simp only [Addr.add_mid] at e0 e1
      exact ⟨o, rfl, ⟨by simpa using e0, by simpa using e1, ho.by_, ho.nil, ho.bd, ho.sz⟩⟩
    obtain ⟨l, hll, hq⟩ := list_of (fun i o => spot = none ∧ CgAt w b off i o) len each
    refine ⟨l, hll, fun k hk => ?_⟩
    obtain ⟨hs, ho⟩ := hq k hk
    subst hs
    exact ⟨b, off, rfl, ho⟩
theorem in_cgs {a : Option Addr} {len cap : Nat} {d : DataW H} {p : List MemPlace} (h : DataW.Trod enc Try.prog w base spare held 49 (.slice a len cap) d p) (hz : ∀ m ∈ d.weights Try.prog 49, m ≤ reachBytes) : len ≤ maxLen ∧ ∃ l : List Cg, l.length = len ∧ CgsAt w a l := by
  obtain ⟨fuel, hf⟩ := h
  obtain ⟨a', len', cap', e, h1, l, h2, h3⟩ := open_cgs (v := .slice a len cap) (y := (d, p)) hf hz
  cases e
  exact ⟨h1, l, h2, h3⟩
/-- Lists of changes that came in. -/
theorem in_gcs {a : Option Addr} {len cap : Nat} {d : DataW H} {p : List MemPlace} (h : DataW.Trod enc Try.prog w base spare held 45 (.slice a len cap) d p) (hz : ∀ m ∈ d.weights Try.prog 45, m ≤ reachBytes) : len ≤ maxLen ∧ ∃ l : List Gc, l.length = len ∧ GcsAt w a l := by
  obtain ⟨fuel, hf⟩ := h
  rcases open_slice1 Try.underlying45 cellsCgs hf with ⟨hcs, _⟩ | ⟨x, len', cap', m, n, V, D, Pl, hcs, _, hl, hcap, hm, hy, hx⟩
  · simp [Value.cells] at hcs
    obtain ⟨rfl, rfl, rfl⟩ := hcs
    exact ⟨Nat.zero_le _, [], rfl, fun k hk => absurd hk (Nat.not_lt_zero _)⟩
  · simp [Value.cells] at hcs
    obtain ⟨rfl, rfl, rfl⟩ := hcs
    refine ⟨by omega, ?_⟩
    have hlm : len ≤ m := by rw [hm]; split <;> omega
    obtain ⟨b, off, spot⟩ := x
    have hspot : 0 < len → spot = none := fun h0 => by
      obtain ⟨e0, _⟩ := hx 0 (by omega)
      simpa [Addr.add] using World.cell?_spot e0
    have each : ∀ i, i < len → ∃ g : Gc, spot = none ∧ GcAt w b off i g := by
      intro i hi
      have hs := hspot (by omega)
      have hzi : ∀ m ∈ (D i).weights Try.prog 49, m ≤ reachBytes := fun q hq => hz q (by
        simp only [Prod.mk.injEq] at hy
        rw [hy.1]
        simp only [DataW.weights, Try.underlying45]
        exact List.mem_cons_of_mem _ (List.mem_append_left _ (weightsAll_mem (List.mem_map.2 ⟨i, List.mem_range.2 hi, rfl⟩) hq)))
      obtain ⟨h1, h2⟩ := hx i (by omega)
      obtain ⟨a, n, c, e, hle, l, hll, hp⟩ := open_cgs h2 hzi
      rw [e] at h1
      subst hs
      rw [Addr.add_mid] at h1
      exact ⟨⟨a, n, c, l⟩, rfl, h1, hll, hle, hp⟩
    obtain ⟨l, hll, hq⟩ := list_of (fun i o => spot = none ∧ GcAt w b off i o) len each
    refine ⟨l, hll, fun k hk => ?_⟩
    obtain ⟨hs, ho⟩ := hq k hk
    subst hs
    exact ⟨b, off, rfl, ho⟩
theorem in_ints {a : Option Addr} {len cap : Nat} {d : DataW H} {p : List MemPlace} (h : DataW.Trod enc Try.prog w base spare held 33 (.slice a len cap) d p) : len ≤ maxLen ∧ IntsIn w a len := by
  obtain ⟨fuel, hf⟩ := h
  rcases open_slice1 Try.underlying33 (by kernel_rfl) hf with ⟨hcs, _⟩ | ⟨x, len', cap', m, n, V, D, Pl, hcs, _, hl, hcap, hm, hy, hx⟩
  · simp [Value.cells] at hcs
    obtain ⟨rfl, rfl, rfl⟩ := hcs
    exact ⟨Nat.zero_le _, fun k hk => absurd hk (Nat.not_lt_zero _)⟩
  · simp [Value.cells] at hcs
    obtain ⟨rfl, rfl, rfl⟩ := hcs
    have hlm : len ≤ m := by rw [hm]; split <;> omega
    refine ⟨by omega, fun k hk => ?_⟩
    obtain ⟨h1, h2⟩ := hx k (by omega)
    obtain ⟨q, e, hq⟩ := one_int h2
    rw [e] at h1
    obtain ⟨b, off, spot⟩ := x
    have hs : spot = none := by
      obtain ⟨z0, _⟩ := hx 0 (by omega)
      simpa [Addr.add] using World.cell?_spot z0
    subst hs
    rw [Addr.add_mid] at h1
    exact ⟨b, off, q, rfl, hq, h1⟩
end
end Go.Proofs.Ytdjhlpllffakpaa
