/-
  Blocks that come in a slice, and slices of such slices: each has a file, a number and bytes; with the sizes of their bytes.
-/
import Derived.Test.YtjkeejbfipmidaaRows
import Derived.Test.YtjkeejbfipmidaaMem
import Derived.Test.YtjkeejbfipmidaaDisk
import Derived.Test.YtjkeejbfipmidaaBase
set_option maxRecDepth 20000
namespace Go.Proofs.Ytjkeejbfipmidaa
open Go.ChangeShapes Go.WideShapes Go.ChangeAt Go.RowKit Go.Joins Go.Deep

/-- A block that came in. -/
structure Pt where
  f : Fl
  i : Int
  a : Option Addr
  n : Nat
  c : Nat
  b : List Int
/-- Where a block's cells lie, and its bytes. -/
structure PutAt (w : World) (b off k : Nat) (o : Pt) : Prop where
  c0 : w.cell? ⟨b, off + k * 5, none⟩ = some (.int .i64 o.f.1)
  c1 : w.cell? ⟨b, off + k * 5 + 1, none⟩ = some (.int .i64 o.f.2.1)
  c2 : w.cell? ⟨b, off + k * 5 + 2, none⟩ = some (.int .i64 o.f.2.2)
  c3 : w.cell? ⟨b, off + k * 5 + 3, none⟩ = some (.int .i64 o.i)
  c4 : w.cell? ⟨b, off + k * 5 + 4, none⟩ = some (.slice o.a o.n o.c)
  by_ : Bytes w o.a o.n o.b
  nil : o.a = none → o.c = 0
  cap : o.n ≤ o.c
  bd : I64 o.i ∧ I64 o.f.1 ∧ I64 o.f.2.1 ∧ I64 o.f.2.2
  sz : o.n ≤ reachBytes
/-- All blocks of a slice. -/
def Puts (w : World) (a : Option Addr) (l : List Pt) : Prop := ∀ k (h : k < l.length), ∃ b off, a = some ⟨b, off, none⟩ ∧ PutAt w b off k l[k]
/-- A group that came in. -/
structure Gp where
  a : Option Addr
  n : Nat
  c : Nat
  l : List Pt
structure GpAt (w : World) (b off k : Nat) (g : Gp) : Prop where
  c0 : w.cell? ⟨b, off + k, none⟩ = some (.slice g.a g.n g.c)
  len : g.l.length = g.n
  le : g.n ≤ maxLen
  puts : Puts w g.a g.l
/-- All groups of a slice. -/
def Gps (w : World) (a : Option Addr) (l : List Gp) : Prop := ∀ k (h : k < l.length), ∃ b off, a = some ⟨b, off, none⟩ ∧ GpAt w b off k l[k]

theorem bytes5 : Try.prog.bytesOf 5 = 1 := by kernel_rfl
theorem cells41 : Try.prog.cellsOf 41 = 5 := by kernel_rfl
theorem cells33 : Try.prog.cellsOf 33 = 1 := by kernel_rfl
theorem weightsAll_mem {H : Type} {e : TypeId} {d : DataW H} {n : Nat} : ∀ {l : List (DataW H)}, d ∈ l → n ∈ d.weights Try.prog e → n ∈ DataW.weightsAll Try.prog e l
  | [], h, _ => absurd h (by simp)
  | x :: r, h, hn => by
    rw [DataW.weightsAll, List.mem_append]
    rcases List.mem_cons.1 h with rfl | h
    · exact Or.inl hn
    · exact Or.inr (weightsAll_mem h hn)
theorem list_of {α : Type} (Q : Nat → α → Prop) : ∀ n : Nat, (∀ i, i < n → ∃ x, Q i x) → ∃ l : List α, l.length = n ∧ ∀ i (h : i < l.length), Q i l[i]
  | 0, _ => ⟨[], rfl, fun i hi => absurd hi (Nat.not_lt_zero _)⟩
  | n + 1, h => by
    obtain ⟨l, hl, hq⟩ := list_of Q n fun i hi => h i (by omega)
    obtain ⟨x, hx⟩ := h n (by omega)
    refine ⟨l ++ [x], by rw [List.length_append, hl]; rfl, fun i hi => ?_⟩
    by_cases e : i < l.length
    · rw [List.getElem_append_left e]
      exact hq i e
    · rw [List.length_append, List.length_singleton] at hi
      obtain rfl : i = l.length := by omega
      rw [List.getElem_append_right (Nat.le_refl _)]
      simp only [Nat.sub_self, List.getElem_singleton]
      rw [hl]
      exact hx
section
variable {H : Type} {enc : TypeId × Value → H} {w : World} {base : Nat} {spare : Nat → Bool} {held : Bool}
theorem one_int {n : Nat} {v : Value} {y : DataW H × List MemPlace} (h : DataW.trod enc Try.prog w base spare held n 3 [v] = some y) : ∃ x, v = .int .i64 x ∧ I64 x := by
  obtain ⟨a, e, _, hw⟩ := DataW.trod_int Try.underlying3 h
  simp at e
  exact ⟨a, e, bd64 hw⟩
theorem one_file {n : Nat} {cs : List Value} {y : DataW H × List MemPlace} (h : DataW.trod enc Try.prog w base spare held n 38 cs = some y) : ∃ f : Fl, cs = [.int .i64 f.1, .int .i64 f.2.1, .int .i64 f.2.2] ∧ I64 f.1 ∧ I64 f.2.1 ∧ I64 f.2.2 := by
  obtain ⟨y0, y1, y2, m, _, hl, h0, h1, h2⟩ := trod_struct3 Try.underlying38 h
  rw [cells38] at hl
  match cs, hl with
  | [c0, c1, c2], _ =>
    simp only [cells3, List.drop_zero, List.drop_succ_cons, List.take_succ_cons, List.take_zero] at h0 h1 h2
    obtain ⟨d, rfl, b0⟩ := one_int h0
    obtain ⟨a, rfl, b1⟩ := one_int h1
    obtain ⟨z, rfl, b2⟩ := one_int h2
    exact ⟨(d, a, z), rfl, b0, b1, b2⟩
/-- Bytes that came in. -/
theorem one_bytes_sized {n : Nat} {v : Value} {y : DataW H × List MemPlace} (h : DataW.trod enc Try.prog w base spare held n 39 [v] = some y) (hz : ∀ m ∈ y.1.weights Try.prog 39, m ≤ reachBytes) : ∃ (a : Option Addr) (len cap : Nat) (bs : List Int), v = .slice a len cap ∧ Bytes w a len bs ∧ (a = none → cap = 0) ∧ len ≤ cap ∧ len ≤ reachBytes := by
  rcases open_slice1 Try.underlying39 (by kernel_rfl) h with ⟨hcs, _⟩ | ⟨x, len, cap, m, n, V, D, Pl, hcs, _, hl, _, hm, hy, hx⟩
  · simp at hcs
    exact ⟨none, 0, 0, [], hcs, ⟨rfl, Or.inl rfl, fun z hz => by simp at hz⟩, fun _ => rfl, Nat.le_refl _, Nat.zero_le _⟩
  · simp at hcs
    subst hcs
    have hlm : len ≤ m := by rw [hm]; split <;> omega
    have hsz : len ≤ reachBytes := by
      have := hz ((((List.range len).map D).length + ((List.range (m - len)).map fun j => D (len + j)).length) * Try.prog.bytesOf 5) (by rw [hy]; simp [DataW.weights, Try.underlying39])
      rw [bytes5] at this
      simp at this
      omega
    have each : ∀ i, i < len → ∃ q : Int, w.cell? (x.add i) = some (.int .u8 q) ∧ 0 ≤ q ∧ q ≤ 255 := by
      intro i hi
      obtain ⟨h1, h2⟩ := hx i (by omega)
      obtain ⟨q, e, _, hw⟩ := DataW.trod_int Try.underlying5 h2
      simp at e
      rw [e] at h1
      exact ⟨q, h1, bd8 hw⟩
    refine ⟨some x, len, cap, (List.range len).map fun i => match w.cell? (x.add i) with | some (.int _ q) => q | _ => 0, rfl, ⟨by simp, ?_, ?_⟩, fun e => (by cases e), hl, hsz⟩
    · by_cases h0 : len = 0
      · left; subst h0; rfl
      · right
        obtain ⟨b, off, spot⟩ := x
        have hs : spot = none := by
          obtain ⟨_, z0, _⟩ := each 0 (by omega)
          simpa [Addr.add] using World.cell?_spot z0
        subst hs
        refine ⟨b, off, rfl, fun k hk => ?_⟩
        simp only [List.length_map, List.length_range] at hk
        obtain ⟨q, hq, _⟩ := each k hk
        rw [Addr.add_mid] at hq
        simp only [List.getElem_map, List.getElem_range, Addr.add_mid, hq]
    · intro z hz
      obtain ⟨i, hi, rfl⟩ := List.mem_map.1 hz
      obtain ⟨q, hq, hb⟩ := each i (List.mem_range.1 hi)
      rw [hq]
      exact hb
/-- Blocks that came in. -/
theorem open_puts {fuel : Nat} {v : Value} {y : DataW H × List MemPlace} (hf : DataW.trod enc Try.prog w base spare held fuel 33 [v] = some y) (hz : ∀ m ∈ y.1.weights Try.prog 33, m ≤ reachBytes) :
    ∃ a len cap, v = .slice a len cap ∧ len ≤ maxLen ∧ ∃ l : List Pt, l.length = len ∧ Puts w a l := by
  rcases open_slice Try.underlying33 hf with ⟨hcs, _⟩ | ⟨x, len, cap, m, n, D, Pl, hcs, _, hl, hcap, hm, hy, hx⟩
  · simp at hcs
    exact ⟨none, 0, 0, hcs, Nat.zero_le _, [], rfl, fun k hk => absurd hk (Nat.not_lt_zero _)⟩
  · simp at hcs
    refine ⟨some x, len, cap, hcs, by omega, ?_⟩
    have hlm : len ≤ m := by rw [hm]; split <;> omega
    obtain ⟨b, off, spot⟩ := x
    have hspot : 0 < len → spot = none := fun h0 => by
      obtain ⟨cs', h1, h2⟩ := hx 0 (by omega)
      obtain ⟨_, _, _, _, _, hl2, _⟩ := trod_struct3 Try.underlying41 h2
      rw [cells41] at hl2 h1
      obtain ⟨_, _, hcell⟩ := World.cells?_some h1
      have e0 := hcell 0 (by omega)
      rw [add_add, List.getElem?_eq_getElem (by omega)] at e0
      simpa [Addr.add] using World.cell?_spot e0
    have each : ∀ i, i < len → ∃ o : Pt, spot = none ∧ PutAt w b off i o := by
      intro i hi
      have hzi : ∀ m ∈ (D i).weights Try.prog 41, m ≤ reachBytes := fun q hq => hz q (by
        rw [hy]
        simp only [DataW.weights, Try.underlying33]
        exact List.mem_cons_of_mem _ (List.mem_append_left _ (weightsAll_mem (List.mem_map.2 ⟨i, List.mem_range.2 hi, rfl⟩) hq)))
      have hs := hspot (by omega)
      obtain ⟨cs', h1, h2⟩ := hx i (by omega)
      obtain ⟨y0, y1, y2, m2, hag, hl2, t0, t1, t2⟩ := trod_struct3 Try.underlying41 h2
      have hz3 : ∀ m ∈ y2.1.weights Try.prog 39, m ≤ reachBytes := fun q hq => hzi q (by
        simp only [Prod.mk.injEq] at hag
        rw [hag.1]
        simp only [DataW.weights, Try.underlying41]
        exact DataW.weights_mem_each (j := 2) (t := 39) rfl rfl q hq)
      rw [cells41] at hl2 h1
      match cs', hl2 with
      | [v0, v1, v2, v3, v4], _ =>
        simp only [cells3, cells38, cells39, List.drop_zero, List.drop_succ_cons, List.take_succ_cons, List.take_zero] at t0 t1 t2
        obtain ⟨f, ef, b1, b2, b3⟩ := one_file t0
        simp only [List.cons.injEq, and_true] at ef
        obtain ⟨rfl, rfl, rfl⟩ := ef
        obtain ⟨ii, rfl, b4⟩ := one_int t1
        obtain ⟨ab, nb, cb, bs, rfl, hB, hn, hc, hr⟩ := one_bytes_sized t2 hz3
        obtain ⟨_, _, hcell⟩ := World.cells?_some h1
        have e0 := hcell 0 (by simp)
        have e1 := hcell 1 (by simp)
        have e2 := hcell 2 (by simp)
        have e3 := hcell 3 (by simp)
        have e4 := hcell 4 (by simp)
        subst hs
        simp only [Addr.add_mid] at e0 e1 e2 e3 e4
        exact ⟨⟨f, ii, ab, nb, cb, bs⟩, rfl, ⟨by simpa using e0, by simpa using e1, by simpa using e2, by simpa using e3, by simpa using e4, hB, hn, hc, ⟨b4, b1, b2, b3⟩, hr⟩⟩
    obtain ⟨l, hll, hq⟩ := list_of (fun i o => spot = none ∧ PutAt w b off i o) len each
    refine ⟨l, hll, fun k hk => ?_⟩
    obtain ⟨hs, ho⟩ := hq k hk
    subst hs
    exact ⟨b, off, rfl, ho⟩
/-- Groups that came in. -/
theorem open_gps {fuel : Nat} {v : Value} {y : DataW H × List MemPlace} (hf : DataW.trod enc Try.prog w base spare held fuel 22 [v] = some y) (hz : ∀ m ∈ y.1.weights Try.prog 22, m ≤ reachBytes) :
    ∃ a len cap, v = .slice a len cap ∧ len ≤ maxLen ∧ ∃ l : List Gp, l.length = len ∧ Gps w a l := by
  rcases open_slice1 Try.underlying22 cells33 hf with ⟨hcs, _⟩ | ⟨x, len, cap, m, n, V, D, Pl, hcs, _, hl, hcap, hm, hy, hx⟩
  · simp at hcs
    exact ⟨none, 0, 0, hcs, Nat.zero_le _, [], rfl, fun k hk => absurd hk (Nat.not_lt_zero _)⟩
  · simp at hcs
    refine ⟨some x, len, cap, hcs, by omega, ?_⟩
    have hlm : len ≤ m := by rw [hm]; split <;> omega
    obtain ⟨b, off, spot⟩ := x
    have hspot : 0 < len → spot = none := fun h0 => by
      obtain ⟨e0, _⟩ := hx 0 (by omega)
      simpa [Addr.add] using World.cell?_spot e0
    have each : ∀ i, i < len → ∃ g : Gp, spot = none ∧ GpAt w b off i g := by
      intro i hi
      have hs := hspot (by omega)
      have hzi : ∀ m ∈ (D i).weights Try.prog 33, m ≤ reachBytes := fun q hq => hz q (by
        rw [hy]
        simp only [DataW.weights, Try.underlying22]
        exact List.mem_cons_of_mem _ (List.mem_append_left _ (weightsAll_mem (List.mem_map.2 ⟨i, List.mem_range.2 hi, rfl⟩) hq)))
      obtain ⟨h1, h2⟩ := hx i (by omega)
      obtain ⟨a, n, c, e, hle, l, hll, hp⟩ := open_puts h2 hzi
      rw [e] at h1
      subst hs
      rw [Addr.add_mid] at h1
      exact ⟨⟨a, n, c, l⟩, rfl, h1, hll, hle, hp⟩
    obtain ⟨l, hll, hq⟩ := list_of (fun i o => spot = none ∧ GpAt w b off i o) len each
    refine ⟨l, hll, fun k hk => ?_⟩
    obtain ⟨hs, ho⟩ := hq k hk
    subst hs
    exact ⟨b, off, rfl, ho⟩
end
theorem cell_on {w w' : World} {b j : Nat} {v : Value} (hb : Below w.heap.size w w') (hv : w.cell? ⟨b, j, none⟩ = some v) : w'.cell? ⟨b, j, none⟩ = some v := by
  rw [← hv]
  exact World.cell?_of_block (a := ⟨b, j, none⟩) (hb.block b (World.block_lt_of_cell? w _ hv))
theorem PutAt.on {w w' : World} {b off k : Nat} {o : Pt} (h : PutAt w b off k o) (hb : Below w.heap.size w w') : PutAt w' b off k o :=
  ⟨cell_on hb h.c0, cell_on hb h.c1, cell_on hb h.c2, cell_on hb h.c3, cell_on hb h.c4, h.by_.later hb, h.nil, h.cap, h.bd, h.sz⟩
theorem Puts.on {w w' : World} {a : Option Addr} {l : List Pt} (h : Puts w a l) (hb : Below w.heap.size w w') : Puts w' a l := fun k hk => by
  obtain ⟨b, off, e, ho⟩ := h k hk
  exact ⟨b, off, e, ho.on hb⟩
theorem GpAt.on {w w' : World} {b off k : Nat} {g : Gp} (h : GpAt w b off k g) (hb : Below w.heap.size w w') : GpAt w' b off k g :=
  ⟨cell_on hb h.c0, h.len, h.le, h.puts.on hb⟩
theorem Gps.on {w w' : World} {a : Option Addr} {l : List Gp} (h : Gps w a l) (hb : Below w.heap.size w w') : Gps w' a l := fun k hk => by
  obtain ⟨b, off, e, ho⟩ := h k hk
  exact ⟨b, off, e, ho.on hb⟩
end Go.Proofs.Ytjkeejbfipmidaa
