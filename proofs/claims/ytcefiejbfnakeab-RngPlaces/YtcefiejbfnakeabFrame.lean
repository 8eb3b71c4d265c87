/-
  What the proofs of this seat's statements share: bounds of an int, what is known of a slice of integers that came in, and that it holds integers.
-/
import Derived.Test.YtcefiejbfnakeabRows
import Derived.Test.YtcefiejbfnakeabAwake
import Derived.WalkKit
import Derived.ProofKit
import Derived.OpenShut
import Derived.ChangeOld
import Derived.Below
import Derived.SizedLaws
namespace Go.Proofs.Ytcefiejbfnakeab
open Go.ChangeShapes Go.WideShapes Go.ChangeAt Go.RowKit

theorem own : ownKnob Try.prog.godebug = none := by kernel_rfl
theorem laidOut : laidOutB Try.prog = true := by kernel_rfl
theorem bytes3 : Try.prog.bytesOf 3 = 8 := by kernel_rfl
theorem ret_bool {a b : Bool} (h : a = b) : Ending.returned (.bool a) = .returned (.bool b) := by rw [h]
theorem bd64 {x : Int} (h : (Lit.int .i64 x).wf = true) : -9223372036854775808 ≤ x ∧ x ≤ 9223372036854775807 := by
  simp [Lit.wf, IntKind.min, IntKind.max, IntKind.bits, IntKind.signed] at h
  omega
theorem bdu64 {x : Int} (h : (Lit.int .u64 x).wf = true) : 0 ≤ x ∧ x ≤ 18446744073709551615 := by
  simp [Lit.wf, IntKind.min, IntKind.max, IntKind.bits, IntKind.signed] at h
  omega

/-- A slice of integers that came in: it is nil; or it leads to a row of cells, the numbers zs, of which the first ones are its elements, the others its spare room. -/
def IsRow (k : IntKind) (w : World) (a : Option Addr) (len cap : Nat) (zs : List Int) : Prop :=
  (a = none ∧ len = 0 ∧ cap = 0 ∧ zs = []) ∨
  ∃ x, a = some x ∧ len ≤ cap ∧ cap ≤ maxLen ∧ zs.length = cap ∧ (∀ i, i < zs.length → w.cell? (x.add i) = some (.int k (zs.getD i 0))) ∧ ∀ n ∈ zs, (Lit.int k n).wf = true

theorem IsRow.len {k : IntKind} {w : World} {a : Option Addr} {len cap : Nat} {zs : List Int} (h : IsRow k w a len cap zs) : len ≤ cap ∧ zs.length = cap := by
  rcases h with ⟨_, rfl, rfl, rfl⟩ | ⟨x, _, h, _, hz, _⟩
  · exact ⟨Nat.le_refl _, rfl⟩
  · exact ⟨h, hz⟩
/-- Where it has an element its cells lie one behind the other in one block. -/
theorem IsRow.cells {k : IntKind} {w : World} {a : Option Addr} {len cap : Nat} {zs : List Int} (h : IsRow k w a len cap zs) :
    zs = [] ∨ ∃ b off, a = some ⟨b, off, none⟩ ∧ b < w.heap.size ∧ ∀ i (hi : i < zs.length), w.cell? ⟨b, off + i, none⟩ = some (.int k zs[i]) := by
  rcases h with ⟨_, _, _, rfl⟩ | ⟨x, rfl, _, _, hz, hc, _⟩
  · exact .inl rfl
  · by_cases h0 : zs.length = 0
    · exact .inl (List.eq_nil_of_length_eq_zero h0)
    · obtain ⟨b, off, spot⟩ := x
      have h1 := hc 0 (by omega)
      have hs : spot = none := by simpa [Addr.add] using World.cell?_spot h1
      subst hs
      refine .inr ⟨b, off, rfl, ?_, fun i hi => ?_⟩
      · have := World.block_lt_of_cell? w _ h1
        simpa [Addr.add] using this
      · have := hc i hi
        rw [Addr.add_lit] at this
        rw [this]
        simp [List.getD, hi]
/-- A slice of so many integers at that address holds the numbers ls. -/
structure Ints (w : World) (a : Option Addr) (len : Nat) (ls : List Int) : Prop where
  n : ls.length = len
  cells : ls = [] ∨ ∃ b off, a = some ⟨b, off, none⟩ ∧ ∀ k (h : k < ls.length), w.cell? ⟨b, off + k, none⟩ = some (.int .i64 ls[k])
  fit : ∀ z ∈ ls, -9223372036854775808 ≤ z ∧ z ≤ 9223372036854775807
theorem Ints.get {w w' : World} {a : Option Addr} {len : Nat} {ls : List Int} (h : Ints w a len ls) (hb : Below w.heap.size w w') (k : Nat) (hk : k < len) :
    ∃ b off z, a = some ⟨b, off, none⟩ ∧ w'.cell? ⟨b, off + k, none⟩ = some (.int .i64 z) ∧ (-9223372036854775808 ≤ z ∧ z ≤ 9223372036854775807) ∧ ∃ h : k < ls.length, z = ls[k] := by
  have hn := h.n
  rcases h.cells with e | ⟨b, off, ha, hc⟩
  · subst e; simp at hn; omega
  · have hc1 := hc k (by omega)
    exact ⟨b, off, ls[k], ha, (hb.cell (p := ⟨b, off + k, none⟩) (World.block_lt_of_cell? w _ hc1)).trans hc1, h.fit _ (List.getElem_mem _), by omega, rfl⟩
theorem IsRow.ints {w : World} {a : Option Addr} {len cap : Nat} {zs : List Int} (h : IsRow .i64 w a len cap zs) : Ints w a len (zs.take len) := by
  have hl := h.len
  refine ⟨by simp; omega, ?_, fun z hz => ?_⟩
  · rcases h.cells with rfl | ⟨b, off, ha, _, hc⟩
    · left; simp
    · right
      refine ⟨b, off, ha, fun i hi => ?_⟩
      rw [hc i (by simp at hi; omega)]
      simp
  · rcases h with ⟨_, _, _, rfl⟩ | ⟨x, _, _, _, _, _, hw⟩
    · simp at hz
    · exact bd64 (hw z (List.mem_of_mem_take hz))
theorem IsRow.nil {k : IntKind} {w : World} {a : Option Addr} {len cap : Nat} {zs : List Int} (h : IsRow k w a len cap zs) : a = none → cap = 0 := by
  intro ha
  rcases h with ⟨_, _, e, _⟩ | ⟨x, e, _⟩
  · exact e
  · rw [ha] at e; cases e
end Go.Proofs.Ytcefiejbfnakeab
