/-
  What comes in: numbers, lists of numbers, a chunk's place.
-/
import Derived.Test.YtjlefocdkbjgaaaDoorRows
import Derived.Test.YtjlefocdkbjgaaaDoorCards
import Derived.Test.YtjlefocdkbjgaaaDoorTie
import Derived.LaidMore
import Derived.LaidLaws
import Derived.Test.YtjlefocdkbjgaaaDoorTfills
import Derived.Test.YtjlefocdkbjgaaaDoorTlies
import Derived.SizedLaws
import Derived.ProofKit
import Derived.OpenShut
import Derived.ChangeOld
import Derived.Lib.SmallJoins
import Derived.Deep.Slices
import Derived.Deep.Strs
set_option maxRecDepth 20000
namespace Go.Proofs.YtjlefocdkbjgaaaDoor
open C Go.ChangeShapes Go.WideShapes Go.ChangeAt Go.RowKit Go.Joins Go.Deep

theorem own : ownKnob Tryd.prog.godebug = none := by kernel_rfl
theorem laidOut : laidOutB Tryd.prog = true := by kernel_rfl
theorem cells38 : Tryd.prog.cellsOf 38 = 2 := by kernel_rfl
theorem cells3 : Tryd.prog.cellsOf 3 = 1 := by kernel_rfl
theorem bdu64 {x : Int} (h : (Lit.int .u64 x).wf = true) : 0 ≤ x ∧ x ≤ 18446744073709551615 := by
  simp [Lit.wf, IntKind.min, IntKind.max, IntKind.bits, IntKind.signed] at h
  omega
theorem bd64 {x : Int} (h : (Lit.int .i64 x).wf = true) : I64 x := by
  simp [Lit.wf, IntKind.min, IntKind.max, IntKind.bits, IntKind.signed] at h
  unfold I64
  omega
theorem strataLies_any (J : TSpec) (s cx cz : Int) (w : World) (hs : 0 ≤ s ∧ s ≤ 18446744073709551615) (hG : J.G w) :
    Calls Tryd.prog 5 #[.int .u64 s, .agg #[.int .i64 cx, .int .i64 cz]] w fun e w' => e = .returned (.bool true) ∧ Below w.heap.size w w' := by
  obtain ⟨S, rfl⟩ := Int.eq_ofNat_of_zero_le hs.1
  exact strataLies_walk J S cx cz w (by omega) hG
section
variable {H : Type} {enc : TypeId × Value → H} {w : World} {base : Nat} {spare : Nat → Bool} {held : Bool}
theorem one_int {n : Nat} {v : Value} {y : DataW H × List MemPlace} (h : DataW.trod enc Tryd.prog w base spare held n 3 [v] = some y) : ∃ x, v = .int .i64 x ∧ I64 x := by
  obtain ⟨a, e, _, hw⟩ := DataW.trod_int Tryd.underlying3 h
  simp at e
  exact ⟨a, e, bd64 hw⟩
/-- A chunk's place that came in. -/
theorem in_at {r : Reach} {b0 : Nat} {v : Value} {d : DataW H} {p : List MemPlace} (hv : Value.okWide Tryd.prog w r b0 38 v) (h : DataW.Trod enc Tryd.prog w base spare held 38 v d p) : ∃ x z : Int, v = .agg #[.int .i64 x, .int .i64 z] ∧ I64 x ∧ I64 z := by
  obtain ⟨cs, rfl, hsz⟩ := okWide_struct Tryd.underlying38 hv
  rw [cells38] at hsz
  obtain ⟨fuel, hf⟩ := h
  obtain ⟨y0, y1, k, hag, hl, t0, t1⟩ := trod_struct2 Tryd.underlying38 hf
  obtain ⟨l⟩ := cs
  simp only [Value.cells] at hl t0 t1
  rw [cells38] at hl
  match l, hl with
  | [v0, v1], _ =>
    simp only [cells3, List.drop_zero, List.drop_succ_cons, List.take_succ_cons, List.take_zero] at t0 t1
    obtain ⟨x, rfl, hx⟩ := one_int t0
    obtain ⟨z, rfl, hz⟩ := one_int t1
    exact ⟨x, z, rfl, hx, hz⟩
/-- A list of numbers that came in. -/
def intAt (w : World) (b o k : Nat) : Int := match w.cell? ⟨b, o + k, none⟩ with
  | some (.int _ x) => x
  | _ => 0
theorem in_ints {a : Option Addr} {len cap : Nat} {d : DataW H} {p : List MemPlace} (h : DataW.Trod enc Tryd.prog w base spare held 25 (.slice a len cap) d p) : ∃ xs : List Int, len ≤ 9223372036854775807 ∧ IntsAt w a len xs ∧ ∀ x ∈ xs, I64 x := by
  obtain ⟨fuel, hf⟩ := h
  rcases open_slice1 Tryd.underlying25 (by kernel_rfl) hf with ⟨hcs, _⟩ | ⟨x, len', cap', m, n, V, D, Pl, hcs, _, hl, hcap, hm, hy, hx⟩
  · simp [Value.cells] at hcs
    obtain ⟨rfl, rfl, rfl⟩ := hcs
    exact ⟨[], Nat.zero_le _, ⟨rfl, fun k hk => absurd hk (Nat.not_lt_zero _)⟩, fun x hx => (by cases hx)⟩
  · simp [Value.cells] at hcs
    obtain ⟨rfl, rfl, rfl⟩ := hcs
    have hlm : len ≤ m := by rw [hm]; split <;> omega
    have hmax : len ≤ 9223372036854775807 := by unfold maxLen at hcap; omega
    by_cases h0 : len = 0
    · subst h0
      exact ⟨[], Nat.zero_le _, ⟨rfl, fun k hk => absurd hk (Nat.not_lt_zero _)⟩, fun x hx => (by cases hx)⟩
    obtain ⟨b, off, spot⟩ := x
    have hs : spot = none := by
      obtain ⟨z0, _⟩ := hx 0 (by omega)
      simpa [Addr.add] using World.cell?_spot z0
    subst hs
    have hc : ∀ k, k < len → w.cell? ⟨b, off + k, none⟩ = some (.int .i64 (intAt w b off k)) ∧ I64 (intAt w b off k) := fun k hk => by
      obtain ⟨h1, h2⟩ := hx k (by omega)
      obtain ⟨q, e, hq⟩ := one_int h2
      rw [e] at h1
      rw [Addr.add_mid] at h1
      have e2 : intAt w b off k = q := by unfold intAt; rw [h1]
      rw [e2]
      exact ⟨h1, hq⟩
    refine ⟨(List.range len).map (intAt w b off), hmax, ⟨by simp, fun k hk => ⟨b, off, rfl, ?_⟩⟩, fun x hx => ?_⟩
    · rw [range_getD _ len k hk]
      exact (hc k hk).1
    · obtain ⟨k, hk, rfl⟩ := List.mem_map.1 hx
      exact (hc k (List.mem_range.1 hk)).2
end
/-- The door's own heap meets the list. -/
theorem door_met (os : Os) (args : Array Value) : laidMetH Tryd.prog [("outcrop/strata.soils", Rows.laid_outcrop_strata_soils)] ((World.doorLaid Tryd.prog 18 os).forCall (fun _ _ => 0) ⟨#[], args, []⟩).memory :=
  laidMetH_of_parts3 (fuel := 8) (laidMet_of_run' 8 (by kernel_rfl) (by kernel_rfl)) (by kernel_rfl) (by kernel_rfl)
end Go.Proofs.YtjlefocdkbjgaaaDoor
