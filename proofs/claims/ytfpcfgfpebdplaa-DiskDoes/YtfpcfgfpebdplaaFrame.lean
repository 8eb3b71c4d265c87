/-
  What the laws share besides: a file that comes in, calls that come in with their sizes, files held against each other.
-/
import Derived.Test.YtfpcfgfpebdplaaDuo
import Derived.SizedLaws
namespace Go.Proofs.Ytfpcfgfpebdplaa
open Go.ChangeShapes Go.WideShapes Go.ChangeAt Go.RowKit Go.Joins Go.Deep Go.Maps

section
variable {H : Type} {enc : TypeId × Value → H} {w : World} {base : Nat} {spare : Nat → Bool} {held : Bool}
theorem open_file {r : Reach} {b0 : Nat} {v : Value} {d : DataW H} {p : List MemPlace} (hv : Value.okWide Try.prog w r b0 30 v) (h : DataW.Trod enc Try.prog w base spare held 30 v d p) : ∃ f : Fl, v = valF f ∧ I64F f := by
  obtain ⟨cs, rfl, hsz⟩ := okWide_struct Try.underlying30 hv
  rw [cells30] at hsz
  obtain ⟨fuel, hf⟩ := h
  obtain ⟨f, e, h1, h2, h3⟩ := one_file hf
  obtain ⟨l⟩ := cs
  have e' : l = [.int .i64 f.1, .int .i64 f.2.1, .int .i64 f.2.2] := e
  subst e'
  exact ⟨f, rfl, h1, h2, h3⟩
end

theorem eql30 (f g : Fl) (w : World) : (binOp .eql 30 (valF f) (valF g)).run Try.prog w = .ok (.bool (decide (f = g))) w := by
  obtain ⟨a, b, c⟩ := f
  obtain ⟨x, y, z⟩ := g
  by_cases h1 : a = x
  · by_cases h2 : b = y
    · by_cases h3 : c = z
      · subst h1 h2 h3
        go_simp
      · subst h1 h2
        go_simp
    · subst h1
      go_simp
  · go_simp
theorem guard30 : Try.prog.eqGuardType Try.prog.depth 30 = false := by kernel_rfl
theorem exec_eql30 {o : Oper} {ρ : Operand → Value} {x y : Operand} (f g : Fl) (w : World) (ho : o.op = .binOp .eql 30 x y 30) (h1 : ρ x = valF f) (h2 : ρ y = valF g) :
    (execOp ρ o).run Try.prog w = .ok (.value (.bool (decide (f = g)))) w := by
  unfold execOp
  simp only [ho, h1, h2, Sem.run_bind, run_eqGuard_agg w .eql 30 x y _ _ guard30, eql30 f g w, Result.andThen_ok, Sem.run_pure]
theorem Hold.i64 {B : Nat} {K : Nat → Prop} {w : World} {g : Nat} {S : St} (h : Hold B K w g S) : ∀ f ∈ filesOf (at_ S.l), I64F f := fun f hf => by
  obtain ⟨F, ⟨mb, ml, hD⟩, _⟩ := h
  obtain ⟨i, hi⟩ := (mem_files _ _).1 hf
  obtain ⟨b, hb, e⟩ := List.mem_map.1 hi
  have := hD.fil b hb
  cases e
  exact this
/-- A box and all below B, kept. -/
theorem At3.kept {B X : Nat} {K : Nat → Prop} {f1 f2 f3 : Int} {w w' : World} (h : At3 X f1 f2 f3 w) (hk : Kept B K w w') (hX : X < B ∨ K X) : At3 X f1 f2 f3 w' := by
  have k : ∀ m v, w.cell? ⟨X, m, none⟩ = some v → w'.cell? ⟨X, m, none⟩ = some v := fun m v hv => by
    rw [← hv]
    exact World.cell?_of_block (a := ⟨X, m, none⟩) (hk.block X (World.block_lt_of_cell? w _ hv) hX)
  exact ⟨k _ _ h.1, k _ _ h.2.1, k _ _ h.2.2⟩
theorem At3.inside {X : Nat} {f1 f2 f3 : Int} {w w' : World} (h : At3 X f1 f2 f3 w) (hb : Below w.heap.size w w') : At3 X f1 f2 f3 w' := at3_below h hb
/-- The box of a file that came in, and all else as it was. -/
theorem box_in (W : World) (f1 f2 f3 : Int) : Below W.heap.size W (W.alloc (.cells #[.int .i64 f1, .int .i64 f2, .int .i64 f3] 30)) ∧ At3 W.heap.size f1 f2 f3 (W.alloc (.cells #[.int .i64 f1, .int .i64 f2, .int .i64 f3] 30)) ∧ W.heap.size < (W.alloc (.cells #[.int .i64 f1, .int .i64 f2, .int .i64 f3] 30)).heap.size := by
  obtain ⟨h, c0, c1, c2⟩ := box_new W f1 f2 f3
  exact ⟨h, ⟨c0, c1, c2⟩, by rw [World.size_alloc]; omega⟩
end Go.Proofs.Ytfpcfgfpebdplaa
