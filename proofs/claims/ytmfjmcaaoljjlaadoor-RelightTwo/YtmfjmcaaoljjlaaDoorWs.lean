/-
  A field of the program in a law; the Sets that came in.
-/
import Derived.Test.YtmfjmcaaoljjlaaDoorRv0
import Derived.Test.YtmfjmcaaoljjlaaDoorRtl
import Derived.Test.YtmfjmcaaoljjlaaDoorWf
set_option maxRecDepth 20000
namespace Go.Proofs.YtmfjmcaaoljjlaaDoor
open C Go.RowKit L

/-- A field in a law. w0: the world at the law's start. -/
structure Fj (J : JSpec) (w0 : World) (W D T : Nat) (bs : List Int) (p : Nat) (F : Nat → Prop) (w : World) : Prop where
  g : J.G w
  a : J.A W D T bs p F w
  b : Below w0.heap.size w0 w
  f : ∀ j, F j → w0.heap.size ≤ j
theorem Fj.step {J : JSpec} {w0 : World} {W D T : Nat} {bs bs' : List Int} {p : Nat} {F F' : Nat → Prop} {w w' : World} (h : Fj J w0 W D T bs p F w) (ha : J.A W D T bs' p F' w') (ho : OnlyF F w w') (hs : ∀ j, F' j → F j ∨ w.heap.size ≤ j) : Fj J w0 W D T bs' p F' w' := by
  have hz := h.b.size
  exact ⟨J.gof h.g h.a ho, ha, ⟨ho.os.trans h.b.os, ho.tape.trans h.b.tape, ho.output.trans h.b.output, Nat.le_trans hz ho.size, fun j hj => (ho.block j (Nat.lt_of_lt_of_le hj hz) (fun q => by have := h.f j q; omega)).trans (h.b.block j hj)⟩, fun j hj => (hs j hj).elim (h.f j) (fun q => Nat.le_trans hz q)⟩
theorem Fj.on {J : JSpec} {w0 : World} {W D T : Nat} {bs : List Int} {p : Nat} {F : Nat → Prop} {w w' : World} (h : Fj J w0 W D T bs p F w) (hb : Below w.heap.size w w') : Fj J w0 W D T bs p F w' :=
  ⟨J.gon h.g hb, J.keep h.a hb.size (fun j hj => hb.block j (J.lt h.a j hj)), h.b.trans (hb.mono h.b.size), h.f⟩
/-- A store into a block that is none of the field's. -/
theorem Fj.set {J : JSpec} {w0 : World} {W D T : Nat} {bs : List Int} {p : Nat} {F : Nat → Prop} {w : World} (h : Fj J w0 W D T bs p F w) {b k : Nat} {v : Value} (hF : ¬ F b) (hb : w0.heap.size ≤ b) (hG : J.G (w.setCell ⟨b, k, none⟩ v)) : Fj J w0 W D T bs p F (w.setCell ⟨b, k, none⟩ v) :=
  ⟨hG, J.keep h.a (by simp [World.setCell]) (fun j hj => Below.heap_setCell w ⟨b, k, none⟩ v j (fun q => hF (by have q : j = b := q; rw [← q]; exact hj))), h.b.setCell (p := ⟨b, k, none⟩) hb v, h.f⟩
theorem Src.below {a : Option Addr} {n : Nat} {bs : List Int} {w0 w : World} (h : Src w0 a n bs) (hb : Below w0.heap.size w0 w) : Src w a n bs := h.on hb (Nat.le_refl _)
theorem Ops.below {a : Option Addr} {n : Nat} {P : Nat → Nat → Int} {w0 w : World} (h : Ops w0 a n P) (hb : Below w0.heap.size w0 w) : Ops w a n P :=
  ⟨fun i hi => by
    obtain ⟨lb, lo, e, hlt, hc⟩ := h.at' i hi
    exact ⟨lb, lo, e, Nat.lt_of_lt_of_le hlt hb.size, fun f hf => (hb.cell (p := ⟨lb, lo + (i * 2 + f), none⟩) hlt).trans (hc f hf)⟩⟩
/-- What a region reads of a Set. -/
structure ReadsP (lb o : Nat) (x y : Int) (w : World) : Prop where
  x : w.cell? ⟨lb, o, none⟩ = some (.int .i64 x)
  y : w.cell? ⟨lb, o + 1, none⟩ = some (.int .i64 y)
theorem Ops.reads {a : Option Addr} {n : Nat} {P : Nat → Nat → Int} {w0 : World} (h : Ops w0 a n P) {i : Nat} (hi : i < n) : ∃ lb lo, a = some ⟨lb, lo, none⟩ ∧ lb < w0.heap.size ∧ ∀ w, Below w0.heap.size w0 w → ReadsP lb (lo + i * 2) (P i 0) (P i 1) w := by
  obtain ⟨lb, lo, e, hlt, hc⟩ := h.at' i hi
  refine ⟨lb, lo, e, hlt, fun w hb => ⟨?_, ?_⟩⟩
  · have := (hb.cell (p := ⟨lb, lo + (i * 2 + 0), none⟩) hlt).trans (hc 0 (by omega))
    exact this
  · have := (hb.cell (p := ⟨lb, lo + (i * 2 + 1), none⟩) hlt).trans (hc 1 (by omega))
    rw [← Nat.add_assoc] at this
    exact this
theorem newas_ok {W D T : Int} {n : Nat} {bs : List Int} {w : World} {R : Nat → World → Prop} {e : Ending} {w' : World} (h : NewAs W D T n bs w R e w') (h1 : OkDims W D T n) (h2 : Kinds bs) : ∃ g, e = .returned (.tuple #[.pointer (some ⟨g, 0, none⟩), .int .i64 0]) ∧ R g w' ∧ Below w.heap.size w w' := by
  rcases h with ⟨h, _⟩ | ⟨_, h, _⟩ | ⟨_, _, h⟩
  · exact absurd h1 h
  · exact absurd h2 h
  · exact h
theorem newas_no {W D T : Int} {n : Nat} {bs : List Int} {w : World} {R : Nat → World → Prop} {e : Ending} {w' : World} (h : NewAs W D T n bs w R e w') (h1 : ¬ (OkDims W D T n ∧ Kinds bs)) : ∃ c : Int, ((c = 1 ∧ ¬ OkDims W D T n) ∨ (c = 10 ∧ OkDims W D T n)) ∧ e = .returned (.tuple #[.pointer none, .int .i64 c]) ∧ Below w.heap.size w w' := by
  rcases h with ⟨h, e, hb⟩ | ⟨h, _, e, hb⟩ | ⟨h, k, _⟩
  · exact ⟨1, .inl ⟨rfl, h⟩, e, hb⟩
  · exact ⟨10, .inr ⟨rfl, h⟩, e, hb⟩
  · exact absurd ⟨h, k⟩ h1
theorem dims_bx {W D T n : Nat} (h : OkDims W D T n) : Bx W D T ∧ n = W * D * T := by
  obtain ⟨h1, h2⟩ := h
  refine ⟨⟨by omega, by omega, by omega, by omega, by omega, by omega⟩, ?_⟩
  norm_cast at h2
end Go.Proofs.YtmfjmcaaoljjlaaDoor
