/-
  A region that draws its order and whose calls lay new blocks: the class of worlds may be made narrower behind a call.
-/
import Derived.Test.YtdmogocnagbobaaMores
import Derived.Deep.RegionHeld
namespace Go.Proofs.Ytdmogocnagbobaa
open Go.RowKit

theorem wpAnyH_strong {P : Program} {md : Region.Mode} {ops : Array Oper} {Q : Exit → Act → World → Prop} {S S' : World → Prop} (h : ∀ w, S' w → S w) :
    ∀ {fuel : Nat} {listed : Array Bool} {a : Act} {w : World}, wpAnyH P md ops Q S' fuel listed a w → wpAnyH P md ops Q S fuel listed a w
  | 0, _, _, _, hw => hw
  | _ + 1, _, _, _, hw => ⟨hw.1, fun i hi => wpOp_mono (fun _ w' h' => ⟨h w' h'.1, wpAnyH_strong h h'.2⟩) (hw.2 i hi)⟩
/-- A world of a class. -/
structure Sub (S : World → Prop) where
  w : World
  ok : S w
/-- What only reads is taken first: one value in each world of the class. -/
theorem take_step {P : Program} {md : Region.Mode} {ops : Array Oper} {Q : Exit → Act → World → Prop} {S : World → Prop} {i : Nat} {oi : Oper} {fuel : Nat} {listed : Array Bool} {a : Act} {w : World} (hi : ops[i]? = some oi)
    (hs : Region.noSelect ops = true) (hf : Region.free md ops listed i = true) (hr : (Region.ready md ops listed).contains i = true)
    (hQ : ∀ v c a w, Q (.panic c) (a.put oi.dst v) w → Q (.panic c) a w) (hS : S w)
    (h : ∀ K : Act → Prop, (∀ a, wpAnyH P md ops Q S fuel (listed.setIfInBounds i true) a w → K a) → if Region.wanted oi (yielded ops a.tmps) = true then ∃ v, (∀ s : Sub S, (execOp a.eval oi).run P s.w = .ok (.value v) s.w) ∧ K (a.put oi.dst v) else K (a.put oi.dst undef)) :
    wpAnyH P md ops Q S (fuel + 1) listed a w := by
  have h' := h _ (fun _ h => h)
  by_cases hw : Region.wanted oi (yielded ops a.tmps) = true
  · rw [if_pos hw] at h'
    obtain ⟨v, hv, hk⟩ := h'
    exact wpAnyH_take hi hs hf hr (hQ v) (Or.inl ⟨hw, fun w hS => hv ⟨w, hS⟩⟩) hS hk
  · rw [if_neg hw] at h'
    exact wpAnyH_take hi hs hf hr (hQ undef) (Or.inr ⟨by simpa using hw, rfl⟩) hS h'
theorem exec_conv {o : Oper} {ρ : Operand → Value} {s t : TypeId} {x : Operand} {p v : Value} {w : World} (ho : o.op = .convert s t x) (hx : ρ x = p) (h : (convert s t p).run Try.prog w = .ok v w) :
    (execOp ρ o).run Try.prog w = .ok (.value v) w := by
  unfold execOp
  simp only [ho, hx, Sem.run_bind, h, Result.andThen_ok, Sem.run_pure]
theorem below_drewN {B : Nat} {a w : World} (h : Below B a w) (n : Nat) : Below B a (w.drewN n) := ⟨h.os, h.tape, h.output, h.size, h.block⟩
end Go.Proofs.Ytdmogocnagbobaa
