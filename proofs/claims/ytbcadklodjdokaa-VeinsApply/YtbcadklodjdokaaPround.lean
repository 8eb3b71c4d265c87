/-
  A region that draws its order within a round of a loop over a function; what a round leaves alone.
-/
import Derived.Test.YtbcadklodjdokaaPorg
import Derived.Test.YtbcadklodjdokaaPlaw
import Derived.OrdersIn
set_option maxRecDepth 20000
namespace Go.Proofs.Ytbcadklodjdokaa
open C G Go.RowKit Go.Shelf

/-! ### a region that draws its order within a round -/
def plainOpsA (l : Array Oper) : Bool := l.all fun o => match o.op with | .defer _ => false | _ => true
theorem plainOpsA_spec {l : Array Oper} (h : plainOpsA l = true) {i : Nat} {o : Oper} (ho : l[i]? = some o) (c : Call) : o.op ≠ .defer c := by
  intro e
  have := Array.all_eq_true'.1 h o (Array.mem_of_getElem? ho)
  rw [e] at this
  cases this
section
variable {P : Program} {ops : Array Oper} {md : Region.Mode} {l n : Nat} {Q : Exit → Act → World → Prop}
theorem wpOpIn_of_wpOp {i : Nat} {a : Act} {K K' : Act → World → Prop} {w : World} (hnd : ∀ (i : Nat) (o : Oper), ops[i]? = some o → ∀ c, o.op ≠ .defer c) (hlo : ¬ LetsOut Q) (h : ∀ a w', K a w' → K' a w')
    (hh : wpOp P ops Q i K a w) : wpOpIn (Fence.wide.inRound l) n P ops Q i K' a w := by
  unfold wpOp at hh
  unfold wpOpIn
  split
  · rename_i ho
    simp only [ho] at hh
    exact h _ _ hh
  · rename_i o ho
    simp only [ho] at hh
    split
    · rename_i hw
      simp only [hw, if_true] at hh
      have h3 := hh.resolve_right (fun h => hlo h.2)
      unfold Oper.wp at h3
      refine ⟨fun _ _ => trivial, ?_⟩
      rw [Oper.semAt_eq _ _ _ (hnd i o ho)]
      generalize (execOp a.eval o).run P w = r at *
      cases r with
      | ok x w' =>
        cases x <;> simp only [Oper.upon] at h3 <;> simp only [Oper.uponIn]
        case value u => exact h _ _ h3
        case skip => exact h _ _ h3
        case defer d => exact h _ _ h3
        case enter f args =>
          refine ⟨fun hd => (by cases hd), (CallsIn.inRound l (callsIn_wide.2 h3)).mono fun e w'' he => ?_⟩
          cases e with
          | returned v => exact h _ _ he
          | panicked c => exact he
          | outgrown => exact he
        case row rw' args => exact ⟨fun hd => (by cases hd), fun c cs _ => let ⟨v, w2, r, s⟩ := h3 c cs; ⟨v, w2, h _ _ r, stepsIn_wide.2 s⟩⟩
      | halt x w' => cases x <;> simp only [Oper.upon] at h3 <;> simp only [Oper.uponIn] <;> exact h3
    · rename_i hw
      simp only [hw] at hh
      exact ⟨fun _ _ => trivial, h _ _ hh⟩
theorem wpAnyIn_of_wpAny (hnd : ∀ (i : Nat) (o : Oper), ops[i]? = some o → ∀ c, o.op ≠ .defer c) (hlo : ¬ LetsOut Q) : ∀ (fuel : Nat) (listed : Array Bool) (a : Act) (w : World),
    wpAny P md ops Q fuel listed a w → wpAnyIn (Fence.wide.inRound l) n P md ops Q fuel listed a w
  | 0, _, _, _, h => h
  | fuel + 1, _, _, _, h => ⟨h.1, fun i hi => wpOpIn_of_wpOp hnd hlo (fun a' w' h' => wpAnyIn_of_wpAny hnd hlo fuel _ a' w' h') (h.2 i hi)⟩
theorem region_round_L (S : World → Prop) (m : Nat) {id : Nat} {a : Act} {w : World} (hm : P.follows .mixedOrders = true) (hp : plainOpsA ops = true) (hlo : ¬ LetsOut Q)
    (h : wpAnyL P .any ops Q S m ops.size (Array.replicate ops.size false) a w.drew) : (Code.region id ops true).wpIn (Fence.wide.inRound l) n P Q a w :=
  wpIn_region_any hm (wpAnyIn_of_wpAny (fun _ _ ho c => plainOpsA_spec hp ho c) hlo _ _ _ _ (wpAny_of_heldL _ _ _ _ h))
end


/-! ### what a round leaves alone -/
theorem cells_kept {X Y : World} {row : Option Nat} {B k : Nat} {cs : Array Value} {t : TypeId} {fr : Nat × Nat} (hg : X.grownBy Y row) (hr : ∀ r, row = some r → B ≤ r ∧ ∃ o : Obj, X.heap[r]? = some o ∧ o.isCells = false) (h : X.heap[k]? = some (.cells cs t fr)) : Y.heap[k]? = some (.cells cs t fr) := by
  refine (hg.block k (Array.getElem?_eq_some_iff.1 h).1 (fun e => ?_)).trans h
  obtain ⟨_, o, ho, hc⟩ := hr k e.symm
  rw [h] at ho
  cases ho
  cases hc
theorem grown_trans {A B D : World} {b : Nat} (h : A.grownBy B (some b)) (k : B.grownBy D (some b)) : A.grownBy D (some b) :=
  ⟨k.os.trans h.os, k.tape.trans h.tape, k.output.trans h.output, Nat.le_trans h.size k.size, fun j hj hne => (k.block j (Nat.lt_of_lt_of_le hj h.size) hne).trans (h.block j hj hne)⟩
theorem grown_of_below {A B : World} {b : Nat} (h : Below A.heap.size A B) : A.grownBy B (some b) := ⟨h.os, h.tape, h.output, h.size, fun j hj _ => h.block j hj⟩
theorem grown_refl (A : World) (b : Nat) : A.grownBy A (some b) := ⟨rfl, rfl, rfl, Nat.le_refl _, fun _ _ _ => rfl⟩
theorem grown_blk {A B : World} {b g : Nat} {t : TypeId} {cs : List Int} (h : A.grownBy B (some b)) (k : Blk A g t cs) (hne : g ≠ b) : Blk B g t cs := (h.block g k.lt (fun e => hne (by cases e; rfl))).trans k
theorem grown_cells {A B : World} {b g : Nat} {t : TypeId} {cs : Array Value} {fr : Nat × Nat} (h : A.grownBy B (some b)) (k : A.heap[g]? = some (.cells cs t fr)) (hne : g ≠ b) : B.heap[g]? = some (.cells cs t fr) := (h.block g (Array.getElem?_eq_some_iff.1 k).1 (fun e => hne (by cases e; rfl))).trans k
/-- What a loop holds: the block b has these cells, and all else of the world ahead of it is as it lay. -/
def Grows (W0 : World) (b : Nat) (t : TypeId) (cs : List Int) (W : World) : Prop := Blk W b t cs ∧ W0.grownBy W (some b)
theorem grows_own {β : Type} (W0 : World) (b : Nat) (t : TypeId) (f : β → List Int) (_hb : b < W0.heap.size) : OwnFrom W0.heap.size (fun s W => Grows W0 b t (f s) W) := fun s W W' row h hg hr =>
  ⟨cells_kept hg hr h.1, ⟨hg.os.trans h.2.os, hg.tape.trans h.2.tape, hg.output.trans h.2.output, Nat.le_trans h.2.size hg.size, fun j hj hne => (hg.block j (Nat.lt_of_lt_of_le hj h.2.size) (fun e => by
    have := (hr j e.symm).1
    omega)).trans (h.2.block j hj hne)⟩⟩
theorem round_end {W0 W W' : World} {b Bb n₁ : Nat} {t : TypeId} {cs cs' : List Int} (h : Grows W0 b t cs W) (hg : W.grownBy W' (some b)) (hB : Blk W' b t cs') (h1 : t ≠ 86) (h2 : t ≠ 24) :
    KeepsFrom W0.heap.size W W' ∧ Kp Bb n₁ W W' ∧ Grows W0 b t cs' W' := by
  refine ⟨⟨hg.size, fun k o ho hc _ => ?_⟩, Kp.row hg (fun g e => ?_), hB, grown_trans h.2 hg⟩
  · refine (hg.block k (Array.getElem?_eq_some_iff.1 hc).1 (fun e => ?_)).trans hc
    obtain rfl : k = b := by cases e; rfl
    rw [h.1] at hc
    cases hc
    rename_i hn
    cases hn
  · obtain rfl : b = g := by cases e; rfl
    rw [h.1]
    exact ⟨fun cs fr e => h1 (by cases e; rfl), fun cs fr e => h2 (by cases e; rfl)⟩
end Go.Proofs.Ytbcadklodjdokaa
