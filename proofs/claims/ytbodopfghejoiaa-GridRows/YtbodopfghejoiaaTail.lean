/-
  A region that draws its order, whose operations but the last one are quiet in a class of worlds, and whose last one waits for all others: one walk of those in the order of the text, and then the last one, from whatever world of the class.
-/
import Derived.Test.YtbodopfghejoiaaBase
import Derived.Deep.Quiet
namespace Go.Proofs.Ytbodopfghejoiaa
open Go.RowKit

section
variable {P : Program} {C : World → Prop} {md : Region.Mode} {Q : Act → Prop}

/-- In the last one's place: nothing is done. -/
def idle (o : Oper) : Oper := { o with dst := none, op := .move (.const undef), guard := none }
theorem quiet_idle {o : Oper} {a : Act} {K : Act → Prop} (h : K a) : (idle o).quiet P a C K := ⟨undef, fun _ _ => ⟨rfl, rfl⟩, h⟩
theorem of_quiet_idle {o : Oper} {a : Act} {K : Act → Prop} (h : (idle o).quiet P a C K) : K a := by
  obtain ⟨_, _, h⟩ := h
  exact h
theorem wpQuiet_same {ops ops' : Array Oper} (hy : yielded ops' = yielded ops) : ∀ (l : List Oper) (a : Act), wpQuiet P ops C Q l a → wpQuiet P ops' C Q l a
  | [], _, h => h
  | o :: l, a, h => by
    unfold wpQuiet at *
    rw [hy]
    split
    · rename_i hw
      rw [if_pos hw] at h
      exact Oper.quiet_mono (fun a' => wpQuiet_same hy l a') h
    · rename_i hw
      rw [if_neg hw] at h
      exact wpQuiet_same hy l _ h
theorem wpQuiet_idle {ops : Array Oper} {o : Oper} : ∀ (l : List Oper) (a : Act), wpQuiet P ops C Q l a → wpQuiet P ops C Q (l ++ [idle o]) a
  | [], a, h => by
    show (if Region.wanted (idle o) (yielded ops a.tmps) then (idle o).quiet P a C _ else _)
    rw [if_pos (show Region.wanted (idle o) (yielded ops a.tmps) = true from rfl)]
    exact quiet_idle h
  | x :: l, a, h => by
    unfold wpQuiet at h
    show (if Region.wanted x (yielded ops a.tmps) then x.quiet P a C (wpQuiet P ops C Q (l ++ [idle o])) else wpQuiet P ops C Q (l ++ [idle o]) (a.put x.dst undef))
    split
    · rename_i hw
      rw [if_pos hw] at h
      exact Oper.quiet_mono (fun a' => wpQuiet_idle l a') h
    · rename_i hw
      rw [if_neg hw] at h
      exact wpQuiet_idle l _ h

/-- Each operation waits for earlier ones alone: then one may come up as long as one has not. -/
theorem some_ready {ops : Array Oper} {listed : Array Bool} (hord : ∀ (j : Nat) (oj : Oper), ops[j]? = some oj → ∀ e ∈ oj.after, e.on < j) (hs : listed.size = ops.size) :
    ∀ (i : Nat), i < ops.size → listed.getD i true = false → Region.ready md ops listed ≠ [] := by
  intro i
  induction i using Nat.strongRecOn with
  | _ i ih =>
    intro hi hun
    have hoi : ops[i]? = some ops[i] := Array.getElem?_eq_getElem hi
    by_cases hall : ∀ e ∈ ops[i].after, Region.binds md e = true → listed.getD e.on false = true
    · intro h0
      have hm : i ∈ Region.ready md ops listed := mem_ready.2 ⟨hun, _, hoi, hall⟩
      rw [h0] at hm
      cases hm
    · obtain ⟨e, he⟩ := Classical.not_forall.1 hall
      obtain ⟨he, hb⟩ := Classical.not_imp.1 he
      obtain ⟨_, hl⟩ := Classical.not_imp.1 hb
      have hlt := hord i _ hoi e he
      refine ih e.on hlt (by omega) ?_
      have hsz : e.on < listed.size := by omega
      simp [hsz] at hl ⊢
      exact hl

variable {h : List Oper} {o : Oper}
theorem same_at {i : Nat} (hi : i ≠ h.length) : (h ++ [idle o]).toArray[i]? = (h ++ [o]).toArray[i]? := by
  simp only [List.getElem?_toArray]
  rcases Nat.lt_or_ge i h.length with hl | hl
  · rw [List.getElem?_append_left hl, List.getElem?_append_left hl]
  · rw [List.getElem?_append_right hl, List.getElem?_append_right hl, List.getElem?_eq_none (by simp; omega), List.getElem?_eq_none (by simp; omega)]
theorem at_last (x : Oper) : (h ++ [x]).toArray[h.length]? = some x := by simp
theorem ready_same (listed : Array Bool) : Region.ready md (h ++ [idle o]).toArray listed = Region.ready md (h ++ [o]).toArray listed := by
  unfold Region.ready
  rw [show (h ++ [idle o]).toArray.size = (h ++ [o]).toArray.size by simp]
  refine List.filter_congr fun i _ => ?_
  by_cases hi : i = h.length
  · subst hi
    rw [at_last, at_last]
    rfl
  · rw [same_at hi]
theorem yielded_same (hd : o.dst = none) : yielded (h ++ [idle o]).toArray = yielded (h ++ [o]).toArray := by
  funext tmps i
  unfold yielded
  by_cases hi : i = h.length
  · subst hi
    rw [at_last, at_last]
    simp only [Option.bind_some, hd]
    rfl
  · rw [same_at hi]

/-- All that the last one waits for. -/
def lastB (md : Region.Mode) (n : Nat) (o : Oper) : Bool := (List.range n).all fun i => o.after.any fun e => Region.binds md e && e.on == i
def orderB (l : List Oper) : Bool := (List.range l.length).all fun j => ((l[j]?).map fun o => o.after.all fun e => decide (e.on < j)).getD true
theorem orderB_spec {l : List Oper} (hB : orderB l = true) (j : Nat) (oj : Oper) (hj : l.toArray[j]? = some oj) (e : _) (he : e ∈ oj.after) : e.on < j := by
  have hj' : l[j]? = some oj := by simpa using hj
  have := List.all_eq_true.1 hB j (List.mem_range.2 (List.getElem?_eq_some_iff.1 hj').1)
  rw [hj'] at this
  simp only [Option.map_some, Option.getD_some, Array.all_eq_true_iff_forall_mem, decide_eq_true_eq] at this
  exact this e he

theorem last_done {listed : Array Bool} (hB : lastB md h.length o = true) (hr : h.length ∈ Region.ready md (h ++ [o]).toArray listed) : Region.ready md (h ++ [o]).toArray (listed.setIfInBounds h.length true) = [] := by
  obtain ⟨hun, o', ho', hall⟩ := mem_ready.1 hr
  rw [at_last] at ho'
  cases ho'
  refine List.eq_nil_iff_forall_not_mem.2 fun j hj => ?_
  obtain ⟨hju, oj, hoj, _⟩ := mem_ready.1 hj
  by_cases hjn : j = h.length
  · subst hjn
    rcases Nat.lt_or_ge h.length listed.size with hl | hl
    · simp [hl] at hju
    · simp [Array.getElem?_eq_none hl] at hun
  · have hlt : j < h.length := by
      have := (Array.getElem?_eq_some_iff.1 hoj).1
      simp at this
      omega
    have hB' := List.all_eq_true.1 hB j (List.mem_range.2 hlt)
    obtain ⟨e, he, heb⟩ := Array.any_eq_true'.1 hB'
    simp only [Bool.and_eq_true, beq_iff_eq] at heb
    have h1 := hall e he heb.1
    rw [heb.2] at h1
    rcases Nat.lt_or_ge j listed.size with hl | hl
    · simp [hl] at h1
      simp [hl, Ne.symm hjn, h1] at hju
    · simp [Array.getElem?_eq_none hl] at h1

theorem any_of_last {Q' : Exit → Act → World → Prop} (hd : o.dst = none) (hlast : lastB md h.length o = true) (hord : orderB (h ++ [o]) = true)
    (hQ : ∀ a w, C w → Q a → wpOp P (h ++ [o]).toArray Q' h.length (fun a' w' => Q' .normal a' w') a w) :
    ∀ (fuel : Nat) (listed : Array Bool) (a : Act) (w : World), C w → listed.size = (h ++ [o]).toArray.size → listed.getD h.length true = false →
      wpAnyQ P md (h ++ [idle o]).toArray C Q fuel listed a → wpAny P md (h ++ [o]).toArray Q' fuel listed a w := by
  have hne : ∀ listed : Array Bool, listed.size = (h ++ [o]).toArray.size → listed.getD h.length true = false → Region.ready md (h ++ [o]).toArray listed ≠ [] :=
    fun listed hs hun => some_ready (fun j oj hj e he => orderB_spec hord j oj hj e he) hs h.length (by simp) hun
  intro fuel
  induction fuel with
  | zero =>
    intro listed a w _ hs hun H
    exact absurd (by rw [← ready_same]; exact H.1) (hne listed hs hun)
  | succ fuel ih =>
    intro listed a w hC hs hun H
    refine ⟨fun h0 => absurd h0 (hne listed hs hun), fun i hi => ?_⟩
    have Hi := H.2 i (by rw [ready_same]; exact hi)
    by_cases hin : i = h.length
    · subst hin
      have hdone := last_done hlast hi
      have hq : Q a := by
        unfold qOp at Hi
        rw [at_last] at Hi
        simp only at Hi
        rw [if_pos (show Region.wanted (idle o) (yielded (h ++ [idle o]).toArray a.tmps) = true from rfl)] at Hi
        have := of_quiet_idle Hi
        cases fuel with
        | zero => exact this.2
        | succ f => exact this.1 (by rw [ready_same]; exact hdone)
      refine wpOp_mono (fun a' w' hq' => ?_) (hQ a w hC hq)
      cases fuel with
      | zero => exact ⟨hdone, hq'⟩
      | succ f => exact ⟨fun _ => hq', fun j hj => by rw [hdone] at hj; cases hj⟩
    · have Hi' : qOp P (h ++ [o]).toArray C i (wpAnyQ P md (h ++ [idle o]).toArray C Q fuel (listed.setIfInBounds i true)) a := by
        unfold qOp at Hi ⊢
        rw [same_at hin] at Hi
        rw [yielded_same hd] at Hi
        exact Hi
      refine wpOp_of_qOp hC (fun a' w' hC' h' => ih _ a' w' hC' (by simpa using hs) ?_ h') Hi'
      rcases Nat.lt_or_ge h.length listed.size with hl | hl
      · simp [hl] at hun
        simp [hl, hin, hun]
      · simp [Array.getElem?_eq_none hl] at hun
end

/-- The law: the operations ahead of the last are walked once, in the order of the text; then the last one comes up, in whatever world of the class. -/
theorem wp_region_last {P : Program} {C : World → Prop} {id : Nat} {Q : Exit → Act → World → Prop} {a : Act} {w : World} {h : List Oper} {o : Oper} (hm : P.follows .mixedOrders = true) (hd : o.dst = none)
    (hB : Region.lexB .any (h ++ [idle o]).toArray = true) (hlast : lastB .any h.length o = true) (hord : orderB (h ++ [o]) = true) (hC : C { w with drawn := w.drawn + 1 })
    (H : wpQuiet P (h ++ [o]).toArray C (fun a' => ∀ w', C w' → wpList P (h ++ [o]).toArray Q [o] a' w') h a) : (Code.region id (h ++ [o]).toArray true).wp P Q a w := by
  simp only [Region.lexB, Bool.and_eq_true] at hB
  refine wp_region_any hm (any_of_last (C := C) (Q := fun a' => ∀ w', C w' → wpList P (h ++ [o]).toArray Q [o] a' w') hd hlast hord (fun a' w' hC' hq => ?_) _ _ _ _ hC (by simp) (by simp) ?_)
  · unfold wpOp
    rw [at_last]
    exact hq w' hC'
  · have := wpAnyQ_lex (C := C) (md := .any) hB.1 (h ++ [idle o]) 0 (Array.replicate (h ++ [idle o]).toArray.size false) a (by simp) (by simpa using hB.2) (wpQuiet_idle h a (wpQuiet_same (yielded_same hd) h a H))
    simpa using this
/-- The same for a region that is written out, in the class of the worlds that have grown since. -/
theorem wp_region_store {P : Program} {id : Nat} {Q : Exit → Act → World → Prop} {a : Act} {w : World} {l : List Oper} {o : Oper} (hm : P.follows .mixedOrders = true) (hl : l = l.dropLast ++ [o]) (hd : o.dst = none)
    (hB : Region.lexB .any (l.dropLast ++ [idle o]).toArray = true) (hlast : lastB .any l.dropLast.length o = true) (hord : orderB l = true)
    (H : wpQuiet P l.toArray (fun w' => ∃ s : Since w, w' = s.w) (fun a' => ∀ w', (∃ s : Since w, w' = s.w) → wpList P l.toArray Q [o] a' w') l.dropLast a) : (Code.region id l.toArray true).wp P Q a w := by
  generalize l.dropLast = h at *
  subst hl
  exact wp_region_last (C := fun w' => ∃ s : Since w, w' = s.w) hm hd hB hlast hord ⟨⟨_, (Below.refl _ w).drew⟩, rfl⟩ H
end Go.Proofs.Ytbodopfghejoiaa
