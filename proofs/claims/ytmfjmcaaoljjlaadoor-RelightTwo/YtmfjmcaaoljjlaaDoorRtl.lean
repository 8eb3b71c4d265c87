/-
  A region that draws its order: what only reads is taken first also where the last operation waits for it by way of others.
-/
import Derived.Test.YtmfjmcaaoljjlaaDoorLheld
import Derived.Test.YtmfjmcaaoljjlaaDoorLkin
import Derived.OrdersIn
namespace Go.Proofs.YtmfjmcaaoljjlaaDoor
open Go.RowKit

/-- Number n waits for the first of the list, each of the list for the next, the last one for number i. -/
def chainB (md : Region.Mode) (ops : Array Oper) : Nat → List Nat → Nat → Bool
  | n, [], i => waitsB md ops n i
  | n, q :: qs, i => waitsB md ops n q && chainB md ops q qs i
section
variable {P : Program} {ops : Array Oper} {Q : Exit → Act → World → Prop} {md : Region.Mode} {S : World → Prop} {n : Nat}
theorem waits_un {listed : Array Bool} {n i : Nat} (h : waitsB md ops n i = true) (h0 : listed.getD i true = false) : n ∉ Region.ready md ops listed := fun hn => by
  obtain ⟨_, o, ho, hall⟩ := mem_ready.1 hn
  unfold waitsB at h
  rw [ho] at h
  obtain ⟨e, he, heb⟩ := Array.any_eq_true'.1 h
  simp only [Bool.and_eq_true, beq_iff_eq] at heb
  have h1 := hall e he heb.1
  rw [heb.2] at h1
  rcases Nat.lt_or_ge i listed.size with h' | h'
  · simp [h'] at h0 h1; rw [h0] at h1; cases h1
  · simp [Array.getElem?_eq_none h'] at h1
theorem chain_no {listed : Array Bool} {i : Nat} (hi : listed.getD i true = false) : ∀ (qs : List Nat) (n : Nat), chainB md ops n qs i = true → (∀ q ∈ qs, listed.getD q true = false) → n ∉ Region.ready md ops listed ∧ ∀ q ∈ qs, q ∉ Region.ready md ops listed
  | [], n, h, _ => ⟨waits_un h hi, fun q hq => by cases hq⟩
  | q :: qs, n, h, hu => by
    have h' : waitsB md ops n q = true ∧ chainB md ops q qs i = true := by
      have h2 : (waitsB md ops n q && chainB md ops q qs i) = true := h
      simpa using h2
    have ih := chain_no hi qs q h'.2 (fun x hx => hu x (List.mem_cons_of_mem _ hx))
    refine ⟨waits_un h'.1 (hu q List.mem_cons_self), fun x hx => ?_⟩
    rcases List.mem_cons.1 hx with rfl | hx
    · exact ih.1
    · exact ih.2 x hx
theorem wpAnyL_firstC {i : Nat} {oi : Oper} {v : Value} (qs : List Nat) (hi : ops[i]? = some oi) (hsel : ∀ (j : Nat) (o : Oper) cs b, ops[j]? = some o → o.op ≠ .select cs b)
    (hQ : ∀ c a w, Q (.panic c) (a.put oi.dst v) w → Q (.panic c) a w) (hin : chainB md ops n qs i = true) :
    ∀ (fuel : Nat) (listed : Array Bool) (a : Act) (w : World),
      (∀ q ∈ qs, listed.getD q true = false) →
      (∀ j oj, ops[j]? = some oj → j ≠ i → listed.getD j true = false → (∀ e ∈ oj.after, Region.binds md e = true → e.on ≠ i) → oi.apart ops oj = true) →
      i ∈ Region.ready md ops listed → YieldsIf P ops S oi v a → S w →
      wpAnyL P md ops Q S n fuel (listed.setIfInBounds i true) (a.put oi.dst v) w → wpAnyL P md ops Q S n (fuel + 1) listed a w := by
  intro fuel
  induction fuel with
  | zero =>
    intro listed a w _ _ hr hy hS H
    refine ⟨fun h => (by rw [h] at hr; cases hr), fun j hj => ?_⟩
    by_cases hji : j = i
    · subst hji; exact hy.wpOp hi hS ⟨fun _ => hS, H⟩
    · have := ready_mono hj hji
      rw [H.1] at this
      cases this
  | succ fuel ih =>
    intro listed a w hun hfree hr hy hS H
    have hno := chain_no (mem_ready.1 hr).1 qs n hin hun
    refine ⟨fun h => (by rw [h] at hr; cases hr), fun j hj => ?_⟩
    have hjn : j ≠ n := fun e => hno.1 (e ▸ hj)
    by_cases hji : j = i
    · subst hji; exact hy.wpOp hi hS ⟨fun _ => hS, H⟩
    · have h1 := H.2 j (ready_mono hj hji)
      obtain ⟨hjun, oj, hoj, hall⟩ := mem_ready.1 hj
      have hnot : ∀ e ∈ oj.after, Region.binds md e = true → e.on ≠ i := fun e he hb heq => by
        have h1 := hall e he hb
        have h0 := (mem_ready.1 hr).1
        rw [heq] at h1
        rcases Nat.lt_or_ge i listed.size with h' | h'
        · simp [h'] at h0 h1; rw [h0] at h1; cases h1
        · simp [Array.getElem?_eq_none h'] at h1
      have h2 := wpOp_putIf hoj (hfree j oj hoj hji hjun hnot) (fun cs b => hsel i oi cs b hi) (fun cs b => hsel j oj cs b hoj) hQ hy h1
      have hfree' : ∀ k ok, ops[k]? = some ok → k ≠ i → (listed.setIfInBounds j true).getD k true = false →
          (∀ e ∈ ok.after, Region.binds md e = true → e.on ≠ i) → oi.apart ops ok = true := fun k ok hk hki hun2 hno2 => by
        refine hfree k ok hk hki ?_ hno2
        by_cases hjk : j = k
        · subst hjk; exact hjun
        · rw [getD_set_ne true hjk] at hun2; exact hun2
      have hun' : ∀ q ∈ qs, (listed.setIfInBounds j true).getD q true = false := fun q hq => by
        have hjq : j ≠ q := fun e => hno.2 q hq (e ▸ hj)
        rw [getD_set_ne true hjq]
        exact hun q hq
      refine wpOp_mono (fun a' w' h3 => ⟨h3.2.1, ih (listed.setIfInBounds j true) a' w' hun' hfree' (ready_mono hr (Ne.symm hji)) h3.1 (h3.2.1 hjn) ?_⟩) h2
      rw [Array.setIfInBounds_comm _ _ hji]
      exact h3.2.2
/-- What only reads is taken first; the last one waits for it by way of others that have not come up. -/
theorem take_LC {i : Nat} {oi : Oper} {fuel : Nat} {listed : Array Bool} {a : Act} {w : World} (qs : List Nat) (hi : ops[i]? = some oi)
    (hs : Region.noSelect ops = true) (hf : Region.free md ops listed i = true) (hr : (Region.ready md ops listed).contains i = true) (hin : chainB md ops n qs i = true) (hun : (qs.all fun q => !(listed.getD q true)) = true)
    (hQ : ∀ v c a w, Q (.panic c) (a.put oi.dst v) w → Q (.panic c) a w) (hS : S w)
    (h : ∀ K : Act → Prop, (∀ a, wpAnyL P md ops Q S n fuel (listed.setIfInBounds i true) a w → K a) → if Region.wanted oi (yielded ops a.tmps) = true then ∃ v, (∀ s : Sub S, (execOp a.eval oi).run P s.w = .ok (.value v) s.w) ∧ K (a.put oi.dst v) else K (a.put oi.dst undef)) :
    wpAnyL P md ops Q S n (fuel + 1) listed a w := by
  have hun' : ∀ q ∈ qs, listed.getD q true = false := fun q hq => by
    have := List.all_eq_true.1 hun q hq
    simpa using this
  have h' := h _ (fun _ h => h)
  by_cases hw : Region.wanted oi (yielded ops a.tmps) = true
  · rw [if_pos hw] at h'
    obtain ⟨v, hv, hk⟩ := h'
    exact wpAnyL_firstC qs hi (Region.noSelect_spec hs) (hQ v) hin fuel listed a w hun' (Region.free_spec hi hf) (by simpa using hr) (Or.inl ⟨hw, fun w hS => hv ⟨w, hS⟩⟩) hS hk
  · rw [if_neg hw] at h'
    exact wpAnyL_firstC qs hi (Region.noSelect_spec hs) (hQ undef) hin fuel listed a w hun' (Region.free_spec hi hf) (by simpa using hr) (Or.inr ⟨by simpa using hw, rfl⟩) hS h'
end
section
variable {P : Program} {ops : Array Oper} {Q : Exit → Act → World → Prop} {md : Region.Mode} {S : World → Prop} {n : Nat}
theorem two_L {i j : Nat} {oi oj : Oper} {fuel : Nat} {listed : Array Bool} {a : Act} {w : World} (hr : Region.ready md ops listed = [i, j]) (hoi : ops[i]? = some oi) (hoj : ops[j]? = some oj)
    (h1 : ∀ K' : Act → World → Prop, Shut (∀ a w, (i ≠ n → S w) → wpAnyL P md ops Q S n fuel (listed.setIfInBounds i true) a w → K' a w) → if Region.wanted oi (yielded ops a.tmps) = true then Oper.wp P oi a w K' Q else K' (a.put oi.dst undef) w)
    (h2 : ∀ K' : Act → World → Prop, Shut (∀ a w, (j ≠ n → S w) → wpAnyL P md ops Q S n fuel (listed.setIfInBounds j true) a w → K' a w) → if Region.wanted oj (yielded ops a.tmps) = true then Oper.wp P oj a w K' Q else K' (a.put oj.dst undef) w) : wpAnyL P md ops Q S n (fuel + 1) listed a w :=
  ⟨fun h0 => (by rw [hr] at h0; cases h0), fun k hk => (by
    rw [hr] at hk
    rcases List.mem_cons.1 hk with rfl | hk
    · exact wpOp_step hoi (fun K' hK => h1 K' (fun a w hS hW => hK a w ⟨hS, hW⟩))
    · obtain rfl := List.mem_singleton.1 hk
      exact wpOp_step hoj (fun K' hK => h2 K' (fun a w hS hW => hK a w ⟨hS, hW⟩)))⟩
theorem three_L {i j k : Nat} {oi oj ok : Oper} {fuel : Nat} {listed : Array Bool} {a : Act} {w : World} (hr : Region.ready md ops listed = [i, j, k]) (hoi : ops[i]? = some oi) (hoj : ops[j]? = some oj) (hok : ops[k]? = some ok)
    (h1 : ∀ K' : Act → World → Prop, Shut (∀ a w, (i ≠ n → S w) → wpAnyL P md ops Q S n fuel (listed.setIfInBounds i true) a w → K' a w) → if Region.wanted oi (yielded ops a.tmps) = true then Oper.wp P oi a w K' Q else K' (a.put oi.dst undef) w)
    (h2 : ∀ K' : Act → World → Prop, Shut (∀ a w, (j ≠ n → S w) → wpAnyL P md ops Q S n fuel (listed.setIfInBounds j true) a w → K' a w) → if Region.wanted oj (yielded ops a.tmps) = true then Oper.wp P oj a w K' Q else K' (a.put oj.dst undef) w)
    (h3 : ∀ K' : Act → World → Prop, Shut (∀ a w, (k ≠ n → S w) → wpAnyL P md ops Q S n fuel (listed.setIfInBounds k true) a w → K' a w) → if Region.wanted ok (yielded ops a.tmps) = true then Oper.wp P ok a w K' Q else K' (a.put ok.dst undef) w) : wpAnyL P md ops Q S n (fuel + 1) listed a w :=
  ⟨fun h0 => (by rw [hr] at h0; cases h0), fun q hq => (by
    rw [hr] at hq
    rcases List.mem_cons.1 hq with rfl | hq
    · exact wpOp_step hoi (fun K' hK => h1 K' (fun a w hS hW => hK a w ⟨hS, hW⟩))
    · rcases List.mem_cons.1 hq with rfl | hq
      · exact wpOp_step hoj (fun K' hK => h2 K' (fun a w hS hW => hK a w ⟨hS, hW⟩))
      · obtain rfl := List.mem_singleton.1 hq
        exact wpOp_step hok (fun K' hK => h3 K' (fun a w hS hW => hK a w ⟨hS, hW⟩)))⟩
end
end Go.Proofs.YtmfjmcaaoljjlaaDoor
