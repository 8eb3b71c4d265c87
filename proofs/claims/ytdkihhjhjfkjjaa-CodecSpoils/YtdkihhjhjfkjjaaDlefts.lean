/-
  The program's reader, over the bytes that are left.
-/
import Derived.Test.YtdkihhjhjfkjjaaDpalc
import Derived.Deep.RegionHeld
namespace Go.Proofs.Ytdkihhjhjfkjjaa
open Go.RowKit

theorem lnumber_short (q b : Nat) (M : Int) (w : World) (h : Lefts w q b []) : Calls Try.prog 48 #[.pointer (some ⟨q, 0, none⟩), .int .i64 M] w fun e w' => e = gives 3 ∧ w' = w := by
  obtain ⟨off, n, c, hR, hB, _⟩ := h
  have := hB.n
  simp at this
  subst this
  exact number_short q _ c M w hR
theorem lnumber_form (q b : Nat) (bs : List Int) (M : Int) (w : World) (h : Lefts w q b bs) (hne : bs ≠ []) (hg : (getL bs).1 < 1 ∨ M < (getL bs).1) : Calls Try.prog 48 #[.pointer (some ⟨q, 0, none⟩), .int .i64 M] w fun e w' => e = gives 4 ∧ w' = w := by
  obtain ⟨off, n, c, hR, hB, hn, _, h6⟩ := h
  have := hB.n
  have := List.length_pos_iff.2 hne
  exact number_form q _ n c bs M w hR hB (by omega) h6 hg
theorem lnumber_yes (q b : Nat) (bs : List Int) (M : Int) (w : World) (h : Lefts w q b bs) (hne : bs ≠ []) (h1 : 1 ≤ (getL bs).1) (h2 : (getL bs).1 ≤ M) : Calls Try.prog 48 #[.pointer (some ⟨q, 0, none⟩), .int .i64 M] w fun e w' =>
    e = .returned (.int .i64 (getL bs).1) ∧ Lefts w' q b (bs.drop (getL bs).2.toNat) ∧ Only q w w' := by
  obtain ⟨off, n, c, hR, hB, hn, hb, h6⟩ := h
  have hl := hB.n
  have hp := List.length_pos_iff.2 hne
  have hin := getL_in hB.fit
  obtain ⟨s, hs⟩ := Int.eq_ofNat_of_zero_le hin.2.2.1
  refine (number_yes q b off n c s bs M w hR hB (by omega) hn h6 h1 h2 hs).mono ?_
  rintro e w' ⟨he, o', ho, hR', hO⟩
  refine ⟨he, ?_, hO⟩
  rw [hs, Int.toNat_natCast]
  exact Lefts.moved hB hb hn h6 (hO.below (Nat.le_refl _)) (by omega) ho hR'
theorem ltake_no (q b m : Nat) (bs : List Int) (w : World) (h : Lefts w q b bs) (hm : bs.length < m) : Calls Try.prog 41 #[.pointer (some ⟨q, 0, none⟩), .int .i64 (m : Int)] w fun e w' => e = gives 3 ∧ w' = w := by
  obtain ⟨off, n, c, hR, hB, _⟩ := h
  exact take_no q _ n c m w hR (by have := hB.n; omega)
theorem ltake_yes (q b m : Nat) (bs : List Int) (w : World) (h : Lefts w q b bs) (h1 : 1 ≤ m) (hm : m ≤ bs.length) : Calls Try.prog 41 #[.pointer (some ⟨q, 0, none⟩), .int .i64 (m : Int)] w fun e w' =>
    (∃ off c, e = .returned (.slice (some ⟨b, off, none⟩) m c) ∧ Bytes w' (some ⟨b, off, none⟩) m (bs.take m) ∧ b < q) ∧ Lefts w' q b (bs.drop m) ∧ Only q w w' := by
  obtain ⟨off, n, c, hR, hB, hn, hb, h6⟩ := h
  have hl := hB.n
  refine (take_yes q b off n c m w hR h1 (by omega) hn).mono ?_
  rintro e w' ⟨he, o', ho, hR', hO⟩
  have hw := hO.below (Nat.le_refl q)
  refine ⟨⟨off, c, he, ?_, hb⟩, Lefts.moved hB hb hn h6 hw (by omega) ho hR', hO⟩
  have hB' := hB.under hw hb
  refine ⟨by rw [List.length_take]; omega, ?_, fun z hz => hB'.fit z (List.mem_of_mem_take hz)⟩
  rcases hB'.cells with e | ⟨b', o', e, hc⟩
  · left; rw [e, List.take_nil]
  · cases e
    refine Or.inr ⟨_, _, rfl, fun j hj => ?_⟩
    rw [List.length_take] at hj
    rw [hc j (by omega), List.getElem_take]

theorem Lefts.drew {w : World} {q b : Nat} {bs : List Int} (h : Lefts w q b bs) : Lefts w.drew q b bs := by
  obtain ⟨off, n, c, h1, h2, h3, h4, h5⟩ := h
  exact ⟨off, n, c, h1, ⟨h2.n, h2.cells, h2.fit⟩, h3, h4, h5⟩
theorem below_drew {B : Nat} {a w : World} (h : Below B a w) : Below B a w.drew := ⟨h.os, h.tape, h.output, h.size, h.block⟩

/-! ### a region that draws its order -/
theorem wpAnyH_strong {P : Program} {md : Region.Mode} {ops : Array Oper} {Q : Exit → Act → World → Prop} {S S' : World → Prop} (h : ∀ w, S' w → S w) :
    ∀ {fuel : Nat} {listed : Array Bool} {a : Act} {w : World}, wpAnyH P md ops Q S' fuel listed a w → wpAnyH P md ops Q S fuel listed a w
  | 0, _, _, _, hw => hw
  | _ + 1, _, _, _, hw => ⟨hw.1, fun i hi => wpOp_mono (fun _ w' h' => ⟨h w' h'.1, wpAnyH_strong h h'.2⟩) (hw.2 i hi)⟩
/-- A world of a class. -/
structure Sub (S : World → Prop) where
  w : World
  ok : S w
/-- What only reads is taken first: one value in each world of the class. -/
theorem take_step {P : Program} {md : Region.Mode} {ops : Array Oper} {Q : Exit → Act → World → Prop} {S : World → Prop} {i : Nat} {oi : Oper} {fuel : Nat} {listed : Array Bool} {a : Act} {w : World} (hi : ops[i]? = some oi)
    (hs : Region.noSelect ops = true) (hf : Region.free md ops listed i = true) (hr : (Region.ready md ops listed).contains i = true)
    (hQ : ∀ v c a w, Q (.panic c) (a.put oi.dst v) w → Q (.panic c) a w) (hS : S w)
    (h : ∀ K : Act → Prop, (∀ a, wpAnyH P md ops Q S fuel (listed.setIfInBounds i true) a w → K a) → if Region.wanted oi (yielded ops a.tmps) = true then ∃ v, (∀ s : Sub S, (execOp a.eval oi).run P s.w = .ok (.value v) s.w) ∧ K (a.put oi.dst v) else K (a.put oi.dst undef)) :
    wpAnyH P md ops Q S (fuel + 1) listed a w := by
  have h' := h _ (fun _ h => h)
  by_cases hw : Region.wanted oi (yielded ops a.tmps) = true
  · rw [if_pos hw] at h'
    obtain ⟨v, hv, hk⟩ := h'
    exact wpAnyH_take hi hs hf hr (hQ v) (Or.inl ⟨hw, fun w hS => hv ⟨w, hS⟩⟩) hS hk
  · rw [if_neg hw] at h'
    exact wpAnyH_take hi hs hf hr (hQ undef) (Or.inr ⟨by simpa using hw, rfl⟩) hS h'
theorem below_drewN {B : Nat} {a w : World} (h : Below B a w) (n : Nat) : Below B a (w.drewN n) := ⟨h.os, h.tape, h.output, h.size, h.block⟩
/-- A palette's value out of its block, in a region that draws its order. -/
theorem yields_pal {ops : Array Oper} {S : World → Prop} {op : Oper} {a : Act} (hw : Region.wanted op (yielded ops a.tmps) = true) (x : Operand) (ho : op.op = .load 48 x)
    (g : Nat) (hx : a.eval x = .pointer (some ⟨g, 0, none⟩)) (X : Array Value) (hs : X.size = 18) (hS : ∀ w, S w → w.heap[g]? = some (.cells X 48 (0, 0))) : YieldsIf Try.prog ops S op (.agg X) a := by
  have := yieldsIf_load_mid (P := Try.prog) (ops := ops) (S := S) (op := op) (a := a) hw 48 x ho g 0 hx X.toList _ (fun w h j v hv => by
    rw [Nat.zero_add, cell_of_row w g j _ 48 (0, 0) (hS w h)]; simpa using hv) Try.underlying48 rfl (by rw [Array.length_toList, hs]; kernel_rfl)
  rwa [Array.toArray_toList] at this
end Go.Proofs.Ytdkihhjhjfkjjaa
