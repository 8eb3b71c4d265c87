/-
  Of no program: a range over an iterator that ranges over an iterator itself; drawn regions within a round; what a round leaves alone.
  Iterators whose rounds may turn some blocks (those of p) alone: what they captured lies as it lay.
  A site in memory: a chunk's pointer and which cells are claimed; worlds that differ in two blocks.
-/
import Derived.Test.YtbdjgaagafnfaaaPeach
import Derived.Test.YtbdjgaagafnfaaaGn7
import Derived.Test.YtbdjgaagafnfaaaBheld
import Derived.Test.YtbdjgaagafnfaaaHsince
import Derived.OrdersIn
set_option maxRecDepth 20000
namespace Go.Proofs.Ytbdjgaagafnfaaa
section
open C G Go.RowKit Go.Shelf

/-- All blocks from number N on lie as they lay. -/
structure KA (N : Nat) (A B : World) : Prop where
  size : A.heap.size ≤ B.heap.size
  same : ∀ (k : Nat) (o : Obj), N ≤ k → A.heap[k]? = some o → B.heap[k]? = some o
theorem KA.refl (N : Nat) (A : World) : KA N A A := ⟨Nat.le_refl _, fun _ _ _ h => h⟩
theorem KA.trans {N : Nat} {A B C : World} (h : KA N A B) (k : KA N B C) : KA N A C := ⟨Nat.le_trans h.size k.size, fun i o hi ho => k.same i o hi (h.same i o hi ho)⟩
theorem KA.mono {N M : Nat} {A B : World} (h : KA N A B) (hle : N ≤ M) : KA M A B := ⟨h.size, fun k o hk ho => h.same k o (Nat.le_trans hle hk) ho⟩
theorem KA.keeps {N : Nat} {A B : World} (h : KA N A B) : KeepsFrom N A B := ⟨h.size, fun k o hk ho _ => h.same k o hk ho⟩
theorem KA.put {N l : Nat} {A : World} (o : Obj) (hl : l < N) : KA N A (A.putObj l o) := ⟨by simp, fun k _ hk ho => (World.putObj_heap_other (by omega)).trans ho⟩
theorem KA.below {N : Nat} {A B : World} (h : Below A.heap.size A B) : KA N A B := ⟨h.size, fun k _ _ ho => (h.block k (Array.getElem?_eq_some_iff.1 ho).1).trans ho⟩
theorem KA.grown {N b : Nat} {A B : World} (h : A.grownBy B (some b)) (hb : b < N) : KA N A B :=
  ⟨h.size, fun k _ hk ho => (h.block k (Array.getElem?_eq_some_iff.1 ho).1 (fun e => by cases e; omega)).trans ho⟩
theorem ownFrom_mono {β : Type} {B B' : Nat} {I : β → World → Prop} (h : OwnFrom B I) (hle : B ≤ B') : OwnFrom B' I :=
  fun s W W' row hs hg hr => h s W W' row hs hg (fun r e => ⟨Nat.le_trans hle (hr r e).1, (hr r e).2⟩)
/-- A block below B lies as it lay. -/
theorem ownFrom_block {β : Type} (B k : Nat) (o : Obj) (hk : k < B) : OwnFrom B (fun (_ : β) W => W.heap[k]? = some o) :=
  fun _ W _ _ hs hg hr => (hg.block k (Array.getElem?_eq_some_iff.1 hs).1 (fun e => by have := (hr k e.symm).1; omega)).trans hs

/-- What an iterator that is called with yield l in the world W gives, if every round goes on and leaves alone what was laid since. -/
def Gives {α : Type} (n m : Nat) (P : Program) (gf : Nat) (fs lb : Array Value) (encs : α → Array Value) (S : List α → Prop) (w : World) : Prop :=
  ∀ (l : Nat) (J : List α → World → Prop) (W : World), Below w.heap.size w W → OwnFrom W.heap.size J →
    (∀ pre x W1, J pre W1 → YieldAt Fence.wide m P l (encs x) W1 fun e W' => e = .returned (.bool true) ∧ J (pre ++ [x]) W' ∧ KA W.heap.size W1 W') →
    J [] W → CallsIn Fence.wide n P gf (fs ++ #[.func (.yield l) #[] #[]] ++ lb) W fun e W' => (∃ v, e = .returned v) ∧ ∃ xs, S xs ∧ J xs W'

section
variable {α : Type} {n m : Nat} {P : Program} {g : Operand} {ps : Array Tmp} {assign body : Code} {Q : Exit → Act → World → Prop} {a : Act} {w : World}
/-- The body of a round: it goes on, has turned nothing that was laid since the loop began, and the invariant holds. -/
def goesOn (N : Nat) (I : List α → World → Prop) (xs : List α) (W : World) : Exit → Act → World → Prop
  | .normal, _, W' => KA N W W' ∧ I xs W'
  | _, _, _ => False
theorem range_gives {gf : Nat} {fs lb : Array Value} (hg : a.eval g = .func (.func gf) fs lb) (eg : ∀ args w, (callFunc gf args).run P w = .ok (.enter gf args) w)
    {encs : α → Array Value} (hps : ∀ x, (encs x).size = ps.size) {S : List α → Prop} (hseq : Gives (n - 1) m P gf fs lb encs S w)
    (I : List α → World → Prop) (hI : OwnFrom w.heap.size I) (h0 : I [] w) (Ax : α → Act → World → Prop) (hAx : ∀ x a', OwnFrom w.heap.size (fun (_ : Unit) W => Ax x a' W))
    (hassign : ∀ (l : Nat) (pre : List α) (x : α) (W : World) (K : Act → World → Prop), I pre W → (∀ a' W', KA w.heap.size W W' → I pre W' → Ax x a' W' → K a' W') →
      assign.wpIn (Fence.wide.inRound l) m P (Exit.then K (fun _ _ _ => False)) { tmps := (ps.zip (encs x)).foldl (fun t (p, v) => t.setIfInBounds p v) a.tmps, defers := [] } W)
    (hbody : ∀ (l : Nat) (pre : List α) (x : α) (a' : Act) (W : World), I pre W → Ax x a' W → body.wpIn (Fence.wide.inRound l) m P (goesOn w.heap.size I (pre ++ [x]) W) a' W)
    (hdone : ∀ (D : Nat) (xs : List α) (W : World), w.heap.size ≤ D → S xs → I xs W → W.heap[D]? = some (.deferred (some [])) → Q .normal { a with defers := { target := .collected D, args := #[] } :: a.defers } W) :
    (Code.rangeFunc g ps assign body).wpIn Fence.wide n P Q a w := by
  refine wpIn_rangeFunc (fun fn hfn => ?_)
  generalize hD : w.heap.size = D at *
  -- the record, by its state
  obtain ⟨rc, hrc⟩ : ∃ rc : LoopState → Obj, rc = fun st => .loop { state := st, pending := none, fn, tmps := a.tmps, params := ps, assign, body, defers := D } := ⟨_, rfl⟩
  obtain ⟨V, hV⟩ : ∃ V, V = (w.alloc (.deferred (some []))).alloc (rc .ready) := ⟨_, rfl⟩
  have hsz : V.heap.size = D + 2 := by rw [hV]; simp [hD]
  have hVl : V.heap[D + 1]? = some (rc .ready) := by
    rw [hV]
    have := World.alloc_heap_new (w.alloc (.deferred (some []))) (rc .ready)
    rwa [World.size_alloc, hD] at this
  have hVd : V.heap[D]? = some (.deferred (some [])) := by
    rw [hV, ← hD]
    exact (Below.heap_alloc _ _ _ (by simp)).trans (World.alloc_heap_new w _)
  have hVb : Below D w V := by
    rw [hV]
    exact ((Below.refl D w).alloc (Nat.le_of_eq hD.symm) _).alloc (by simp [hD]) _
  have hVI : I [] V := by rw [hV]; exact hI.alloc _ (hI.alloc _ h0)
  have henter : (Instr.enterLoop fn a.tmps ps assign body Fence.wide.round).run P w = .ok (D + 1, [{ target := .collected D, args := #[] }]) V := by
    rw [hV, hrc, ← hD]
    exact run_enterLoop_outer fn a.tmps ps assign body
  refine ⟨D + 1, [{ target := .collected D, args := #[] }], V, { target := .fn (.func gf) lb, args := fs ++ #[.func (.yield (D + 1)) #[] #[]] }, V, gf, fs ++ #[.func (.yield (D + 1)) #[] #[]] ++ lb, V, henter, ?_, fun _ _ => trivial, ?_, fun h => (by cases h), ?_⟩
  · simp only [resolve, hg]
    simp [go_sem]
  · simp [invoke, go_sem, eg]
  refine (hseq (D + 1) (fun pre W => I pre W ∧ W.heap[D + 1]? = some (rc .ready) ∧ W.heap[D]? = some (.deferred (some []))) V (by rw [hD]; exact hVb) ?_ ?_ ⟨hVI, hVl, hVd⟩).mono ?_
  · exact OwnFrom.and (ownFrom_mono hI (by omega)) (OwnFrom.and (ownFrom_block _ _ _ (by omega)) (ownFrom_block _ _ _ (by omega)))
  · -- a round
    rintro pre x W ⟨hi, hl, hd⟩
    have hl' := hl
    rw [hrc] at hl'
    refine ⟨fn, _, assign, body, run_yield hl' (hps x), roundIn_of_wpIn hfn ?_⟩
    refine hassign (D + 1) pre x W _ hi (fun a' W2 hk hi2 hax => ?_)
    have hl2 := hk.same _ _ (by omega) hl
    have hd2 := hk.same _ _ (Nat.le_refl _) hd
    have hlt : D + 1 < W2.heap.size := (Array.getElem?_eq_some_iff.1 hl2).1
    have hl2' := hl2
    rw [hrc] at hl2'
    refine ⟨W2.putObj (D + 1) (rc .busy), by rw [run_beginRound hl2' rfl, hrc], ?_⟩
    have hno : (rc .ready).isCells = false := by rw [hrc]; rfl
    refine wpIn_mono (hbody (D + 1) pre x a' _ (hI.putObj _ hi2 (by omega) hl2 hno) ((hAx x a').putObj (s := ()) _ hax (by omega) hl2 hno)) ?_
    rintro e a3 W3 hp
    cases e with
    | normal =>
      obtain ⟨hk3, hi3⟩ := hp
      have hl3 := hk3.same (D + 1) _ (by omega) (World.putObj_heap_same hlt)
      have hd3 := hk3.same D _ (Nat.le_refl _) ((World.putObj_heap_other (by omega)).trans hd2)
      have hl3' := hl3
      rw [hrc] at hl3'
      have hrun := run_endRound (P := P) none hl3'
      refine ⟨_, _, hrun, rfl, ⟨?_, ?_, ?_⟩, ?_⟩
      · exact hI.putObj _ hi3 (by omega) hl3' rfl
      · rw [hrc]; exact World.putObj_heap_same (Array.getElem?_eq_some_iff.1 hl3).1
      · exact (World.putObj_heap_other (by omega)).trans hd3
      · exact (((hk.mono (by omega)).trans (KA.put _ (by omega))).trans (hk3.mono (by omega))).trans (KA.put _ (by omega))
    | ret => exact hp.elim
    | exit id => exact hp.elim
    | goto t => exact hp.elim
    | panic ch => exact hp.elim
    | outgrown => exact hp.elim
  · -- behind the iterator
    rintro e W ⟨⟨v, rfl⟩, xs, hS, hi, hl, hd⟩
    have hl' := hl
    rw [hrc] at hl'
    refine ⟨none, _, run_endLoop hl' (by simp), ?_⟩
    exact hdone D xs _ (Nat.le_refl _) hS (hI.putObj _ hi (by omega) hl' rfl) ((World.putObj_heap_other (by omega)).trans hd)
end

/-! ### a region that draws its order within a round -/
def plainOpsA (l : Array Oper) : Bool := l.all fun o => match o.op with | .defer _ => false | _ => true
theorem plainOpsA_spec {l : Array Oper} (h : plainOpsA l = true) {i : Nat} {o : Oper} (ho : l[i]? = some o) (c : Call) : o.op ≠ .defer c := by
  intro e
  have := Array.all_eq_true'.1 h o (Array.mem_of_getElem? ho)
  rw [e] at this
  cases this
section
variable {P : Program} {ops : Array Oper} {md : Region.Mode} {l n : Nat} {Q : Exit → Act → World → Prop}
theorem wpOpIn_of_wpOp {i : Nat} {a : Act} {K K' : Act → World → Prop} {w : World} (hnd : ∀ (i : Nat) (o : Oper), ops[i]? = some o → ∀ c, o.op ≠ .defer c) (hlo : ¬ LetsOut Q) (h : ∀ a w', K a w' → K' a w')
    (hh : wpOp P ops Q i K a w) : wpOpIn (Fence.wide.inRound l) n P ops Q i K' a w := by
  unfold wpOp at hh
  unfold wpOpIn
  split
  · rename_i ho
    simp only [ho] at hh
    exact h _ _ hh
  · rename_i o ho
    simp only [ho] at hh
    split
    · rename_i hw
      simp only [hw, if_true] at hh
      have h3 := hh.resolve_right (fun h => hlo h.2)
      unfold Oper.wp at h3
      refine ⟨fun _ _ => trivial, ?_⟩
      rw [Oper.semAt_eq _ _ _ (hnd i o ho)]
      generalize (execOp a.eval o).run P w = r at *
      cases r with
      | ok x w' =>
        cases x <;> simp only [Oper.upon] at h3 <;> simp only [Oper.uponIn]
        case value u => exact h _ _ h3
        case skip => exact h _ _ h3
        case defer d => exact h _ _ h3
        case enter f args =>
          refine ⟨fun hd => (by cases hd), (CallsIn.inRound l (callsIn_wide.2 h3)).mono fun e w'' he => ?_⟩
          cases e with
          | returned v => exact h _ _ he
          | panicked c => exact he
          | outgrown => exact he
        case row rw' args => exact ⟨fun hd => (by cases hd), fun c cs _ => let ⟨v, w2, r, s⟩ := h3 c cs; ⟨v, w2, h _ _ r, stepsIn_wide.2 s⟩⟩
      | halt x w' => cases x <;> simp only [Oper.upon] at h3 <;> simp only [Oper.uponIn] <;> exact h3
    · rename_i hw
      simp only [hw] at hh
      exact ⟨fun _ _ => trivial, h _ _ hh⟩
theorem wpAnyIn_of_wpAny (hnd : ∀ (i : Nat) (o : Oper), ops[i]? = some o → ∀ c, o.op ≠ .defer c) (hlo : ¬ LetsOut Q) : ∀ (fuel : Nat) (listed : Array Bool) (a : Act) (w : World),
    wpAny P md ops Q fuel listed a w → wpAnyIn (Fence.wide.inRound l) n P md ops Q fuel listed a w
  | 0, _, _, _, h => h
  | fuel + 1, _, _, _, h => ⟨h.1, fun i hi => wpOpIn_of_wpOp hnd hlo (fun a' w' h' => wpAnyIn_of_wpAny hnd hlo fuel _ a' w' h') (h.2 i hi)⟩
theorem region_round_L (S : World → Prop) (m : Nat) {id : Nat} {a : Act} {w : World} (hm : P.follows .mixedOrders = true) (hp : plainOpsA ops = true) (hlo : ¬ LetsOut Q)
    (h : wpAnyL P .any ops Q S m ops.size (Array.replicate ops.size false) a w.drew) : (Code.region id ops true).wpIn (Fence.wide.inRound l) n P Q a w :=
  wpIn_region_any hm (wpAnyIn_of_wpAny (fun _ _ ho c => plainOpsA_spec hp ho c) hlo _ _ _ _ (wpAny_of_heldL _ _ _ _ h))
end


/-! ### what a round leaves alone -/
theorem cells_kept {X Y : World} {row : Option Nat} {B k : Nat} {cs : Array Value} {t : TypeId} {fr : Nat × Nat} (hg : X.grownBy Y row) (hr : ∀ r, row = some r → B ≤ r ∧ ∃ o : Obj, X.heap[r]? = some o ∧ o.isCells = false) (h : X.heap[k]? = some (.cells cs t fr)) : Y.heap[k]? = some (.cells cs t fr) := by
  refine (hg.block k (Array.getElem?_eq_some_iff.1 h).1 (fun e => ?_)).trans h
  obtain ⟨_, o, ho, hc⟩ := hr k e.symm
  rw [h] at ho
  cases ho
  cases hc
theorem grown_trans {A B D : World} {b : Nat} (h : A.grownBy B (some b)) (k : B.grownBy D (some b)) : A.grownBy D (some b) :=
  ⟨k.os.trans h.os, k.tape.trans h.tape, k.output.trans h.output, Nat.le_trans h.size k.size, fun j hj hne => (k.block j (Nat.lt_of_lt_of_le hj h.size) hne).trans (h.block j hj hne)⟩
theorem grown_of_below {A B : World} {b : Nat} (h : Below A.heap.size A B) : A.grownBy B (some b) := ⟨h.os, h.tape, h.output, h.size, fun j hj _ => h.block j hj⟩
theorem grown_refl (A : World) (b : Nat) : A.grownBy A (some b) := ⟨rfl, rfl, rfl, Nat.le_refl _, fun _ _ _ => rfl⟩
theorem grown_blk {A B : World} {b g : Nat} {t : TypeId} {cs : List Int} (h : A.grownBy B (some b)) (k : Blk A g t cs) (hne : g ≠ b) : Blk B g t cs := (h.block g k.lt (fun e => hne (by cases e; rfl))).trans k
theorem grown_cells {A B : World} {b g : Nat} {t : TypeId} {cs : Array Value} {fr : Nat × Nat} (h : A.grownBy B (some b)) (k : A.heap[g]? = some (.cells cs t fr)) (hne : g ≠ b) : B.heap[g]? = some (.cells cs t fr) := (h.block g (Array.getElem?_eq_some_iff.1 k).1 (fun e => hne (by cases e; rfl))).trans k
/-- What a loop holds: the block b has these cells, and all else of the world ahead of it is as it lay. -/
def Grows (W0 : World) (b : Nat) (t : TypeId) (cs : List Int) (W : World) : Prop := Blk W b t cs ∧ W0.grownBy W (some b)
theorem grows_own {β : Type} (W0 : World) (b : Nat) (t : TypeId) (f : β → List Int) (_hb : b < W0.heap.size) : OwnFrom W0.heap.size (fun s W => Grows W0 b t (f s) W) := fun s W W' row h hg hr =>
  ⟨cells_kept hg hr h.1, ⟨hg.os.trans h.2.os, hg.tape.trans h.2.tape, hg.output.trans h.2.output, Nat.le_trans h.2.size hg.size, fun j hj hne => (hg.block j (Nat.lt_of_lt_of_le hj h.2.size) (fun e => by
    have := (hr j e.symm).1
    omega)).trans (h.2.block j hj hne)⟩⟩
theorem round_end {W0 W W' : World} {b Bb n₁ : Nat} {t : TypeId} {cs cs' : List Int} (h : Grows W0 b t cs W) (hg : W.grownBy W' (some b)) (hB : Blk W' b t cs') (h1 : t ≠ 100) (h2 : t ≠ 52) :
    KeepsFrom W0.heap.size W W' ∧ Kp Bb n₁ W W' ∧ Grows W0 b t cs' W' := by
  refine ⟨⟨hg.size, fun k o ho hc _ => ?_⟩, Kp.row hg (fun g e => ?_), hB, grown_trans h.2 hg⟩
  · refine (hg.block k (Array.getElem?_eq_some_iff.1 hc).1 (fun e => ?_)).trans hc
    obtain rfl : k = b := by cases e; rfl
    rw [h.1] at hc
    cases hc
    rename_i hn
    cases hn
  · obtain rfl : b = g := by cases e; rfl
    rw [h.1]
    exact ⟨fun cs fr e => h1 (by cases e; rfl), fun cs fr e => h2 (by cases e; rfl)⟩
section
variable {P : Program} {ops : Array Oper} {Q : Exit → Act → World → Prop} {md : Region.Mode} {S : World → Prop} {n : Nat}
theorem two_L {i j : Nat} {oi oj : Oper} {fuel : Nat} {listed : Array Bool} {a : Act} {w : World} (hr : Region.ready md ops listed = [i, j]) (hoi : ops[i]? = some oi) (hoj : ops[j]? = some oj)
    (h1 : ∀ K' : Act → World → Prop, Shut (∀ a w, (i ≠ n → S w) → wpAnyL P md ops Q S n fuel (listed.setIfInBounds i true) a w → K' a w) → if Region.wanted oi (yielded ops a.tmps) = true then Oper.wp P oi a w K' Q else K' (a.put oi.dst undef) w)
    (h2 : ∀ K' : Act → World → Prop, Shut (∀ a w, (j ≠ n → S w) → wpAnyL P md ops Q S n fuel (listed.setIfInBounds j true) a w → K' a w) → if Region.wanted oj (yielded ops a.tmps) = true then Oper.wp P oj a w K' Q else K' (a.put oj.dst undef) w) : wpAnyL P md ops Q S n (fuel + 1) listed a w :=
  ⟨fun h0 => (by rw [hr] at h0; cases h0), fun k hk => (by
    rw [hr] at hk
    rcases List.mem_cons.1 hk with rfl | hk
    · exact wpOp_step hoi (fun K' hK => h1 K' (fun a w hS hW => hK a w ⟨hS, hW⟩))
    · obtain rfl := List.mem_singleton.1 hk
      exact wpOp_step hoj (fun K' hK => h2 K' (fun a w hS hW => hK a w ⟨hS, hW⟩)))⟩
theorem three_L {i j k : Nat} {oi oj ok : Oper} {fuel : Nat} {listed : Array Bool} {a : Act} {w : World} (hr : Region.ready md ops listed = [i, j, k]) (hoi : ops[i]? = some oi) (hoj : ops[j]? = some oj) (hok : ops[k]? = some ok)
    (h1 : ∀ K' : Act → World → Prop, Shut (∀ a w, (i ≠ n → S w) → wpAnyL P md ops Q S n fuel (listed.setIfInBounds i true) a w → K' a w) → if Region.wanted oi (yielded ops a.tmps) = true then Oper.wp P oi a w K' Q else K' (a.put oi.dst undef) w)
    (h2 : ∀ K' : Act → World → Prop, Shut (∀ a w, (j ≠ n → S w) → wpAnyL P md ops Q S n fuel (listed.setIfInBounds j true) a w → K' a w) → if Region.wanted oj (yielded ops a.tmps) = true then Oper.wp P oj a w K' Q else K' (a.put oj.dst undef) w)
    (h3 : ∀ K' : Act → World → Prop, Shut (∀ a w, (k ≠ n → S w) → wpAnyL P md ops Q S n fuel (listed.setIfInBounds k true) a w → K' a w) → if Region.wanted ok (yielded ops a.tmps) = true then Oper.wp P ok a w K' Q else K' (a.put ok.dst undef) w) : wpAnyL P md ops Q S n (fuel + 1) listed a w :=
  ⟨fun h0 => (by rw [hr] at h0; cases h0), fun q hq => (by
    rw [hr] at hq
    rcases List.mem_cons.1 hq with rfl | hq
    · exact wpOp_step hoi (fun K' hK => h1 K' (fun a w hS hW => hK a w ⟨hS, hW⟩))
    · rcases List.mem_cons.1 hq with rfl | hq
      · exact wpOp_step hoj (fun K' hK => h2 K' (fun a w hS hW => hK a w ⟨hS, hW⟩))
      · obtain rfl := List.mem_singleton.1 hq
        exact wpOp_step hok (fun K' hK => h3 K' (fun a w hS hW => hK a w ⟨hS, hW⟩)))⟩
end
def onlyN (R : Act → World → Prop) : Exit → Act → World → Prop
  | .normal, a, w => R a w
  | _, _, _ => False
theorem chain3 (w : World) (o0 o1 o2 : Obj) {W : World} (h : W = ((w.alloc o0).alloc o1).alloc o2) :
    W.heap.size = w.heap.size + 3 ∧ Below w.heap.size w W ∧ W.heap[w.heap.size]? = some o0 ∧ W.heap[w.heap.size + 1]? = some o1 ∧ W.heap[w.heap.size + 1 + 1]? = some o2 := by
  subst h
  refine ⟨by simp, (((Below.refl _ w).alloc (Nat.le_refl _) _).alloc (by simp) _).alloc (by simp; omega) _, ?_, ?_, ?_⟩
  · exact (Below.heap_alloc _ _ _ (by simp <;> omega)).trans ((Below.heap_alloc _ _ _ (by simp <;> omega)).trans (heap_alloc_new w _))
  · have := heap_alloc_new (w.alloc o0) o1
    rw [World.size_alloc] at this
    exact (Below.heap_alloc _ _ _ (by simp <;> omega)).trans this
  · have := heap_alloc_new ((w.alloc o0).alloc o1) o2
    simp only [World.size_alloc] at this
    exact this
/-- A region that draws its order within a round, and only reads and lays blocks. -/
theorem region_round_since {P : Program} {id l n : Nat} {Q : Exit → Act → World → Prop} {a : Act} {w : World} {ol : List Oper} (hm : P.follows .mixedOrders = true) (hB : Region.lexB .any ol.toArray = true) (hp : plainOps ol = true)
    (h : wpQuiet P ol.toArray (fun w' => ∃ s : Since w, w' = s.w) (fun a' => ∀ w', (∃ s : Since w, w' = s.w) → Q .normal a' w') ol a) : (Code.region id ol.toArray true).wpIn (Fence.wide.inRound l) n P Q a w := by
  simp only [Region.lexB, Bool.and_eq_true] at hB
  refine wpIn_region_any hm (G.wpAnyIn_of_quiet (C := fun w' => ∃ s : Since w, w' = s.w) (Q := fun a' => ∀ w', (∃ s : Since w, w' = s.w) → Q .normal a' w') (fun i o ho c => plainOps_spec hp ho c) (fun _ w' hw' h => h w' hw') _ _ _ _ ⟨⟨_, (Below.refl _ w).drew⟩, rfl⟩ ?_)
  have := wpAnyQ_lex (C := fun w' => ∃ s : Since w, w' = s.w) (md := .any) hB.1 ol.toArray.toList 0 (Array.replicate ol.toArray.size false) a (by simp) (by simpa using hB.2) (by simpa using h)
  simpa using this
theorem grown_only {A B : World} {b : Nat} (h : Only b A B) : A.grownBy B (some b) := ⟨h.os, h.tape, h.output, Nat.le_of_eq h.size.symm, fun j _ hne => h.block j (fun e => hne (by rw [e]))⟩
end
section
open Go.RowKit Go.Shelf

/-- All blocks of cells but those of p lie as they lay. -/
structure KC (p : Nat → Prop) (A B : World) : Prop where
  size : A.heap.size ≤ B.heap.size
  same : ∀ (k : Nat) (cs : Array Value) (t : TypeId) (fr : Nat × Nat), ¬ p k → A.heap[k]? = some (.cells cs t fr) → B.heap[k]? = some (.cells cs t fr)
theorem KC.refl (p : Nat → Prop) (A : World) : KC p A A := ⟨Nat.le_refl _, fun _ _ _ _ _ h => h⟩
theorem KC.trans {p : Nat → Prop} {A B C : World} (h : KC p A B) (k : KC p B C) : KC p A C := ⟨Nat.le_trans h.size k.size, fun i _ _ _ hi ho => k.same i _ _ _ hi (h.same i _ _ _ hi ho)⟩
theorem KC.below {p : Nat → Prop} {A B : World} (h : Below A.heap.size A B) : KC p A B := ⟨h.size, fun k _ _ _ _ ho => (h.block k (Array.getElem?_eq_some_iff.1 ho).1).trans ho⟩
theorem KC.put {p : Nat → Prop} {l : Nat} {A : World} {o' : Obj} (u : Obj) (hl : A.heap[l]? = some o') (hn : o'.isCells = false) : KC p A (A.putObj l u) :=
  ⟨by simp, fun k cs t fr _ ho => (World.putObj_heap_other (fun e => by subst e; rw [hl] at ho; cases ho; cases hn)).trans ho⟩
theorem kc_own {β : Type} (p : Nat → Prop) (B : Nat) (w : World) : OwnFrom B (fun (_ : β) W => KC p w W) := fun _ _ _ _ h hg hr =>
  ⟨Nat.le_trans h.size hg.size, fun k _ _ _ hp ho => cells_kept hg hr (h.same k _ _ _ hp ho)⟩
/-- What an iterator gives, if every round goes on, leaves alone what was laid since, and turns blocks of p alone. -/
def Gives2 {α : Type} (p : Nat → Prop) (n m : Nat) (P : Program) (gf : Nat) (fs lb : Array Value) (encs : α → Array Value) (S : List α → Prop) (w : World) : Prop :=
  ∀ (l : Nat) (J : List α → World → Prop) (W : World), Below w.heap.size w W → OwnFrom W.heap.size J →
    (∀ pre x W1, J pre W1 → YieldAt Fence.wide m P l (encs x) W1 fun e W' => e = .returned (.bool true) ∧ J (pre ++ [x]) W' ∧ KA W.heap.size W1 W' ∧ KC p W1 W') →
    J [] W → CallsIn Fence.wide n P gf (fs ++ #[.func (.yield l) #[] #[]] ++ lb) W fun e W' => (∃ v, e = .returned v) ∧ ∃ xs, S xs ∧ J xs W'
section
variable {α : Type} {p : Nat → Prop} {n m : Nat} {P : Program} {g : Operand} {ps : Array Tmp} {assign body : Code} {Q : Exit → Act → World → Prop} {a : Act} {w : World}
/-- The body of a round: it goes on, has turned nothing that was laid since the loop began, of all else blocks of p alone, and the invariant holds. -/
def goesOn2 (p : Nat → Prop) (N : Nat) (I : List α → World → Prop) (xs : List α) (W : World) : Exit → Act → World → Prop
  | .normal, _, W' => KA N W W' ∧ KC p W W' ∧ I xs W'
  | _, _, _ => False
theorem range_gives2 {gf : Nat} {fs lb : Array Value} (hg : a.eval g = .func (.func gf) fs lb) (eg : ∀ args w, (callFunc gf args).run P w = .ok (.enter gf args) w)
    {encs : α → Array Value} (hps : ∀ x, (encs x).size = ps.size) {S : List α → Prop} (hseq : Gives2 p (n - 1) m P gf fs lb encs S w)
    (I : List α → World → Prop) (hI : OwnFrom w.heap.size I) (h0 : I [] w) (Ax : α → Act → World → Prop) (hAx : ∀ x a', OwnFrom w.heap.size (fun (_ : Unit) W => Ax x a' W))
    (hassign : ∀ (l : Nat) (pre : List α) (x : α) (W : World) (K : Act → World → Prop), I pre W → (∀ a' W', KA w.heap.size W W' → KC p W W' → I pre W' → Ax x a' W' → K a' W') →
      assign.wpIn (Fence.wide.inRound l) m P (Exit.then K (fun _ _ _ => False)) { tmps := (ps.zip (encs x)).foldl (fun t (p, v) => t.setIfInBounds p v) a.tmps, defers := [] } W)
    (hbody : ∀ (l : Nat) (pre : List α) (x : α) (a' : Act) (W : World), I pre W → Ax x a' W → body.wpIn (Fence.wide.inRound l) m P (goesOn2 p w.heap.size I (pre ++ [x]) W) a' W)
    (hdone : ∀ (D : Nat) (xs : List α) (W : World), w.heap.size ≤ D → S xs → I xs W → W.heap[D]? = some (.deferred (some [])) → Q .normal { a with defers := { target := .collected D, args := #[] } :: a.defers } W) :
    (Code.rangeFunc g ps assign body).wpIn Fence.wide n P Q a w := by
  refine wpIn_rangeFunc (fun fn hfn => ?_)
  generalize hD : w.heap.size = D at *
  -- the record, by its state
  obtain ⟨rc, hrc⟩ : ∃ rc : LoopState → Obj, rc = fun st => .loop { state := st, pending := none, fn, tmps := a.tmps, params := ps, assign, body, defers := D } := ⟨_, rfl⟩
  obtain ⟨V, hV⟩ : ∃ V, V = (w.alloc (.deferred (some []))).alloc (rc .ready) := ⟨_, rfl⟩
  have hsz : V.heap.size = D + 2 := by rw [hV]; simp [hD]
  have hVl : V.heap[D + 1]? = some (rc .ready) := by
    rw [hV]
    have := World.alloc_heap_new (w.alloc (.deferred (some []))) (rc .ready)
    rwa [World.size_alloc, hD] at this
  have hVd : V.heap[D]? = some (.deferred (some [])) := by
    rw [hV, ← hD]
    exact (Below.heap_alloc _ _ _ (by simp)).trans (World.alloc_heap_new w _)
  have hVb : Below D w V := by
    rw [hV]
    exact ((Below.refl D w).alloc (Nat.le_of_eq hD.symm) _).alloc (by simp [hD]) _
  have hVI : I [] V := by rw [hV]; exact hI.alloc _ (hI.alloc _ h0)
  have henter : (Instr.enterLoop fn a.tmps ps assign body Fence.wide.round).run P w = .ok (D + 1, [{ target := .collected D, args := #[] }]) V := by
    rw [hV, hrc, ← hD]
    exact run_enterLoop_outer fn a.tmps ps assign body
  refine ⟨D + 1, [{ target := .collected D, args := #[] }], V, { target := .fn (.func gf) lb, args := fs ++ #[.func (.yield (D + 1)) #[] #[]] }, V, gf, fs ++ #[.func (.yield (D + 1)) #[] #[]] ++ lb, V, henter, ?_, fun _ _ => trivial, ?_, fun h => (by cases h), ?_⟩
  · simp only [resolve, hg]
    simp [go_sem]
  · simp [invoke, go_sem, eg]
  refine (hseq (D + 1) (fun pre W => I pre W ∧ W.heap[D + 1]? = some (rc .ready) ∧ W.heap[D]? = some (.deferred (some []))) V (by rw [hD]; exact hVb) ?_ ?_ ⟨hVI, hVl, hVd⟩).mono ?_
  · exact OwnFrom.and (ownFrom_mono hI (by omega)) (OwnFrom.and (ownFrom_block _ _ _ (by omega)) (ownFrom_block _ _ _ (by omega)))
  · -- a round
    rintro pre x W ⟨hi, hl, hd⟩
    have hl' := hl
    rw [hrc] at hl'
    refine ⟨fn, _, assign, body, run_yield hl' (hps x), roundIn_of_wpIn hfn ?_⟩
    refine hassign (D + 1) pre x W _ hi (fun a' W2 hk hkc hi2 hax => ?_)
    have hl2 := hk.same _ _ (by omega) hl
    have hd2 := hk.same _ _ (Nat.le_refl _) hd
    have hlt : D + 1 < W2.heap.size := (Array.getElem?_eq_some_iff.1 hl2).1
    have hl2' := hl2
    rw [hrc] at hl2'
    refine ⟨W2.putObj (D + 1) (rc .busy), by rw [run_beginRound hl2' rfl, hrc], ?_⟩
    have hno : (rc .ready).isCells = false := by rw [hrc]; rfl
    refine wpIn_mono (hbody (D + 1) pre x a' _ (hI.putObj _ hi2 (by omega) hl2 hno) ((hAx x a').putObj (s := ()) _ hax (by omega) hl2 hno)) ?_
    rintro e a3 W3 hp
    cases e with
    | normal =>
      obtain ⟨hk3, hkc3, hi3⟩ := hp
      have hl3 := hk3.same (D + 1) _ (by omega) (World.putObj_heap_same hlt)
      have hd3 := hk3.same D _ (Nat.le_refl _) ((World.putObj_heap_other (by omega)).trans hd2)
      have hl3' := hl3
      rw [hrc] at hl3'
      have hrun := run_endRound (P := P) none hl3'
      refine ⟨_, _, hrun, rfl, ⟨?_, ?_, ?_⟩, ?_, ?_⟩
      · exact hI.putObj _ hi3 (by omega) hl3' rfl
      · rw [hrc]; exact World.putObj_heap_same (Array.getElem?_eq_some_iff.1 hl3).1
      · exact (World.putObj_heap_other (by omega)).trans hd3
      · exact (((hk.mono (by omega)).trans (KA.put _ (by omega))).trans (hk3.mono (by omega))).trans (KA.put _ (by omega))
      · exact ((hkc.trans (KC.put _ hl2 hno)).trans hkc3).trans (KC.put _ hl3' rfl)
    | ret => exact hp.elim
    | exit id => exact hp.elim
    | goto t => exact hp.elim
    | panic ch => exact hp.elim
    | outgrown => exact hp.elim
  · -- behind the iterator
    rintro e W ⟨⟨v, rfl⟩, xs, hS, hi, hl, hd⟩
    have hl' := hl
    rw [hrc] at hl'
    refine ⟨none, _, run_endLoop hl' (by simp), ?_⟩
    exact hdone D xs _ (Nat.le_refl _) hS (hI.putObj _ hi (by omega) hl' rfl) ((World.putObj_heap_other (by omega)).trans hd)
end
end
section
open C G Go.RowKit Go.Shelf

def sitA (gC : Nat) (bl : List Bool) : Array Value := ((Value.pointer (some ⟨gC, 0, none⟩)) :: bl.map Value.bool).toArray
def Sit (W : World) (gS gC : Nat) (bl : List Bool) : Prop := W.heap[gS]? = some (.cells (sitA gC bl) 62 (0, 0))
theorem Sit.lt {W : World} {gS gC : Nat} {bl : List Bool} (h : Sit W gS gC bl) : gS < W.heap.size := (Array.getElem?_eq_some_iff.1 h).1
theorem Sit.ptr {W : World} {gS gC : Nat} {bl : List Bool} (h : Sit W gS gC bl) : W.cell? ⟨gS, 0, none⟩ = some (.pointer (some ⟨gC, 0, none⟩)) := (cell_of_row W gS 0 _ 62 (0, 0) h).trans (by simp [sitA])
theorem Sit.at {W : World} {gS gC : Nat} {bl : List Bool} (h : Sit W gS gC bl) {i : Nat} (hi : i < bl.length) : W.cell? ⟨gS, 1 + i, none⟩ = some (.bool (bl.getD i false)) := by
  refine (cell_of_row W gS (1 + i) _ 62 (0, 0) h).trans ?_
  rw [Nat.add_comm 1 i]
  simp [sitA, hi]
theorem Sit.free {W : World} {gS gC : Nat} {bl : List Bool} (h : Sit W gS gC bl) (k : Nat) : W.frozen? ⟨gS, k, none⟩ = false := frozen_of_row W gS k _ 62 h
theorem Sit.put {W : World} {gS gC : Nat} {bl : List Bool} (h : Sit W gS gC bl) (i : Nat) (b : Bool) : Sit (W.setCell ⟨gS, 1 + i, none⟩ (.bool b)) gS gC (bl.set i b) := by
  refine (heap_setCell_same W gS (1 + i) _ 62 _ h).trans ?_
  congr 2
  unfold sitA
  rw [List.setIfInBounds_toArray, Nat.add_comm 1 i, List.set_cons_succ, List.map_set]
/-- All blocks but two lie as they lay. -/
structure Two2 (g1 g2 : Nat) (A B : World) : Prop where
  os : B.os = A.os
  tape : B.tape = A.tape
  output : B.output = A.output
  size : A.heap.size ≤ B.heap.size
  block : ∀ k, k < A.heap.size → k ≠ g1 → k ≠ g2 → B.heap[k]? = A.heap[k]?
theorem Two2.refl (g1 g2 : Nat) (A : World) : Two2 g1 g2 A A := ⟨rfl, rfl, rfl, Nat.le_refl _, fun _ _ _ _ => rfl⟩
theorem Two2.trans {g1 g2 : Nat} {A B D : World} (h : Two2 g1 g2 A B) (k : Two2 g1 g2 B D) : Two2 g1 g2 A D :=
  ⟨k.os.trans h.os, k.tape.trans h.tape, k.output.trans h.output, Nat.le_trans h.size k.size, fun i hi n1 n2 => (k.block i (Nat.lt_of_lt_of_le hi h.size) n1 n2).trans (h.block i hi n1 n2)⟩
theorem Two2.below {g1 g2 : Nat} {A B : World} (h : Below A.heap.size A B) : Two2 g1 g2 A B := ⟨h.os, h.tape, h.output, h.size, fun k hk _ _ => h.block k hk⟩
theorem Two2.row1 {g1 g2 : Nat} {A B : World} (h : A.grownBy B (some g1)) : Two2 g1 g2 A B := ⟨h.os, h.tape, h.output, h.size, fun k hk n1 _ => h.block k hk (fun e => n1 (by cases e; rfl))⟩
theorem Two2.set2 {g1 g2 k : Nat} {A : World} {v : Value} : Two2 g1 g2 A (A.setCell ⟨g2, k, none⟩ v) := ⟨rfl, rfl, rfl, by simp [World.setCell], fun i _ _ n2 => Below.heap_setCell A ⟨g2, k, none⟩ v i n2⟩
theorem Two2.ka {g1 g2 N : Nat} {A B : World} (h : Two2 g1 g2 A B) (h1 : g1 < N) (h2 : g2 < N) : KA N A B := ⟨h.size, fun k _ hk ho => (h.block k (Array.getElem?_eq_some_iff.1 ho).1 (by omega) (by omega)).trans ho⟩
theorem Two2.kc {g1 g2 : Nat} {A B : World} (h : Two2 g1 g2 A B) : KC (fun k => k = g1 ∨ k = g2) A B := ⟨h.size, fun k _ _ _ hp ho => (h.block k (Array.getElem?_eq_some_iff.1 ho).1 (fun e => hp (.inl e)) (fun e => hp (.inr e))).trans ho⟩
theorem Two2.cells {g1 g2 k : Nat} {A B : World} {cs : Array Value} {t : TypeId} {fr : Nat × Nat} (h : Two2 g1 g2 A B) (hc : A.heap[k]? = some (.cells cs t fr)) (n1 : k ≠ g1) (n2 : k ≠ g2) : B.heap[k]? = some (.cells cs t fr) := (h.block k (Array.getElem?_eq_some_iff.1 hc).1 n1 n2).trans hc
theorem two2_own {β : Type} (g1 g2 : Nat) (A : World) : OwnFrom A.heap.size (fun (_ : β) W => Two2 g1 g2 A W) := fun _ W W' row h hg hr =>
  ⟨hg.os.trans h.os, hg.tape.trans h.tape, hg.output.trans h.output, Nat.le_trans h.size hg.size, fun k hk n1 n2 => (hg.block k (Nat.lt_of_lt_of_le hk h.size) (fun e => by have := (hr k e.symm).1; omega)).trans (h.block k hk n1 n2)⟩
theorem Two2.keeps {g1 g2 N : Nat} {A B : World} {c1 c2 : Array Value} {t1 t2 : TypeId} {f1 f2 : Nat × Nat} (h : Two2 g1 g2 A B) (h1 : A.heap[g1]? = some (.cells c1 t1 f1)) (h2 : A.heap[g2]? = some (.cells c2 t2 f2)) : KeepsFrom N A B :=
  ⟨h.size, fun k o _ ho hn => (h.block k (Array.getElem?_eq_some_iff.1 ho).1 (fun e => by subst e; rw [h1] at ho; cases ho; cases hn) (fun e => by subst e; rw [h2] at ho; cases ho; cases hn)).trans ho⟩
theorem Two2.kp {g1 g2 B n : Nat} {A D : World} {c1 c2 : Array Value} {f1 f2 : Nat × Nat} (h : Two2 g1 g2 A D) (h1 : A.heap[g1]? = some (.cells c1 74 f1)) (h2 : A.heap[g2]? = some (.cells c2 62 f2)) : Kp B n A D :=
  ⟨fun cs fr ho => (h.block B (Array.getElem?_eq_some_iff.1 ho).1 (fun e => by subst e; rw [h1] at ho; cases ho) (fun e => by subst e; rw [h2] at ho; cases ho)).trans ho,
   fun k cs fr _ ho => (h.block k (Array.getElem?_eq_some_iff.1 ho).1 (fun e => by subst e; rw [h1] at ho; cases ho) (fun e => by subst e; rw [h2] at ho; cases ho)).trans ho⟩
end
end Go.Proofs.Ytbdjgaagafnfaaa
