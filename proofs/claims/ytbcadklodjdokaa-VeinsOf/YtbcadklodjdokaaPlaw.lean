/-
  A range over an iterator that ranges over an iterator itself (so that it turns records of its own), and that may be a method value; its rounds all go on.
-/
import Derived.Test.YtbcadklodjdokaaPeach
set_option maxRecDepth 20000
namespace Go.Proofs.Ytbcadklodjdokaa
open Go.RowKit Go.Shelf

/-- All blocks from number N on lie as they lay. -/
structure KA (N : Nat) (A B : World) : Prop where
  size : A.heap.size ≤ B.heap.size
  same : ∀ (k : Nat) (o : Obj), N ≤ k → A.heap[k]? = some o → B.heap[k]? = some o
theorem KA.refl (N : Nat) (A : World) : KA N A A := ⟨Nat.le_refl _, fun _ _ _ h => h⟩
theorem KA.trans {N : Nat} {A B C : World} (h : KA N A B) (k : KA N B C) : KA N A C := ⟨Nat.le_trans h.size k.size, fun i o hi ho => k.same i o hi (h.same i o hi ho)⟩
theorem KA.mono {N M : Nat} {A B : World} (h : KA N A B) (hle : N ≤ M) : KA M A B := ⟨h.size, fun k o hk ho => h.same k o (Nat.le_trans hle hk) ho⟩
theorem KA.keeps {N : Nat} {A B : World} (h : KA N A B) : KeepsFrom N A B := ⟨h.size, fun k o hk ho _ => h.same k o hk ho⟩
theorem KA.put {N l : Nat} {A : World} (o : Obj) (hl : l < N) : KA N A (A.putObj l o) := ⟨by simp, fun k _ hk ho => (World.putObj_heap_other (by omega)).trans ho⟩
theorem KA.below {N : Nat} {A B : World} (h : Below A.heap.size A B) : KA N A B := ⟨h.size, fun k _ _ ho => (h.block k (Array.getElem?_eq_some_iff.1 ho).1).trans ho⟩
theorem KA.grown {N b : Nat} {A B : World} (h : A.grownBy B (some b)) (hb : b < N) : KA N A B :=
  ⟨h.size, fun k _ hk ho => (h.block k (Array.getElem?_eq_some_iff.1 ho).1 (fun e => by cases e; omega)).trans ho⟩
theorem ownFrom_mono {β : Type} {B B' : Nat} {I : β → World → Prop} (h : OwnFrom B I) (hle : B ≤ B') : OwnFrom B' I :=
  fun s W W' row hs hg hr => h s W W' row hs hg (fun r e => ⟨Nat.le_trans hle (hr r e).1, (hr r e).2⟩)
/-- A block below B lies as it lay. -/
theorem ownFrom_block {β : Type} (B k : Nat) (o : Obj) (hk : k < B) : OwnFrom B (fun (_ : β) W => W.heap[k]? = some o) :=
  fun _ W _ _ hs hg hr => (hg.block k (Array.getElem?_eq_some_iff.1 hs).1 (fun e => by have := (hr k e.symm).1; omega)).trans hs

/-- What an iterator that is called with yield l in the world W gives, if every round goes on and leaves alone what was laid since. -/
def Gives {α : Type} (n m : Nat) (P : Program) (gf : Nat) (fs lb : Array Value) (encs : α → Array Value) (S : List α → Prop) (w : World) : Prop :=
  ∀ (l : Nat) (J : List α → World → Prop) (W : World), Below w.heap.size w W → OwnFrom W.heap.size J →
    (∀ pre x W1, J pre W1 → YieldAt Fence.wide m P l (encs x) W1 fun e W' => e = .returned (.bool true) ∧ J (pre ++ [x]) W' ∧ KA W.heap.size W1 W') →
    J [] W → CallsIn Fence.wide n P gf (fs ++ #[.func (.yield l) #[] #[]] ++ lb) W fun e W' => (∃ v, e = .returned v) ∧ ∃ xs, S xs ∧ J xs W'

section
variable {α : Type} {n m : Nat} {P : Program} {g : Operand} {ps : Array Tmp} {assign body : Code} {Q : Exit → Act → World → Prop} {a : Act} {w : World}
/-- The body of a round: it goes on, has turned nothing that was laid since the loop began, and the invariant holds. -/
def goesOn (N : Nat) (I : List α → World → Prop) (xs : List α) (W : World) : Exit → Act → World → Prop
  | .normal, _, W' => KA N W W' ∧ I xs W'
  | _, _, _ => False
theorem range_gives {gf : Nat} {fs lb : Array Value} (hg : a.eval g = .func (.func gf) fs lb) (eg : ∀ args w, (callFunc gf args).run P w = .ok (.enter gf args) w)
    {encs : α → Array Value} (hps : ∀ x, (encs x).size = ps.size) {S : List α → Prop} (hseq : Gives (n - 1) m P gf fs lb encs S w)
    (I : List α → World → Prop) (hI : OwnFrom w.heap.size I) (h0 : I [] w) (Ax : α → Act → World → Prop) (hAx : ∀ x a', OwnFrom w.heap.size (fun (_ : Unit) W => Ax x a' W))
    (hassign : ∀ (l : Nat) (pre : List α) (x : α) (W : World) (K : Act → World → Prop), I pre W → (∀ a' W', KA w.heap.size W W' → I pre W' → Ax x a' W' → K a' W') →
      assign.wpIn (Fence.wide.inRound l) m P (Exit.then K (fun _ _ _ => False)) { tmps := (ps.zip (encs x)).foldl (fun t (p, v) => t.setIfInBounds p v) a.tmps, defers := [] } W)
    (hbody : ∀ (l : Nat) (pre : List α) (x : α) (a' : Act) (W : World), I pre W → Ax x a' W → body.wpIn (Fence.wide.inRound l) m P (goesOn w.heap.size I (pre ++ [x]) W) a' W)
    (hdone : ∀ (D : Nat) (xs : List α) (W : World), w.heap.size ≤ D → S xs → I xs W → W.heap[D]? = some (.deferred (some [])) → Q .normal { a with defers := { target := .collected D, args := #[] } :: a.defers } W) :
    (Code.rangeFunc g ps assign body).wpIn Fence.wide n P Q a w := by
  refine wpIn_rangeFunc (fun fn hfn => ?_)
  generalize hD : w.heap.size = D at *
  -- the record, by its state
  obtain ⟨rc, hrc⟩ : ∃ rc : LoopState → Obj, rc = fun st => .loop { state := st, pending := none, fn, tmps := a.tmps, params := ps, assign, body, defers := D } := ⟨_, rfl⟩
  obtain ⟨V, hV⟩ : ∃ V, V = (w.alloc (.deferred (some []))).alloc (rc .ready) := ⟨_, rfl⟩
  have hsz : V.heap.size = D + 2 := by rw [hV]; simp [hD]
  have hVl : V.heap[D + 1]? = some (rc .ready) := by
    rw [hV]
    have := World.alloc_heap_new (w.alloc (.deferred (some []))) (rc .ready)
    rwa [World.size_alloc, hD] at this
  have hVd : V.heap[D]? = some (.deferred (some [])) := by
    rw [hV, ← hD]
    exact (Below.heap_alloc _ _ _ (by simp)).trans (World.alloc_heap_new w _)
  have hVb : Below D w V := by
    rw [hV]
    exact ((Below.refl D w).alloc (Nat.le_of_eq hD.symm) _).alloc (by simp [hD]) _
  have hVI : I [] V := by rw [hV]; exact hI.alloc _ (hI.alloc _ h0)
  have henter : (Instr.enterLoop fn a.tmps ps assign body Fence.wide.round).run P w = .ok (D + 1, [{ target := .collected D, args := #[] }]) V := by
    rw [hV, hrc, ← hD]
    exact run_enterLoop_outer fn a.tmps ps assign body
  refine ⟨D + 1, [{ target := .collected D, args := #[] }], V, { target := .fn (.func gf) lb, args := fs ++ #[.func (.yield (D + 1)) #[] #[]] }, V, gf, fs ++ #[.func (.yield (D + 1)) #[] #[]] ++ lb, V, henter, ?_, fun _ _ => trivial, ?_, fun h => (by cases h), ?_⟩
  · simp only [resolve, hg]
    simp [go_sem]
  · simp [invoke, go_sem, eg]
  refine (hseq (D + 1) (fun pre W => I pre W ∧ W.heap[D + 1]? = some (rc .ready) ∧ W.heap[D]? = some (.deferred (some []))) V (by rw [hD]; exact hVb) ?_ ?_ ⟨hVI, hVl, hVd⟩).mono ?_
  · exact OwnFrom.and (ownFrom_mono hI (by omega)) (OwnFrom.and (ownFrom_block _ _ _ (by omega)) (ownFrom_block _ _ _ (by omega)))
  · -- a round
    rintro pre x W ⟨hi, hl, hd⟩
    have hl' := hl
    rw [hrc] at hl'
    refine ⟨fn, _, assign, body, run_yield hl' (hps x), roundIn_of_wpIn hfn ?_⟩
    refine hassign (D + 1) pre x W _ hi (fun a' W2 hk hi2 hax => ?_)
    have hl2 := hk.same _ _ (by omega) hl
    have hd2 := hk.same _ _ (Nat.le_refl _) hd
    have hlt : D + 1 < W2.heap.size := (Array.getElem?_eq_some_iff.1 hl2).1
    have hl2' := hl2
    rw [hrc] at hl2'
    refine ⟨W2.putObj (D + 1) (rc .busy), by rw [run_beginRound hl2' rfl, hrc], ?_⟩
    have hno : (rc .ready).isCells = false := by rw [hrc]; rfl
    refine wpIn_mono (hbody (D + 1) pre x a' _ (hI.putObj _ hi2 (by omega) hl2 hno) ((hAx x a').putObj (s := ()) _ hax (by omega) hl2 hno)) ?_
    rintro e a3 W3 hp
    cases e with
    | normal =>
      obtain ⟨hk3, hi3⟩ := hp
      have hl3 := hk3.same (D + 1) _ (by omega) (World.putObj_heap_same hlt)
      have hd3 := hk3.same D _ (Nat.le_refl _) ((World.putObj_heap_other (by omega)).trans hd2)
      have hl3' := hl3
      rw [hrc] at hl3'
      have hrun := run_endRound (P := P) none hl3'
      refine ⟨_, _, hrun, rfl, ⟨?_, ?_, ?_⟩, ?_⟩
      · exact hI.putObj _ hi3 (by omega) hl3' rfl
      · rw [hrc]; exact World.putObj_heap_same (Array.getElem?_eq_some_iff.1 hl3).1
      · exact (World.putObj_heap_other (by omega)).trans hd3
      · exact (((hk.mono (by omega)).trans (KA.put _ (by omega))).trans (hk3.mono (by omega))).trans (KA.put _ (by omega))
    | ret => exact hp.elim
    | exit id => exact hp.elim
    | goto t => exact hp.elim
    | panic ch => exact hp.elim
    | outgrown => exact hp.elim
  · -- behind the iterator
    rintro e W ⟨⟨v, rfl⟩, xs, hS, hi, hl, hd⟩
    have hl' := hl
    rw [hrc] at hl'
    refine ⟨none, _, run_endLoop hl' (by simp), ?_⟩
    exact hdone D xs _ (Nat.le_refl _) hS (hI.putObj _ hi (by omega) hl' rfl) ((World.putObj_heap_other (by omega)).trans hd)
end
end Go.Proofs.Ytbcadklodjdokaa
