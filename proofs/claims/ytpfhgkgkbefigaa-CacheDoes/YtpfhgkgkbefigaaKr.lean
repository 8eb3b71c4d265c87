/-
  A range over an iterator of items: each round turns cells alone.
-/
import Derived.Test.YtpfhgkgkbefigaaKw
set_option maxRecDepth 20000
namespace Go.Proofs.Ytpfhgkgkbefigaa
open Go.RowKit Go.Maps

/-- All that is no row of cells lies as it lay. -/
structure KN (A B : World) : Prop where
  size : A.heap.size ≤ B.heap.size
  same : ∀ (k : Nat) (o : Obj), o.isCells = false → A.heap[k]? = some o → B.heap[k]? = some o
theorem KN.refl (A : World) : KN A A := ⟨Nat.le_refl _, fun _ _ _ h => h⟩
theorem KN.trans {A B C : World} (h : KN A B) (k : KN B C) : KN A C := ⟨Nat.le_trans h.size k.size, fun i o hi ho => k.same i o hi (h.same i o hi ho)⟩
theorem KN.keeps {A B : World} (h : KN A B) : KeepsWalks A B := ⟨h.size, fun k o ho hw => h.same k o (by cases o <;> first | rfl | cases hw) ho⟩
theorem keeps_put {A : World} {l : Nat} {o : Obj} (u : Obj) (hl : A.heap[l]? = some o) (ho : o.isWalk = false) : KeepsWalks A (A.putObj l u) :=
  ⟨by simp, fun k o' ho' hw => (World.putObj_heap_other (fun e => by subst e; rw [hl] at ho'; cases ho'; rw [ho] at hw; cases hw)).trans ho'⟩
theorem own_mono {β : Type} {B B' : Nat} {I : β → World → Prop} (h : OwnFrom B I) (hle : B ≤ B') : OwnFrom B' I :=
  fun s W W' row hs hg hr => h s W W' row hs hg (fun r e => ⟨Nat.le_trans hle (hr r e).1, (hr r e).2⟩)
theorem own_block {β : Type} (B k : Nat) (o : Obj) (hk : k < B) : OwnFrom B (fun (_ : β) W => W.heap[k]? = some o) :=
  fun _ W _ _ hs hg hr => (hg.block k (Array.getElem?_eq_some_iff.1 hs).1 (fun e => by have := (hr k e.symm).1; omega)).trans hs
theorem own_abides {β : Type} {B : Nat} {I : β → World → Prop} (h : OwnFrom B I) : AbidesFrom B I :=
  fun s W W' row hs hg hr => h s W W' row hs hg (fun r e => by
    obtain ⟨h1, o, h2, h3⟩ := hr r e
    exact ⟨h1, o, h2, by cases o <;> first | rfl | cases h3⟩)
/-- What an iterator of the items of I gives. -/
def GivesV (n m : Nat) (gf : Nat) (fs lb : Array Value) (I : List Nat) (w : World) : Prop :=
  ∀ (l : Nat) (J : List Nat → World → Prop) (W : World), Below w.heap.size w W → AbidesFrom W.heap.size J →
    (∀ pre b W1, J pre W1 → pre.length < I.length → b ∈ I → YieldAt Fence.wide m Try.prog l #[pv b] W1 fun e W' => e = .returned (.bool true) ∧ J (pre ++ [b]) W' ∧ KeepsWalks W1 W') →
    J [] W → CallsIn Fence.wide n Try.prog gf (fs ++ #[.func (.yield l) #[] #[]] ++ lb) W fun e W' => (∃ v, e = .returned v) ∧ ∃ xs : List Nat, xs.Perm I ∧ J xs W'
section
variable {n m : Nat} {g : Operand} {ps : Array Tmp} {assign body : Code} {Q : Exit → Act → World → Prop} {a : Act} {w : World}
/-- The body of a round: it goes on, and the invariant holds. -/
def goesOnN (I : List Nat → World → Prop) (xs : List Nat) (W : World) : Exit → Act → World → Prop
  | .normal, _, W' => KN W W' ∧ I xs W'
  | _, _, _ => False
theorem range_givesV {gf : Nat} {fs lb : Array Value} (hg : a.eval g = .func (.func gf) fs lb) (eg : ∀ args w, (callFunc gf args).run Try.prog w = .ok (.enter gf args) w)
    (hps : ps.size = 1) {L : List Nat} (hseq : GivesV (n - 1) m gf fs lb L w)
    (I : List Nat → World → Prop) (hI : OwnFrom w.heap.size I) (h0 : I [] w) (Ax : Nat → Act → Prop)
    (hassign : ∀ (l : Nat) (b : Nat) (W : World) (K : Act → World → Prop), (∀ a', Ax b a' → K a' W) →
      assign.wpIn (Fence.wide.inRound l) m Try.prog (Exit.then K (fun _ _ _ => False)) { tmps := (ps.zip #[pv b]).foldl (fun t (p, v) => t.setIfInBounds p v) a.tmps, defers := [] } W)
    (hbody : ∀ (l : Nat) (pre : List Nat) (b : Nat) (a' : Act) (W : World), w.heap.size ≤ W.heap.size → I pre W → pre.length < L.length → b ∈ L → Ax b a' → body.wpIn (Fence.wide.inRound l) m Try.prog (goesOnN I (pre ++ [b]) W) a' W)
    (hdone : ∀ (D : Nat) (xs : List Nat) (W : World), w.heap.size ≤ D → xs.Perm L → I xs W → W.heap[D]? = some (.deferred (some [])) → Q .normal { a with defers := { target := .collected D, args := #[] } :: a.defers } W) :
    (Code.rangeFunc g ps assign body).wpIn Fence.wide n Try.prog Q a w := by
  refine wpIn_rangeFunc (fun fn hfn => ?_)
  generalize hD : w.heap.size = D at *
  -- the record, by its state
  obtain ⟨rc, hrc⟩ : ∃ rc : LoopState → Obj, rc = fun st => .loop { state := st, pending := none, fn, tmps := a.tmps, params := ps, assign, body, defers := D } := ⟨_, rfl⟩
  obtain ⟨V, hV⟩ : ∃ V, V = (w.alloc (.deferred (some []))).alloc (rc .ready) := ⟨_, rfl⟩
  have hsz : V.heap.size = D + 2 := by rw [hV]; simp [hD]
  have hVl : V.heap[D + 1]? = some (rc .ready) := by
    rw [hV]
    have := World.alloc_heap_new (w.alloc (.deferred (some []))) (rc .ready)
    rwa [World.size_alloc, hD] at this
  have hVd : V.heap[D]? = some (.deferred (some [])) := by
    rw [hV, ← hD]
    exact (Below.heap_alloc _ _ _ (by simp)).trans (World.alloc_heap_new w _)
  have hVb : Below D w V := by
    rw [hV]
    exact ((Below.refl D w).alloc (Nat.le_of_eq hD.symm) _).alloc (by simp [hD]) _
  have hVI : I [] V := by rw [hV]; exact hI.alloc _ (hI.alloc _ h0)
  have henter : (Instr.enterLoop fn a.tmps ps assign body Fence.wide.round).run Try.prog w = .ok (D + 1, [{ target := .collected D, args := #[] }]) V := by
    rw [hV, hrc, ← hD]
    exact run_enterLoop_outer fn a.tmps ps assign body
  refine ⟨D + 1, [{ target := .collected D, args := #[] }], V, { target := .fn (.func gf) lb, args := fs ++ #[.func (.yield (D + 1)) #[] #[]] }, V, gf, fs ++ #[.func (.yield (D + 1)) #[] #[]] ++ lb, V, henter, ?_, fun _ _ => trivial, ?_, fun h => (by cases h), ?_⟩
  · simp only [resolve, hg]
    simp [go_sem]
  · simp [invoke, go_sem, eg]
  refine (hseq (D + 1) (fun pre W => I pre W ∧ W.heap[D + 1]? = some (rc .ready) ∧ W.heap[D]? = some (.deferred (some []))) V (by rw [hD]; exact hVb) ?_ ?_ ⟨hVI, hVl, hVd⟩).mono ?_
  · exact own_abides (OwnFrom.and (own_mono hI (by omega)) (OwnFrom.and (own_block _ _ _ (by omega)) (own_block _ _ _ (by omega))))
  · -- a round
    rintro pre b W ⟨hi, hl, hd⟩ hlt hb
    have hl' := hl
    rw [hrc] at hl'
    refine ⟨fn, _, assign, body, run_yield hl' (by simpa using hps.symm), roundIn_of_wpIn hfn ?_⟩
    refine hassign (D + 1) b W _ (fun a' hax => ?_)
    have hlt' : D + 1 < W.heap.size := (Array.getElem?_eq_some_iff.1 hl).1
    refine ⟨W.putObj (D + 1) (rc .busy), by rw [run_beginRound hl' rfl, hrc], ?_⟩
    have hno : (rc .ready).isCells = false := by rw [hrc]; rfl
    have hnw : (rc .ready).isWalk = false := by rw [hrc]; rfl
    have hnb : (rc .busy).isWalk = false := by rw [hrc]; rfl
    have hcb : (rc .busy).isCells = false := by rw [hrc]; rfl
    refine wpIn_mono (hbody (D + 1) pre b a' _ (by simp; omega) (hI.putObj _ hi (by omega) hl hno) hlt hb hax) ?_
    rintro e a3 W3 hp
    cases e with
    | normal =>
      obtain ⟨hk3, hi3⟩ := hp
      have hl3 := hk3.same (D + 1) _ hcb (World.putObj_heap_same hlt')
      have hd3 := hk3.same D _ rfl ((World.putObj_heap_other (by omega)).trans hd)
      have hl3' := hl3
      rw [hrc] at hl3'
      have hrun := run_endRound (P := Try.prog) none hl3'
      refine ⟨_, _, hrun, rfl, ⟨?_, ?_, ?_⟩, ?_⟩
      · exact hI.putObj _ hi3 (by omega) hl3' rfl
      · rw [hrc]; exact World.putObj_heap_same (Array.getElem?_eq_some_iff.1 hl3).1
      · exact (World.putObj_heap_other (by omega)).trans hd3
      · exact ((keeps_put _ hl hnw).trans hk3.keeps).trans (keeps_put _ hl3 hnb)
    | ret => exact hp.elim
    | exit id => exact hp.elim
    | goto t => exact hp.elim
    | panic ch => exact hp.elim
    | outgrown => exact hp.elim
  · -- behind the iterator
    rintro e W ⟨⟨v, rfl⟩, xs, hS, hi, hl, hd⟩
    have hl' := hl
    rw [hrc] at hl'
    refine ⟨none, _, run_endLoop hl' (by simp), ?_⟩
    exact hdone D xs _ (Nat.le_refl _) hS (hI.putObj _ hi (by omega) hl' rfl) ((World.putObj_heap_other (by omega)).trans hd)
end
end Go.Proofs.Ytpfhgkgkbefigaa
