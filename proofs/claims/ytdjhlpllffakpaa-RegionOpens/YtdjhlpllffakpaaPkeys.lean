/-
  The program's disk: keys and elements of its two maps.
-/
import Derived.Test.YtdjhlpllffakpaaPre
import Derived.BigQuiet
import Derived.Test.YtdjhlpllffakpaaBase
import Derived.Test.YtdjhlpllffakpaaDisk
import Derived.Maps.OwnSet
import Derived.DeepKeys4
namespace Go.Proofs.Ytdjhlpllffakpaa
open Go.RowKit Go.Maps

/-! ### keys -/
theorem rowF : (29 : TypeId) < Try.prog.types.size := of_decide_eq_true (by kernel_rfl)
theorem rowP : (90 : TypeId) < Try.prog.types.size := of_decide_eq_true (by kernel_rfl)
theorem wideF : (match Try.prog.underlying 29 with | some (.array _ _) | some (.struct _) => true | _ => false) = true := by kernel_rfl
theorem wideP : (match Try.prog.underlying 90 with | some (.array _ _) | some (.struct _) => true | _ => false) = true := by kernel_rfl
set_option maxRecDepth 20000 in
theorem lawF : Keyed Try.prog 29 := Keyed.of_law (deep_law_laid laidOut (m := 3) (by omega) rowF (by kernel_rfl) wideF)
set_option maxRecDepth 20000 in
theorem lawP : Keyed Try.prog 90 := Keyed.of_law (deep_law_laid laidOut (m := 4) (by omega) rowP (by kernel_rfl) wideP)
/-- A file, a place as values. -/
abbrev valF (f : Fl) : Value := .agg #[.int .i64 f.1, .int .i64 f.2.1, .int .i64 f.2.2]
abbrev valP (f : Fl) (i : Int) : Value := .agg #[.int .i64 f.1, .int .i64 f.2.1, .int .i64 f.2.2, .int .i64 i]
def I64F (f : Fl) : Prop := I64 f.1 ∧ I64 f.2.1 ∧ I64 f.2.2
theorem wf64 {x : Int} (h : I64 x) : (Lit.int .i64 x).wf = true := WalkArith.wf_i64 (by unfold I64 at h; omega)
/-- What they read as. -/
def klF (f : Fl) : Lit := .string (keyBytes [.int .i64 f.1, .int .i64 f.2.1, .int .i64 f.2.2])
def klP (f : Fl) (i : Int) : Lit := .string (keyBytes [.int .i64 f.1, .int .i64 f.2.1, .int .i64 f.2.2, .int .i64 i])
theorem kt29 : Try.prog.keyType 29 = true := by kernel_rfl
theorem kt90 : Try.prog.keyType 90 = true := by kernel_rfl
theorem cells90 : Try.prog.cellsOf 90 = 4 := by kernel_rfl
theorem litsF (n : Nat) (f : Fl) (h : I64F f) : Try.prog.keyLits (n + 2) 29 [.int .i64 f.1, .int .i64 f.2.1, .int .i64 f.2.2] = some [.int .i64 f.1, .int .i64 f.2.1, .int .i64 f.2.2] := by
  obtain ⟨h1, h2, h3⟩ := h
  simp [Program.keyLits, Try.underlying29, Try.underlying3, cells29, cells3, wf64 h1, wf64 h2, wf64 h3]
theorem litsP (n : Nat) (f : Fl) (i : Int) (h : I64F f) (hi : I64 i) : Try.prog.keyLits (n + 3) 90 [.int .i64 f.1, .int .i64 f.2.1, .int .i64 f.2.2, .int .i64 i] = some [.int .i64 f.1, .int .i64 f.2.1, .int .i64 f.2.2, .int .i64 i] := by
  obtain ⟨h1, h2, h3⟩ := h
  simp [Program.keyLits, Try.underlying90, Try.underlying29, Try.underlying3, cells90, cells29, cells3, wf64 h1, wf64 h2, wf64 h3, wf64 hi]
  rw [if_pos (by intro k hk; match k, hk with | 0, _ => simp | 1, _ => simp | 2, _ => simp)]
  rfl
theorem many : 3 ≤ Try.prog.types.size := of_decide_eq_true (by kernel_rfl)
theorem keyF (f : Fl) (h : I64F f) : keyOf Try.prog 29 (valF f) = some (klF f) := by
  have hf : (valF f).formed Try.prog 29 = true := by simp [Value.formed, Try.underlying29, cells29]
  obtain ⟨m, hm⟩ : ∃ m, Try.prog.types.size + 1 = m + 2 := ⟨Try.prog.types.size - 1, by have := many; omega⟩
  have hl : Try.prog.keyLits (Try.prog.types.size + 1) 29 (valF f).cells.toList = some [.int .i64 f.1, .int .i64 f.2.1, .int .i64 f.2.2] := by rw [hm]; exact litsF m f h
  unfold keyOf
  rw [Try.underlying29]
  simp only [kt29, hf, hl]
  rfl
theorem keyP (f : Fl) (i : Int) (h : I64F f) (hi : I64 i) : keyOf Try.prog 90 (valP f i) = some (klP f i) := by
  have hf : (valP f i).formed Try.prog 90 = true := by simp [Value.formed, Try.underlying90, cells90]
  obtain ⟨m, hm⟩ : ∃ m, Try.prog.types.size + 1 = m + 3 := ⟨Try.prog.types.size - 2, by have := many; omega⟩
  have hl : Try.prog.keyLits (Try.prog.types.size + 1) 90 (valP f i).cells.toList = some [.int .i64 f.1, .int .i64 f.2.1, .int .i64 f.2.2, .int .i64 i] := by
    rw [hm]
    exact litsP m f i h hi
  unfold keyOf
  rw [Try.underlying90]
  simp only [kt90, hf, hl]
  rfl
theorem klF_inj {f g : Fl} (h : I64F f) (k : I64F g) (e : klF f = klF g) : f = g := by
  have := lawF.inj (keyF f h) (by rw [e]; exact keyF g k)
  simp only [Value.agg.injEq, Array.mk.injEq, List.cons.injEq, Value.int.injEq, true_and, and_true] at this
  obtain ⟨a, b, c⟩ := f
  obtain ⟨x, y, z⟩ := g
  simp_all
theorem klP_inj {f g : Fl} {i j : Int} (h : I64F f) (hi : I64 i) (k : I64F g) (hj : I64 j) (e : klP f i = klP g j) : f = g ∧ i = j := by
  have := lawP.inj (keyP f i h hi) (by rw [e]; exact keyP g j k hj)
  simp only [Value.agg.injEq, Array.mk.injEq, List.cons.injEq, Value.int.injEq, true_and, and_true] at this
  obtain ⟨a, b, c⟩ := f
  obtain ⟨x, y, z⟩ := g
  simp_all

/-! ### elements -/
def isU8 : Value → Bool
  | .int .u8 _ => true
  | _ => false
def unU8 : Value → Int
  | .int _ z => z
  | _ => 0
/-- Bytes as a datum. -/
def dat (l : List Int) : DataW Unit := .agg (l.map fun z => .lit (.int .u8 z))
/-- How a block of 32 bytes reads. -/
def blkElem (v : Value) : Option (DataW Unit × List MemPlace) :=
  match v with
  | .agg cs => if cs.toList.all isU8 = true ∧ cs.size = 32 then some (dat (cs.toList.map unU8), []) else none
  | _ => none
theorem isU8_eq {v : Value} (h : isU8 v = true) : v = .int .u8 (unU8 v) := by
  unfold isU8 at h
  split at h
  · rfl
  · cases h
theorem blkElem_mk {l : List Int} (h : l.length = 32) : blkElem (.agg (vals l)) = some (dat l, []) := by
  unfold blkElem vals
  simp only
  rw [if_pos ⟨by simp [isU8], by simpa using h⟩]
  simp [unU8, Function.comp_def]
theorem blkElem_inv {v : Value} {y : DataW Unit × List MemPlace} (h : blkElem v = some y) : ∃ l : List Int, v = .agg (vals l) ∧ l.length = 32 ∧ y = (dat l, []) := by
  unfold blkElem at h
  split at h
  · rename_i cs
    split at h
    · rename_i hc
      cases h
      refine ⟨cs.toList.map unU8, ?_, by simpa using hc.2, rfl⟩
      unfold vals
      congr 1
      apply Array.toList_inj.1
      rw [List.map_map]
      symm
      show List.map _ cs.toList = cs.toList
      conv => rhs; rw [← List.map_id cs.toList]
      apply List.map_congr_left
      intro x hx
      exact (isU8_eq (List.all_eq_true.1 hc.1 x hx)).symm
    · cases h
  · cases h
theorem dat_inj {a b : List Int} (h : dat a = dat b) : a = b := by
  unfold dat at h
  simp only [DataW.agg.injEq] at h
  have := congrArg (List.map (fun d : DataW Unit => match d with | .lit (.int _ z) => z | _ => 0)) h
  simpa [Function.comp_def] using this

/-! ### what the two maps hold -/
/-- A disk's blocks and lengths, as its maps read. -/
structure Holds2 (l : List Bk) (Db Dl : DataW Unit) : Prop where
  blk : ∀ f i, I64F f → I64 i → Db.atKey (klP f i) (dat (List.replicate 32 0)) = dat ((has l f i).getD (List.replicate 32 0))
  len : ∀ f, I64F f → Dl.atKey (klF f) (.lit (.int .i64 0)) = .lit (.int .i64 (lenOf (at_ l) f))
  fil : ∀ f, I64F f → (Maps.has Dl (klF f) = true ↔ ∃ i, (f, i) ∈ at_ l)
theorem lenOf_snoc (p : List (Fl × Int)) (f g : Fl) (i : Int) (hp : 0 ≤ i) : lenOf (p ++ [(f, i)]) g = if f = g then max (lenOf p g) (i + 1) else lenOf p g := by
  induction p with
  | nil =>
    show (if f = g then max (i + 1) 0 else 0) = if f = g then max 0 (i + 1) else 0
    split <;> omega
  | cons q r ih =>
    rw [List.cons_append, lenOf, lenOf, ih]
    split
    · split <;> omega
    · rfl
theorem lenOf_put (l : List Bk) (f g : Fl) (i : Int) (bs : List Int) (hi : 0 ≤ i) : lenOf (at_ (put l f i bs)) g = if f = g then max (lenOf (at_ l) g) (i + 1) else lenOf (at_ l) g := by
  rw [at_put]
  split
  · rename_i h
    split
    · rename_i e
      subst e
      have hm : (f, i) ∈ at_ l := by
        cases hx : Go.Proofs.Ytdjhlpllffakpaa.has l f i with
        | none => rw [hx] at h; cases h
        | some bs' => exact List.mem_map.2 ⟨_, has_mem hx, rfl⟩
      have := lenOf_le hm
      omega
    · rfl
  · exact lenOf_snoc _ _ _ _ hi
theorem mem_at_put (l : List Bk) (f g : Fl) (i j : Int) (bs : List Int) : (g, j) ∈ at_ (put l f i bs) ↔ (g, j) ∈ at_ l ∨ (g = f ∧ j = i) := by
  rw [at_put]
  split
  · rename_i h
    constructor
    · exact Or.inl
    · rintro (h1 | ⟨rfl, rfl⟩)
      · exact h1
      · cases hx : Go.Proofs.Ytdjhlpllffakpaa.has l g j with
        | none => rw [hx] at h; cases h
        | some bs' => exact List.mem_map.2 ⟨_, has_mem hx, rfl⟩
  · rw [List.mem_append, List.mem_singleton, Prod.mk.injEq]
theorem keyLit (f : Fl) : WideAt.IsKeyLit (klF f) := trivial
theorem keyLitP (f : Fl) (i : Int) : WideAt.IsKeyLit (klP f i) := trivial
/-- Behind a write. -/
theorem Holds2.put {l : List Bk} {Db Dl : DataW Unit} (h : Holds2 l Db Dl) (hb : IsMap Db) (hl : IsMap Dl) {f : Fl} {i : Int} {bs : List Int} (hf : I64F f) (hi : I64 i) (hi0 : 0 ≤ i) :
    Holds2 (put l f i bs) (Db.put (klP f i) (dat bs)) (Dl.put (klF f) (.lit (.int .i64 (max (lenOf (at_ l) f) (i + 1))))) := by
  refine ⟨fun g j hgf hgj => ?_, fun g hgf => ?_, fun g hgf => ?_⟩
  · by_cases e : f = g ∧ i = j
    · obtain ⟨rfl, rfl⟩ := e
      rw [atKey_put_same hb (keyLitP _ _), has_put_same]
      rfl
    · rw [atKey_put_other (fun e2 => e ?_), Go.Proofs.Ytdjhlpllffakpaa.has_put_other _ _ _ _ _ _ e]
      · exact h.blk g j hgf hgj
      · obtain ⟨h1, h2⟩ := klP_inj hgf hgj hf hi e2
        exact ⟨h1.symm, h2.symm⟩
  · rw [lenOf_put l f g i bs hi0]
    by_cases e : f = g
    · subst e
      rw [atKey_put_same hl (keyLit _), if_pos rfl]
    · rw [atKey_put_other (fun e2 => e (klF_inj hgf hf e2).symm), if_neg e]
      exact h.len g hgf
  · by_cases e : f = g
    · subst e
      rw [Maps.has_put_same hl (keyLit _)]
      exact ⟨fun _ => ⟨i, (mem_at_put _ _ _ _ _ _).2 (Or.inr ⟨rfl, rfl⟩)⟩, fun _ => rfl⟩
    · rw [Maps.has_put_other (fun e2 => e (klF_inj hgf hf e2).symm), h.fil g hgf]
      constructor
      · rintro ⟨j, hj⟩
        exact ⟨j, (mem_at_put _ _ _ _ _ _).2 (Or.inl hj)⟩
      · rintro ⟨j, hj⟩
        rcases (mem_at_put _ _ _ _ _ _).1 hj with h1 | ⟨h1, _⟩
        · exact ⟨j, h1⟩
        · exact absurd h1.symm e
theorem Holds2.empty : Holds2 [] (.map []) (.map []) := ⟨fun _ _ _ _ => rfl, fun _ _ => rfl, fun f _ => ⟨fun h => (by cases h), fun h => (by obtain ⟨i, h⟩ := h; simp [at_] at h)⟩⟩
end Go.Proofs.Ytdjhlpllffakpaa
