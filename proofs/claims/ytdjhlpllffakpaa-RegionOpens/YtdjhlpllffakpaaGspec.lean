/-
  What is asked of a region, as a structure: the laws are walked over it.
-/
import Derived.Test.YtdjhlpllffakpaaHold
import Derived.Test.YtdjhlpllffakpaaGmath
set_option maxRecDepth 20000
namespace Go.Proofs.Ytdjhlpllffakpaa
open Go.RowKit

/-! ### memory -/
/-- What was there and is not F's is as it was, and is not F's behind it. -/
structure Stp (F : Nat → Prop) (w : World) (F' : Nat → Prop) (w' : World) : Prop where
  os : w'.os = w.os
  tape : w'.tape = w.tape
  output : w'.output = w.output
  size : w.heap.size ≤ w'.heap.size
  block : ∀ b, b < w.heap.size → ¬ F b → w'.heap[b]? = w.heap[b]? ∧ ¬ F' b
theorem Stp.trans {F F' F'' : Nat → Prop} {a b c : World} (h : Stp F a F' b) (k : Stp F' b F'' c) : Stp F a F'' c :=
  ⟨k.os.trans h.os, k.tape.trans h.tape, k.output.trans h.output, Nat.le_trans h.size k.size, fun x hx hf => by
    have h1 := h.block x hx hf
    have h2 := k.block x (Nat.lt_of_lt_of_le hx h.size) h1.2
    exact ⟨h2.1.trans h1.1, h2.2⟩⟩
theorem Stp.below {F : Nat → Prop} {w w' : World} (hb : Below w.heap.size w w') : Stp F w F w' := ⟨hb.os, hb.tape, hb.output, hb.size, fun b hb' hf => ⟨hb.block b hb', hf⟩⟩
theorem Stp.chg {F F' : Nat → Prop} {w w' : World} (h : Chg F w w') (hF : ∀ k, F' k → F k ∨ w.heap.size ≤ k) : Stp F w F' w' :=
  ⟨h.os, h.tape, h.output, h.size, fun b hb hf => ⟨h.block b hb hf, fun hk => (hF b hk).elim hf (fun h1 => by omega)⟩⟩
theorem Stp.toBelow {F F' : Nat → Prop} {w w' : World} {B : Nat} (h : Stp F w F' w') (hF : ∀ k, F k → B ≤ k) (hB : B ≤ w.heap.size) : Below B w w' :=
  ⟨h.os, h.tape, h.output, h.size, fun k hk => (h.block k (by omega) (fun hf => by have := hF k hf; omega)).1⟩
/-- Spans in a slice, wherever it lies. -/
def spc (x : Sp) : List Value := [.int .i64 (x.1 : Int), .int .i64 (x.2 : Int)]
def spCells (l : List Sp) : List Value := l.flatMap spc
theorem spCells_len (l : List Sp) : (spCells l).length = l.length * 2 := by
  induction l with
  | nil => rfl
  | cons x r ih =>
    show (spc x ++ spCells r).length = _
    rw [List.length_append, ih, List.length_cons]
    simp only [spc, List.length_cons, List.length_nil]
    omega
theorem spCells_at : ∀ (l : List Sp) (k : Nat) (h : k < l.length), (spCells l)[k * 2]? = some (.int .i64 (l[k].1 : Int)) ∧ (spCells l)[k * 2 + 1]? = some (.int .i64 (l[k].2 : Int))
  | [], k, h => absurd h (Nat.not_lt_zero _)
  | x :: r, 0, _ => ⟨rfl, rfl⟩
  | x :: r, k + 1, h => by
    have ih := spCells_at r k (by simpa using h)
    have e : spCells (x :: r) = spc x ++ spCells r := rfl
    rw [e, List.getElem?_append_right (by simp [spc]; omega), List.getElem?_append_right (by simp [spc]; omega), show (k + 1) * 2 - (spc x).length = k * 2 by simp [spc]; omega, show (k + 1) * 2 + 1 - (spc x).length = k * 2 + 1 by simp [spc]; omega]
    simpa using ih
def SpsAt (w : World) (a : Option Addr) (l : List Sp) : Prop := l = [] ∨ ∃ b off, a = some ⟨b, off, none⟩ ∧ ∀ j u, (spCells l)[j]? = some u → w.cell? ⟨b, off + j, none⟩ = some u
theorem SpsAt.at {w : World} {a : Option Addr} {l : List Sp} (H : SpsAt w a l) (k : Nat) (h : k < l.length) : ∃ b off, a = some ⟨b, off, none⟩ ∧ w.cell? ⟨b, off + k * 2, none⟩ = some (.int .i64 (l[k].1 : Int)) ∧ w.cell? ⟨b, off + k * 2 + 1, none⟩ = some (.int .i64 (l[k].2 : Int)) := by
  rcases H with rfl | ⟨b, off, e, hc⟩
  · exact absurd h (Nat.not_lt_zero _)
  · have := spCells_at l k h
    exact ⟨b, off, e, hc _ _ this.1, by have := hc _ _ this.2; rwa [← Nat.add_assoc] at this⟩
theorem SpsAt.on {w w' : World} {a : Option Addr} {l : List Sp} (H : SpsAt w a l) (hb : Below w.heap.size w w') : SpsAt w' a l := by
  rcases H with h | ⟨b, off, e, hc⟩
  · exact .inl h
  · exact .inr ⟨b, off, e, fun j u hj => (hb.cell (p := ⟨b, off + j, none⟩) (World.block_lt_of_cell? w _ (hc j u hj))).trans (hc j u hj)⟩
/-- One change in memory. -/
structure Cg where
  s : Int
  a : Option Addr
  n : Nat
  c : Nat
  b : List Int
def Cg.cs (c : Cg) : Cs := ⟨c.s, c.b⟩
structure CgAt (w : World) (b off k : Nat) (o : Cg) : Prop where
  c0 : w.cell? ⟨b, off + k * 2, none⟩ = some (.int .i64 o.s)
  c1 : w.cell? ⟨b, off + k * 2 + 1, none⟩ = some (.slice o.a o.n o.c)
  by_ : Bytes w o.a o.n o.b
  nil : o.a = none → o.c = 0
  bd : I64 o.s
  sz : o.n ≤ 140737488351232
def CgsAt (w : World) (a : Option Addr) (l : List Cg) : Prop := ∀ k (h : k < l.length), ∃ b off, a = some ⟨b, off, none⟩ ∧ CgAt w b off k l[k]
theorem Bytes.on {w w' : World} {a : Option Addr} {n : Nat} {xs : List Int} (h : Bytes w a n xs) (hb : Below w.heap.size w w') : Bytes w' a n xs := h.later hb
theorem cell_below {w w' : World} {b j : Nat} {v : Value} (hv : w.cell? ⟨b, j, none⟩ = some v) (hb : Below w.heap.size w w') : w'.cell? ⟨b, j, none⟩ = some v :=
  (hb.cell (p := ⟨b, j, none⟩) (World.block_lt_of_cell? w _ hv)).trans hv
theorem CgsAt.on {w w' : World} {a : Option Addr} {l : List Cg} (H : CgsAt w a l) (hb : Below w.heap.size w w') : CgsAt w' a l := fun k h => by
  obtain ⟨b, off, e, h1⟩ := H k h
  exact ⟨b, off, e, cell_below h1.c0 hb, cell_below h1.c1 hb, h1.by_.on hb, h1.nil, h1.bd, h1.sz⟩
/-- The blocks of a plan in memory. -/
structure PbAt (w : World) (b off k : Nat) (f : Fl) (o : Pb) : Prop where
  c0 : w.cell? ⟨b, off + k * 5, none⟩ = some (.int .i64 f.1)
  c1 : w.cell? ⟨b, off + k * 5 + 1, none⟩ = some (.int .i64 f.2.1)
  c2 : w.cell? ⟨b, off + k * 5 + 2, none⟩ = some (.int .i64 f.2.2)
  c3 : w.cell? ⟨b, off + k * 5 + 3, none⟩ = some (.int .i64 (o.i : Int))
  c4 : w.cell? ⟨b, off + k * 5 + 4, none⟩ = some (.slice o.a 32 o.c)
  by_ : Bytes w o.a 32 o.b
def PbsAt (w : World) (a : Option Addr) (f : Fl) (l : List Pb) : Prop := ∀ k (h : k < l.length), ∃ b off, a = some ⟨b, off, none⟩ ∧ PbAt w b off k f l[k]
/-- They stay as long as F's blocks do. -/
structure PbsF (F : Nat → Prop) (w : World) (a : Option Addr) (f : Fl) (l : List Pb) : Prop where
  at_ : ∀ w', (∀ k, F k → w'.heap[k]? = w.heap[k]?) → PbsAt w' a f l
  lt : ∀ k, F k → k < w.heap.size
theorem PbsF.keep {F : Nat → Prop} {w w' : World} {a : Option Addr} {f : Fl} {l : List Pb} (H : PbsF F w a f l) (hk : ∀ k, F k → w'.heap[k]? = w.heap[k]?) (hs : w.heap.size ≤ w'.heap.size) : PbsF F w' a f l :=
  ⟨fun w'' h => H.at_ w'' (fun k hF => (h k hF).trans (hk k hF)), fun k hF => Nat.lt_of_lt_of_le (H.lt k hF) hs⟩
/-- What a plan's blocks are. -/
structure PsOk (l : List Pb) : Prop where
  ok : ∀ p ∈ l, p.i < 40 ∧ p.b.length = 32 ∧ ∀ z ∈ p.b, 0 ≤ z ∧ z ≤ 255
  once : (l.map (·.i)).Nodup
/-! ### the header -/
def entS (b : List Int) : List (Sp × Nat) := (List.range 16).map fun k => (((b.getD (4 * k) 0).toNat, (b.getD (4 * k + 1) 0).toNat), (b.getD (4 * k + 2) 0).toNat + 256 * (b.getD (4 * k + 3) 0).toNat)
def entOk (h : Sp × Nat) : Prop := h = ((0, 0), 0) ∨ (1 ≤ h.2 ∧ h.1.2 = needS h.2 ∧ 2 ≤ h.1.1 ∧ h.1.1 + h.1.2 ≤ 40)
structure HdOk (hs : List (Sp × Nat)) : Prop where
  ok : ∀ h ∈ hs, entOk h
  once : ∀ i, cnt (hs.map (·.1)) i ≤ 1
def headS (l : List Bk) (x z : Int) : List (Sp × Nat) := entS (blks l (2, x, z) 0 2)
def rhoS (l : List Bk) (x z : Int) : Rho := ⟨x, z, (headS l x z).map (·.1), (headS l x z).map fun h => (blks l (2, x, z) h.1.1 h.1.2).take h.2⟩
def getS (ρ : Rho) (i : Int) : List Int := if 0 ≤ i ∧ i < 16 then ρ.dat.getD i.toNat [] else []
/-! ### what is asked -/
structure RSpec where
  /-- A region in memory, within F. -/
  RG : (Nat → Prop) → World → Nat → Rho → Prop
  rg_keep : ∀ {F w w' g ρ}, RG F w g ρ → (∀ k, F k → w'.heap[k]? = w.heap[k]?) → w.heap.size ≤ w'.heap.size → RG F w' g ρ
  rg_good : ∀ {F w g ρ}, RG F w g ρ → GoodR ρ.sp ρ.dat ∧ I64 ρ.x ∧ I64 ρ.z
  rg_lt : ∀ {F w g ρ}, RG F w g ρ → ∀ k, F k → k < w.heap.size
  need_ : ∀ (n : Int) (w : World), I64 n → n ≤ 1099511627776 → Calls Try.prog 10 #[.int .i64 n] w fun e w' => e = .returned (.int .i64 (needI n)) ∧ Below w.heap.size w w'
  open_ : ∀ (Fd : Nat → Prop) (d : Nat) (S : St) (x z : Int) (w : World), I64 x → I64 z → PDisk Fd w d S → (∀ k, Fd k → k < w.heap.size) →
    Calls Try.prog 15 #[.pointer (some ⟨d, 0, none⟩), .int .i64 x, .int .i64 z] w fun e w' => Below w.heap.size w w' ∧
      ((S.out = true ∧ e = .returned (.tuple #[.pointer none, .int .i64 8])) ∨ (S.out = false ∧ ¬ HdOk (headS S.l x z) ∧ e = .returned (.tuple #[.pointer none, .int .i64 4])) ∨
       (S.out = false ∧ HdOk (headS S.l x z) ∧ ∃ g F, e = .returned (.tuple #[.pointer (some ⟨g, 0, none⟩), .int .i64 0]) ∧ RG F w' g (rhoS S.l x z) ∧ ∀ k, F k → w.heap.size ≤ k))
  get_ : ∀ (F : Nat → Prop) (g : Nat) (ρ : Rho) (i : Int) (w : World), I64 i → RG F w g ρ →
    Calls Try.prog 22 #[.pointer (some ⟨g, 0, none⟩), .int .i64 i] w fun e w' => Below w.heap.size w w' ∧ ∃ a c, e = .returned (.slice a (getS ρ i).length c) ∧ Bytes w' a (getS ρ i).length (getS ρ i)
  live_ : ∀ (F : Nat → Prop) (g : Nat) (ρ : Rho) (w : World), RG F w g ρ →
    Calls Try.prog 24 #[.pointer (some ⟨g, 0, none⟩)] w fun e w' => Below w.heap.size w w' ∧ ∃ a c, e = .returned (.slice a ρ.sp.length c) ∧ SpsAt w' a ρ.sp ∧ (a = none → c = 0)
  free_ : ∀ (F : Nat → Prop) (g : Nat) (ρ : Rho) (w : World), RG F w g ρ →
    Calls Try.prog 23 #[.pointer (some ⟨g, 0, none⟩)] w fun e w' => Below w.heap.size w w' ∧ ∃ a c, e = .returned (.slice a (freeR ρ.sp).length c) ∧ SpsAt w' a (freeR ρ.sp) ∧ (a = none → c = 0)
  plan_ : ∀ (F : Nat → Prop) (g : Nat) (ρ : Rho) (a : Option Addr) (n c : Nat) (l : List Cg) (w : World), RG F w g ρ → CgsAt w a l → l.length = n → n ≤ maxLen →
    Calls Try.prog 18 #[.pointer (some ⟨g, 0, none⟩), .slice a n c] w fun e w' => Below w.heap.size w w' ∧
      (((planS ρ.dat (l.map Cg.cs)).1 ≠ 0 ∧ ∃ pa pc, e = .returned (.tuple #[.slice pa 0 pc, .pointer none, .int .i64 (planS ρ.dat (l.map Cg.cs)).1])) ∨
       ((planS ρ.dat (l.map Cg.cs)).1 = 0 ∧ ∃ pa pc g' F' sp' ps, e = .returned (.tuple #[.slice pa ps.length pc, .pointer (some ⟨g', 0, none⟩), .int .i64 0]) ∧
         RG F' w' g' ⟨ρ.x, ρ.z, sp', (planS ρ.dat (l.map Cg.cs)).2⟩ ∧ PbsF F' w' pa ρ.file ps ∧ (∀ k, F' k → F k ∨ w.heap.size ≤ k) ∧ PsOk ps ∧
         ∀ L, Good L → OnD L ρ → OnD (putAll ρ.file L ps) ⟨ρ.x, ρ.z, sp', (planS ρ.dat (l.map Cg.cs)).2⟩))
end Go.Proofs.Ytdjhlpllffakpaa
