/-
  Diff, of the document: the places at which two rows of bytes have others.
  Whole chunks held against each other, and Diff of the program.
-/
import Derived.Test.YtbdjgaagafnfaaaGreatCChunks
import Derived.Deep.QuietTactic
import Derived.OwnWalk
import Derived.Maps.AppendAt
import Derived.Test.YtbdjgaagafnfaaaGreatCAwake
import Derived.Laws.StructEq
namespace Go.Proofs.YtbdjgaagafnfaaaGreat.C
section
open Go.RowKit

/-- The places below n at which the two differ. -/
def diffTo (xs ys : List Int) : Nat → List Int
  | 0 => []
  | n + 1 => if xs.getD n 0 = ys.getD n 0 then diffTo xs ys n else diffTo xs ys n ++ [(n : Int)]
theorem diffTo_length (xs ys : List Int) : ∀ n, (diffTo xs ys n).length ≤ n
  | 0 => Nat.le_refl _
  | n + 1 => by
    have := diffTo_length xs ys n
    unfold diffTo
    split
    · omega
    · rw [List.length_append, List.length_singleton]; omega
def Ints (w : World) (base : Nat) (v : Value) (l : List Int) : Prop := w.ownsRow base 3 1 v l.length (l.map (Value.int .i64))
end
section
open Go.RowKit

theorem all_range_ints : ∀ (xs ys : List Int), xs.length = ys.length → ((List.range xs.length).all fun i => xs.getD i 0 == ys.getD i 0) = (xs == ys)
  | [], [], _ => rfl
  | x :: xs, y :: ys, h => by
    have ih := all_range_ints xs ys (by simpa using h)
    rw [List.length_cons, List.range_succ_eq_map, List.all_cons, List.all_map]
    simp only [List.getD_cons_zero, Function.comp_def, List.getD_cons_succ, ih]
    simp [List.cons_beq_cons]
  | [], _ :: _, h => by simp at h
  | _ :: _, [], h => by simp at h

theorem equalIn_vals (d : Nat) (t e : TypeId) (n : Nat) (ht : Tryz.prog.underlying t = some (.array n e)) (he : Tryz.prog.underlying e = some (.int .u8)) (hsz : ∀ w, (sizeOf e).run Tryz.prog w = .ok 1 w)
    (xs ys : List Int) (hx : xs.length = n) (hy : ys.length = n) (w : World) :
    (Op.equalIn (d + 2) t (.agg (vals xs)) (.agg (vals ys))).run Tryz.prog w = .ok (xs == ys) w := by
  rw [← all_range_ints xs ys (hx.trans hy.symm), hx, List.range_eq_range', Op.equalIn]
  simp only [Sem.run_bind, run_underlying ht, Result.andThen_ok, hsz, Std.Legacy.Range.forIn_eq_forIn_range', Std.Legacy.Range.size, Nat.sub_zero, Nat.add_sub_cancel, Nat.div_one]
  have hl : ∀ i ∈ List.range' 0 n 1, i < n := fun i hi => by simpa using (List.mem_range'_1.1 hi).2
  generalize List.range' 0 n 1 = l at hl ⊢
  induction l with
  | nil => simp
  | cons i l ih =>
    have hi : i < n := hl i (by simp)
    have px : (part e (vals xs) (i * 1)).run Tryz.prog w = .ok (.int .u8 (xs.getD i 0)) w := by
      simp [part, isAgg, run_underlying he, vals, List.getD, List.getElem?_eq_getElem (show i < xs.length by omega)]
    have py : (part e (vals ys) (i * 1)).run Tryz.prog w = .ok (.int .u8 (ys.getD i 0)) w := by
      simp [part, isAgg, run_underlying he, vals, List.getD, List.getElem?_eq_getElem (show i < ys.length by omega)]
    have pe : (Op.equalIn (d + 1) e (.int .u8 (xs.getD i 0)) (.int .u8 (ys.getD i 0))).run Tryz.prog w = .ok (xs.getD i 0 == ys.getD i 0) w := run_equalIn_int w d e .u8 .u8 _ _ he
    simp only [List.forIn_cons, Sem.run_bind, px, py, pe, Result.andThen_ok, List.all_cons]
    cases hb : (xs.getD i 0 == ys.getD i 0)
    · simp
    · simp only [Bool.not_true, Bool.false_eq_true, if_false, Sem.run_pure, Result.andThen_ok, Bool.true_and]
      exact ih fun j hj => hl j (by simp [hj])

theorem fields58 : (Tryz.prog.fieldsOf 58).toList.map (fun f => (f.name, f.type, f.offset)) = [("cells", 56, 0)] := by kernel_rfl
theorem stood58 : Tryz.prog.stoodInHeld 58 = false := by kernel_rfl
theorem under58 : Tryz.prog.underlying 58 = some (.struct (Tryz.prog.fieldsOf 58)) := by kernel_rfl
theorem guard58 : Tryz.prog.eqGuardType Tryz.prog.depth 58 = false := by kernel_rfl
theorem under56' : Tryz.prog.underlying 56 = some (.array 32768 5) := by kernel_rfl
theorem size56 (w : World) : (sizeOf 56).run Tryz.prog w = .ok 32768 w := by kernel_rfl
theorem part56 (xs : List Int) (hx : xs.length = 32768) (w : World) : (part 56 (vals xs) 0).run Tryz.prog w = .ok (.agg (vals xs)) w := by
  have e : (vals xs).extract 0 (0 + 32768) = vals xs := by
    rw [Nat.zero_add, ← hx, ← vals_size, Array.extract_size]
  simp only [part, isAgg, Sem.run_bind, run_underlying under56', Result.andThen_ok, Sem.run_pure, if_true, size56, e]
theorem eql58 (xs ys : List Int) (hx : xs.length = 32768) (hy : ys.length = 32768) (w : World) : (binOp .eql 58 (.agg (vals xs)) (.agg (vals ys))).run Tryz.prog w = .ok (.bool (xs == ys)) w := by
  rw [run_eql_struct, run_equalIn_struct w 9999 58 _ _ under58 stood58]
  have hf := fields58
  generalize (Tryz.prog.fieldsOf 58).toList = fs at hf
  rcases fs with _ | ⟨f, _ | ⟨f2, fs⟩⟩
  · simp at hf
  · simp only [List.map_cons, List.map_nil, List.cons.injEq, Prod.mk.injEq, and_true] at hf
    obtain ⟨h1, h2, h3⟩ := hf
    have hne : f.name ≠ "_" := by rw [h1]; decide
    unfold Op.eqFields
    rw [if_pos hne, h2, h3]
    simp only [Sem.run_bind, part56 xs hx, part56 ys hy, Result.andThen_ok, equalIn_vals 9997 56 5 32768 under56' Tryz.underlying5 sizeOf5 xs ys hx hy w]
    cases xs == ys <;> simp [Op.eqFields]
  · simp at hf

/-- An operation that yields a value in each world of the class. -/
theorem wpQuiet_value {P : Program} {ops : Array Oper} {C : World → Prop} {Q : Act → Prop} {a : Act} {o : Oper} {rest : List Oper} (hw : Region.wanted o (yielded ops a.tmps) = true) (v : Value)
    (hv : ∀ w, C w → (execOp a.eval o).run P w = .ok (.value v) w) (h : wpQuiet P ops C Q rest (a.put o.dst v)) : wpQuiet P ops C Q (o :: rest) a := by
  show if Region.wanted o (yielded ops a.tmps) = true then o.quiet P a C _ else _
  rw [if_pos hw]
  exact ⟨v, fun w hC => by unfold Oper.quietAt; rw [hv w hC]; exact ⟨rfl, rfl⟩, h⟩
theorem exec_load {o : Oper} {ρ : Operand → Value} {ty : TypeId} {x : Operand} {p v : Value} {w : World} (ho : o.op = .load ty x) (hx : ρ x = p) (h : (Instr.loadAt ty p).run Tryz.prog w = .ok v w) :
    (execOp ρ o).run Tryz.prog w = .ok (.value v) w := by
  unfold execOp
  simp only [ho, hx, Sem.run_bind, h, Result.andThen_ok, Sem.run_pure]
theorem exec_eql {o : Oper} {ρ : Operand → Value} {x y : Operand} {xs ys : List Int} (w : World) (ho : o.op = .binOp .eql 58 x y 58) (h1 : ρ x = .agg (vals xs)) (h2 : ρ y = .agg (vals ys)) (hx : xs.length = 32768) (hy : ys.length = 32768) :
    (execOp ρ o).run Tryz.prog w = .ok (.value (.bool (xs == ys))) w := by
  unfold execOp
  simp only [ho, h1, h2, Sem.run_bind, run_eqGuard_agg w .eql 58 x y (vals xs) (vals ys) guard58, eql58 xs ys hx hy w, Result.andThen_ok, Sem.run_pure]
theorem Blk.load {w : World} {g : Nat} {cs : List Int} (h : Blk w g 58 cs) (hl : cs.length = 32768) : (Instr.loadAt 58 (.pointer (some ⟨g, 0, none⟩))).run Tryz.prog w = .ok (.agg (vals cs)) w := by
  have hr := h.range
  have hi : (Tryz.prog.info? 58).map (·.size) = some (cs.map (Value.int .u8)).length := by rw [size58, List.length_map, hl]
  have hv : (cs.map (Value.int .u8)).toArray = vals cs := rfl
  generalize cs.map (Value.int .u8) = L at *
  rw [← hv]
  exact run_loadAt_mid w g 0 58 L (.struct (Tryz.prog.fieldsOf 58)) hr under58 (by unfold TypeDesc.isRow; rfl) hi

theorem diffTo_self (xs : List Int) : ∀ n, diffTo xs xs n = []
  | 0 => rfl
  | n + 1 => by unfold diffTo; rw [if_pos rfl, diffTo_self xs n]
end
end Go.Proofs.YtbdjgaagafnfaaaGreat.C
