/-
  Diff, of the document: the places at which two rows of bytes have others.
  Whole chunks held against each other, and Diff of the program.
-/
import Derived.Test.YtbdjgaagafnfaaaCChunks
import Derived.Deep.QuietTactic
import Derived.OwnWalk
import Derived.Maps.AppendAt
import Derived.Test.YtbdjgaagafnfaaaCAwake
import Derived.Laws.StructEq
namespace Go.Proofs.Ytbdjgaagafnfaaa.C
section
open Go.RowKit

/-- The places below n at which the two differ. -/
def diffTo (xs ys : List Int) : Nat → List Int
  | 0 => []
  | n + 1 => if xs.getD n 0 = ys.getD n 0 then diffTo xs ys n else diffTo xs ys n ++ [(n : Int)]
theorem diffTo_length (xs ys : List Int) : ∀ n, (diffTo xs ys n).length ≤ n
  | 0 => Nat.le_refl _
  | n + 1 => by
    have := diffTo_length xs ys n
    unfold diffTo
    split
    · omega
    · rw [List.length_append, List.length_singleton]; omega
def Ints (w : World) (base : Nat) (v : Value) (l : List Int) : Prop := w.ownsRow base 3 1 v l.length (l.map (Value.int .i64))
end
section
open Go.RowKit

theorem all_range_ints : ∀ (xs ys : List Int), xs.length = ys.length → ((List.range xs.length).all fun i => xs.getD i 0 == ys.getD i 0) = (xs == ys)
  | [], [], _ => rfl
  | x :: xs, y :: ys, h => by
    have ih := all_range_ints xs ys (by simpa using h)
    rw [List.length_cons, List.range_succ_eq_map, List.all_cons, List.all_map]
    simp only [List.getD_cons_zero, Function.comp_def, List.getD_cons_succ, ih]
    simp [List.cons_beq_cons]
  | [], _ :: _, h => by simp at h
  | _ :: _, [], h => by simp at h

theorem equalIn_vals (d : Nat) (t e : TypeId) (n : Nat) (ht : Try.prog.underlying t = some (.array n e)) (he : Try.prog.underlying e = some (.int .u8)) (hsz : ∀ w, (sizeOf e).run Try.prog w = .ok 1 w)
    (xs ys : List Int) (hx : xs.length = n) (hy : ys.length = n) (w : World) :
    (Op.equalIn (d + 2) t (.agg (vals xs)) (.agg (vals ys))).run Try.prog w = .ok (xs == ys) w := by
  rw [← all_range_ints xs ys (hx.trans hy.symm), hx, List.range_eq_range', Op.equalIn]
  simp only [Sem.run_bind, run_underlying ht, Result.andThen_ok, hsz, Std.Legacy.Range.forIn_eq_forIn_range', Std.Legacy.Range.size, Nat.sub_zero, Nat.add_sub_cancel, Nat.div_one]
  have hl : ∀ i ∈ List.range' 0 n 1, i < n := fun i hi => by simpa using (List.mem_range'_1.1 hi).2
  generalize List.range' 0 n 1 = l at hl ⊢
  induction l with
  | nil => simp
  | cons i l ih =>
    have hi : i < n := hl i (by simp)
    have px : (part e (vals xs) (i * 1)).run Try.prog w = .ok (.int .u8 (xs.getD i 0)) w := by
      simp [part, isAgg, run_underlying he, vals, List.getD, List.getElem?_eq_getElem (show i < xs.length by omega)]
    have py : (part e (vals ys) (i * 1)).run Try.prog w = .ok (.int .u8 (ys.getD i 0)) w := by
      simp [part, isAgg, run_underlying he, vals, List.getD, List.getElem?_eq_getElem (show i < ys.length by omega)]
    have pe : (Op.equalIn (d + 1) e (.int .u8 (xs.getD i 0)) (.int .u8 (ys.getD i 0))).run Try.prog w = .ok (xs.getD i 0 == ys.getD i 0) w := run_equalIn_int w d e .u8 .u8 _ _ he
    simp only [List.forIn_cons, Sem.run_bind, px, py, pe, Result.andThen_ok, List.all_cons]
    cases hb : (xs.getD i 0 == ys.getD i 0)
    · simp
    · simp only [Bool.not_true, Bool.false_eq_true, if_false, Sem.run_pure, Result.andThen_ok, Bool.true_and]
      exact ih fun j hj => hl j (by simp [hj])

theorem fields74 : (Try.prog.fieldsOf 74).toList.map (fun f => (f.name, f.type, f.offset)) = [("cells", 72, 0)] := by kernel_rfl
theorem stood74 : Try.prog.stoodInHeld 74 = false := by kernel_rfl
theorem under74 : Try.prog.underlying 74 = some (.struct (Try.prog.fieldsOf 74)) := by kernel_rfl
theorem guard74 : Try.prog.eqGuardType Try.prog.depth 74 = false := by kernel_rfl
theorem under72' : Try.prog.underlying 72 = some (.array 32768 5) := by kernel_rfl
theorem size72 (w : World) : (sizeOf 72).run Try.prog w = .ok 32768 w := by kernel_rfl
theorem part72 (xs : List Int) (hx : xs.length = 32768) (w : World) : (part 72 (vals xs) 0).run Try.prog w = .ok (.agg (vals xs)) w := by
  have e : (vals xs).extract 0 (0 + 32768) = vals xs := by
    rw [Nat.zero_add, ← hx, ← vals_size, Array.extract_size]
  simp only [part, isAgg, Sem.run_bind, run_underlying under72', Result.andThen_ok, Sem.run_pure, if_true, size72, e]
theorem eql74 (xs ys : List Int) (hx : xs.length = 32768) (hy : ys.length = 32768) (w : World) : (binOp .eql 74 (.agg (vals xs)) (.agg (vals ys))).run Try.prog w = .ok (.bool (xs == ys)) w := by
  rw [run_eql_struct, run_equalIn_struct w 9999 74 _ _ under74 stood74]
  have hf := fields74
  generalize (Try.prog.fieldsOf 74).toList = fs at hf
  rcases fs with _ | ⟨f, _ | ⟨f2, fs⟩⟩
  · simp at hf
  · simp only [List.map_cons, List.map_nil, List.cons.injEq, Prod.mk.injEq, and_true] at hf
    obtain ⟨h1, h2, h3⟩ := hf
    have hne : f.name ≠ "_" := by rw [h1]; decide
    unfold Op.eqFields
    rw [if_pos hne, h2, h3]
    simp only [Sem.run_bind, part72 xs hx, part72 ys hy, Result.andThen_ok, equalIn_vals 9997 72 5 32768 under72' Try.underlying5 sizeOf5 xs ys hx hy w]
    cases xs == ys <;> simp [Op.eqFields]
  · simp at hf

/-- An operation that yields a value in each world of the class. -/
theorem wpQuiet_value {P : Program} {ops : Array Oper} {C : World → Prop} {Q : Act → Prop} {a : Act} {o : Oper} {rest : List Oper} (hw : Region.wanted o (yielded ops a.tmps) = true) (v : Value)
    (hv : ∀ w, C w → (execOp a.eval o).run P w = .ok (.value v) w) (h : wpQuiet P ops C Q rest (a.put o.dst v)) : wpQuiet P ops C Q (o :: rest) a := by
  show if Region.wanted o (yielded ops a.tmps) = true then o.quiet P a C _ else _
  rw [if_pos hw]
  exact ⟨v, fun w hC => by unfold Oper.quietAt; rw [hv w hC]; exact ⟨rfl, rfl⟩, h⟩
theorem exec_load {o : Oper} {ρ : Operand → Value} {ty : TypeId} {x : Operand} {p v : Value} {w : World} (ho : o.op = .load ty x) (hx : ρ x = p) (h : (Instr.loadAt ty p).run Try.prog w = .ok v w) :
    (execOp ρ o).run Try.prog w = .ok (.value v) w := by
  unfold execOp
  simp only [ho, hx, Sem.run_bind, h, Result.andThen_ok, Sem.run_pure]
theorem exec_eql {o : Oper} {ρ : Operand → Value} {x y : Operand} {xs ys : List Int} (w : World) (ho : o.op = .binOp .eql 74 x y 74) (h1 : ρ x = .agg (vals xs)) (h2 : ρ y = .agg (vals ys)) (hx : xs.length = 32768) (hy : ys.length = 32768) :
    (execOp ρ o).run Try.prog w = .ok (.value (.bool (xs == ys))) w := by
  unfold execOp
  simp only [ho, h1, h2, Sem.run_bind, run_eqGuard_agg w .eql 74 x y (vals xs) (vals ys) guard74, eql74 xs ys hx hy w, Result.andThen_ok, Sem.run_pure]
theorem Blk.load {w : World} {g : Nat} {cs : List Int} (h : Blk w g 74 cs) (hl : cs.length = 32768) : (Instr.loadAt 74 (.pointer (some ⟨g, 0, none⟩))).run Try.prog w = .ok (.agg (vals cs)) w := by
  have hr := h.range
  have hi : (Try.prog.info? 74).map (·.size) = some (cs.map (Value.int .u8)).length := by rw [size74, List.length_map, hl]
  have hv : (cs.map (Value.int .u8)).toArray = vals cs := rfl
  generalize cs.map (Value.int .u8) = L at *
  rw [← hv]
  exact run_loadAt_mid w g 0 74 L (.struct (Try.prog.fieldsOf 74)) hr under74 (by unfold TypeDesc.isRow; rfl) hi

set_option maxRecDepth 100000 in
set_option maxHeartbeats 1600000 in
theorem diff_nil (g : Nat) (w : World) : Calls Try.prog 19 #[.pointer (some ⟨g, 0, none⟩), .pointer none] w fun e w' => e = .returned (.slice none 0 0) ∧ ∃ n, w' = w.drewN n := by
  go_enter Try.func19, Try.ntmps19
  go_wp2_with fail
  go_quiet (fail)
  go_wp2
  go_ret
  exact ⟨rfl, _, rfl⟩

theorem diffTo_self (xs : List Int) : ∀ n, diffTo xs xs n = []
  | 0 => rfl
  | n + 1 => by unfold diffTo; rw [if_pos rfl, diffTo_self xs n]

set_option maxRecDepth 100000 in
set_option maxHeartbeats 800000 in
theorem diff_c (g h : Nat) (xs ys : List Int) (w : World) (hX : Blk w g 74 xs) (hY : Blk w h 74 ys) (lx : xs.length = 32768) (ly : ys.length = 32768) :
    Calls Try.prog 19 #[.pointer (some ⟨g, 0, none⟩), .pointer (some ⟨h, 0, none⟩)] w fun e w' => ∃ v, e = .returned v ∧ Ints w' w.heap.size v (diffTo xs ys 32768) ∧ Below w.heap.size w w' := by
  obtain ⟨i0, hi, hz0, hz1, hz2⟩ := info_parts info3
  have hgl := hX.lt
  have hhl := hY.lt
  obtain ⟨c, hc⟩ : ∃ c : Bool, c = (xs == ys) := ⟨_, rfl⟩
  have Hc : Hid (c = (xs == ys)) := hc
  have Hl1 : Hid (∀ n, (Instr.loadAt 74 (.pointer (some ⟨g, 0, none⟩))).run Try.prog (w.drewN n) = .ok (.agg (vals xs)) (w.drewN n)) := fun n => (hX.drewN n).load lx
  have Hl2 : Hid (∀ n, (Instr.loadAt 74 (.pointer (some ⟨h, 0, none⟩))).run Try.prog (w.drewN n) = .ok (.agg (vals ys)) (w.drewN n)) := fun n => (hY.drewN n).load ly
  clear hc
  go_enter Try.func19, Try.ntmps19
  go_wp2_with fail
  refine wp_region_quiet_lit (by kernel_rfl) (by kernel_rfl) ?_
  iterate 9 quiet_step (fail)
  refine wpQuiet_value (by kernel_rfl) _ (by rintro _ ⟨n, rfl⟩; exact exec_load rfl rfl (Hl1.out n)) ?_
  iterate 2 quiet_step (fail)
  refine wpQuiet_value (by kernel_rfl) _ (by rintro _ ⟨n, rfl⟩; exact exec_load rfl rfl (Hl2.out n)) ?_
  refine wpQuiet_value (by kernel_rfl) (.bool c) (by rintro _ ⟨n, rfl⟩; rw [Hc.out]; exact exec_eql (xs := xs) (ys := ys) _ rfl rfl rfl lx ly) ?_
  quiet_step (fail)
  refine wpQuiet_nil ?_
  rintro _ ⟨nq, rfl⟩
  clear Hl1 Hl2
  have hX0 := hX
  have hY0 := hY
  have hb0 : Below w.heap.size w (w.drewN nq) := ⟨rfl, rfl, rfl, Nat.le_refl _, fun _ _ => rfl⟩
  have hs0 : (w.drewN nq).heap.size = w.heap.size := rfl
  clear hX hY
  generalize w.drewN nq = W at *
  cases c with
  | true =>
    have e : xs = ys := by simpa using Hc.out.symm
    subst e
    go_wp2
    go_ret
    exact ⟨_, rfl, by rw [diffTo_self]; exact ⟨rfl, Or.inl ⟨rfl, rfl⟩⟩, hb0⟩
  | false =>
    clear Hc
    go_wp2_with fail
    refine (all_c g _).mono ?_
    rintro _ w1 ⟨rfl, hw⟩
    rw [hw]
    clear hw w1
    go_wp2
    have hS : W.heap.size = w.heap.size := hs0
    go_loopw [5, 26] (fun v i wr => ∃ n : Nat, n ≤ 32768 ∧ i = .int .i64 n ∧ Ints wr w.heap.size v (diffTo xs ys n) ∧ Below w.heap.size w wr) (fun _ i _ => 32768 - (intOf i).toNat)
    case atStart => exact ⟨0, Nat.zero_le _, rfl, ⟨rfl, Or.inl ⟨rfl, rfl⟩⟩, hb0⟩
    case round =>
      obtain ⟨n, hn, rfl, hO, hb1⟩ := hrel
      by_cases hlt : n < 32768
      · have hc1 : wr.cell? ⟨g, n, none⟩ = some (.int .u8 (xs.getD n 0)) := (hX0.below hb1 hgl).cell (by omega)
        have hc2 : wr.cell? ⟨h, n, none⟩ = some (.int .u8 (ys.getD n 0)) := (hY0.below hb1 hhl).cell (by omega)
        have hlt' : (n : Int) < 32768 := by omega
        have hD : Hid (diffTo xs ys (n + 1) = if xs.getD n 0 = ys.getD n 0 then diffTo xs ys n else diffTo xs ys n ++ [(n : Int)]) := rfl
        have hlen := diffTo_length xs ys n
        generalize diffTo xs ys n = L at *
        generalize xs.getD n 0 = p at *
        generalize ys.getD n 0 = q at *
        by_cases e : p = q
        · subst e
          rw [show L = diffTo xs ys (n + 1) by rw [hD.out, if_pos rfl]] at hO
          clear hD
          go_wp2
          go_roundw
          case rel => exact ⟨n + 1, by omega, by go_num, hO, hb1⟩
          case measure => simp [intOf]; omega
        · have hD' : diffTo xs ys (n + 1) = L ++ [(n : Int)] := by rw [hD.out, if_neg e]
          have HD : Hid (diffTo xs ys (n + 1) = L ++ [(n : Int)]) := hD'
          have hne : (q != p) = true := by simp [Ne.symm e]
          have hO2 : wr.ownsRow w.heap.size 3 1 _ L.length (L.map (Value.int .i64)) := hO
          have hs2 : w.heap.size ≤ wr.heap.size := hb1.size
          clear hD hD' e hO
          go_wp2_with (at_builtin; refine wpList_append_own _ rfl _ _ 24 rfl w.heap.size 3 i0 (.int .i64 0) 1 8 Try.underlying24 hi hz0 hz1 hz2 rfl (by decide) _ _ _ rfl (hO2.alloc _) ⟨wr.heap.size, 0, none⟩ 1 1 [.int .i64 (n : Int)] rfl rfl (cell_one_new _ _ _) (ints_oneCell .i64 [(n : Int)]) (by unfold maxLen; omega) (by omega) (by simp; omega) ?_; intro v' w3 hown' hgrow _)
          have R1 : Ints w3 w.heap.size v' (diffTo xs ys (n + 1)) := by
            rw [HD.out]
            unfold Ints
            rw [List.length_append, List.map_append]
            exact hown'
          have R2 : Below w.heap.size w w3 := (hb1.alloc hs2 _).grown hgrow (by simp; omega) (fun k hk => (hO2.lt k hk).1)
          clear hown' hgrow hO2 hb1
          go_wp2
          go_roundw
          case rel => exact ⟨n + 1, by omega, by go_num, R1, R2⟩
          case measure => simp [intOf]; omega
      · obtain rfl : n = 32768 := by omega
        go_wp2
        go_ret
        exact ⟨_, rfl, hO, hb1⟩
end
end Go.Proofs.Ytbdjgaagafnfaaa.C
