/-
  The law's writes: blocks of a plan are written one after the other.
-/
import Derived.Test.YtdjhlpllffakpaaGneed
import Derived.Test.YtdjhlpllffakpaaHeldn
set_option maxRecDepth 20000
namespace Go.Proofs.Ytdjhlpllffakpaa
open Go.RowKit

/-- A row of bools. -/
def bvals (T : List Bool) : Array Value := (T.map Value.bool).toArray
theorem row_at {w : World} {tb : Nat} {T : List Bool} (H : w.heap[tb]? = some (.cells (bvals T) 4 (0, 0))) {i : Nat} (hi : i < T.length) : w.cell? ⟨tb, i, none⟩ = some (.bool (T.getD i false)) := by
  rw [cell_of_row w tb i _ 4 (0, 0) H, List.getD_eq_getElem?_getD, List.getElem?_eq_getElem hi]
  simp [bvals, hi]
theorem row_set {w : World} {tb : Nat} {T : List Bool} (H : w.heap[tb]? = some (.cells (bvals T) 4 (0, 0))) (i : Nat) (b : Bool) : (w.setCell ⟨tb, i, none⟩ (.bool b)).heap[tb]? = some (.cells (bvals (T.set i b)) 4 (0, 0)) := by
  rw [heap_setCell_same w tb i _ 4 _ H]
  simp [bvals]
theorem info4 : (Try.prog.info? 4).map (fun i => (i.zero, i.size, i.bytes)) = some (some (.bool false), 1, 1) := by kernel_rfl
theorem own_full {w : World} {base g N : Nat} {e : TypeId} {xs : List Value} (h : w.ownsRow base e 1 (.slice (some ⟨g, 0, none⟩) N N) N xs) : w.heap[g]? = some (.cells xs.toArray e (0, 0)) := by
  rcases h.2 with ⟨h', _⟩ | ⟨g', cap, cur, hv, _, hh, _, _, hs, ht⟩
  · simp at h'
  · simp only [Value.slice.injEq, Option.some.injEq, Addr.mk.injEq, and_true, true_and] at hv
    obtain ⟨rfl, rfl⟩ := hv
    rw [hh]
    have e1 : cur.toList = xs := by
      rw [List.take_of_length_le (by simp; omega)] at ht
      exact ht
    rw [← e1]
theorem made_bools (n : Nat) : madeCells #[.bool false] n = bvals (List.replicate n false) := by
  apply Array.ext
  · simp [madeCells, bvals]
  · intro i h1 h2
    simp [madeCells, bvals]
    rw [Nat.mod_one]
    rfl
/-- make of n bools. -/
theorem wpList_make_bools (w : World) {ops : Array Oper} {rest : List Oper} {o : Oper} {a : Act} {Q : Exit → Act → World → Prop}
    (hg : o.guard = none) (l c : Operand) (hop : o.op = Op.makeSlice 68 l c) (L : Int) (n : Nat) (hl : a.eval l = .int .i64 L) (hc : a.eval c = .int .i64 L) (hL : L = (n : Int)) (hn : n ≤ 281474976710656)
    (hK : ∀ w', Hid (w'.heap[w.heap.size]? = some (.cells (bvals (List.replicate n false)) 4 (0, 0))) → Below w.heap.size w w' → wpList Try.prog ops Q rest (a.put o.dst (.slice (some ⟨w.heap.size, 0, none⟩) n n)) w') :
    wpList Try.prog ops Q (o :: rest) a w := by
  obtain ⟨i, hi, hz0, hz1, hz2⟩ := info_parts info4
  refine wpList_make_full w hg l c 68 hop w.heap.size 4 i (.bool false) 1 Try.underlying68 hi hz0 hz1 .i64 .i64 L L n hl hc hL hL (by rw [hz2]; omega) (by unfold maxLen; omega) (Nat.le_refl _) ?_
  intro w' hown hgrow
  refine hK w' ?_ ((Below.refl _ _).grown hgrow (Nat.le_refl _) (by simp))
  have := own_full hown
  show _ = _
  rw [this, Nat.mul_one]
  show some (Obj.cells (madeCells #[Value.bool false] n) 4 (0, 0)) = _
  rw [made_bools]
/-! ### plain -/
theorem putAll_snoc (f : Fl) : ∀ (ps : List Pb) (l : List Bk) (p : Pb), putAll f l (ps ++ [p]) = put (putAll f l ps) f (p.i : Int) p.b
  | [], _, _ => rfl
  | _ :: r, _, p => putAll_snoc f r _ p
theorem putAll_next (f : Fl) (ps : List Pb) (l : List Bk) (j : Nat) (hj : j < ps.length) : putAll f l (ps.take (j + 1)) = put (putAll f l (ps.take j)) f (ps[j].i : Int) ps[j].b := by
  rw [List.take_succ_eq_append_getElem hj, putAll_snoc]
def hadOf (ps : List Pb) (j : Nat) : List Bool := (List.range 40).map fun i => decide (i ∈ (ps.take j).map (·.i))
theorem hadOf_len (ps : List Pb) (j : Nat) : (hadOf ps j).length = 40 := by simp [hadOf]
theorem hadOf_zero (ps : List Pb) : hadOf ps 0 = List.replicate 40 false := by simp [hadOf]; decide
theorem hadOf_no {ps : List Pb} (h : PsOk ps) {j : Nat} (hj : j < ps.length) : (hadOf ps j).getD ps[j].i false = false := by
  have h1 := (h.ok ps[j] (List.getElem_mem hj)).1
  have h2 : ps[j].i ∉ (ps.take j).map (·.i) := fun hm => by
    have hn := h.once
    rw [← List.take_append_drop j ps, List.map_append, List.nodup_append] at hn
    refine hn.2.2 _ hm _ ?_ rfl
    rw [List.drop_eq_getElem_cons hj, List.map_cons]
    exact List.mem_cons_self ..
  simp only [hadOf, List.getD_eq_getElem?_getD, List.getElem?_map, List.getElem?_range h1, Option.map_some, Option.getD_some]
  exact decide_eq_false h2
theorem hadOf_next {ps : List Pb} {j : Nat} (hj : j < ps.length) : (hadOf ps j).set ps[j].i true = hadOf ps (j + 1) := by
  apply List.ext_getElem?
  intro i
  rw [List.getElem?_set]
  simp only [hadOf, List.length_map, List.length_range, List.getElem?_map]
  by_cases hi : i < 40
  · rw [List.getElem?_range hi, List.take_succ_eq_append_getElem hj, List.map_append]
    by_cases e : ps[j].i = i
    · rw [if_pos e, if_pos (by omega)]
      simp [e]
    · rw [if_neg e]
      simp [Ne.symm e]
  · rw [List.getElem?_eq_none (by simp; omega)]
    by_cases e : ps[j].i = i
    · rw [if_pos e, if_neg (by omega)]; rfl
    · rw [if_neg e]; rfl
/-- The blocks of F are as they were. -/
def Kp11 (F : Nat → Prop) (w w' : World) : Prop := ∀ k, F k → w'.heap[k]? = w.heap[k]?
theorem Kp11.step {F Fj : Nat → Prop} {w va vb : World} (h : Kp11 F w va) (hC : Chg Fj va vb) (hap : ∀ k, F k → ¬ Fj k) (hl : ∀ k, F k → k < va.heap.size) : Kp11 F w vb := fun k hk => (hC.block k (hl k hk) (hap k hk)).trans (h k hk)
/-- Behind j writes. -/
structure Wr (Fd : Nat → Prop) (w : World) (d : Nat) (S : St) (f : Fl) (ps : List Pb) (fb hb : Nat) (j : Nat) (wr : World) : Prop where
  it : ∃ Fj Sj, PDisk Fj wr d Sj ∧ (∀ k, Fj k → k < wr.heap.size) ∧ Stp Fd w Fj wr ∧ Sj.l = putAll f S.l (ps.take j) ∧ Sj.out = false ∧ Sj.armed = false ∧ Sj.writes = S.writes + j ∧ ¬ Fj fb ∧ ¬ Fj hb
  file : wr.heap[fb]? = some (.cells #[.int .i64 f.1, .int .i64 f.2.1, .int .i64 f.2.2] 29 (0, 0))
  had : wr.heap[hb]? = some (.cells (bvals (hadOf ps j)) 4 (0, 0))

set_option maxHeartbeats 4000000 in
theorem writes_c (Fd Fp : Nat → Prop) (d : Nat) (S : St) (f : Fl) (pa : Option Addr) (pc : Nat) (ps : List Pb) (w : World) (hf : I64F f) (hD : PDisk Fd w d S) (hFl : ∀ k, Fd k → k < w.heap.size) (ho : S.out = false) (ha : S.armed = false) (hw : S.writes + ps.length < 1000000)
    (hP : PbsF Fp w pa f ps) (hap : ∀ k, Fp k → ¬ Fd k) (hok : PsOk ps) :
    Calls Try.prog 20 #[.pointer (some ⟨d, 0, none⟩), .agg #[.int .i64 f.1, .int .i64 f.2.1, .int .i64 f.2.2], .slice pa ps.length pc] w fun e w' => e = .returned (.bool true) ∧ ∃ Fd' S', PDisk Fd' w' d S' ∧ (∀ k, Fd' k → k < w'.heap.size) ∧ Stp Fd w Fd' w' ∧ S'.l = putAll f S.l ps ∧ S'.out = false ∧ S'.armed = false ∧ S'.writes = S.writes + ps.length := by
  obtain ⟨Post, hPost⟩ : ∃ Post : Ending → World → Prop, Post = fun e w' => e = .returned (.bool true) ∧ ∃ Fd' S', PDisk Fd' w' d S' ∧ (∀ k, Fd' k → k < w'.heap.size) ∧ Stp Fd w Fd' w' ∧ S'.l = putAll f S.l ps ∧ S'.out = false ∧ S'.armed = false ∧ S'.writes = S.writes + ps.length := ⟨_, rfl⟩
  rw [← hPost]
  have HP : Hid (∀ w' fb hb, Wr Fd w d S f ps fb hb ps.length w' → Post (.returned (.bool true)) w') := fun w' fb hb h => by
    obtain ⟨Fj, Sj, h1, h2, h3, h4, h5, h6, h7, _⟩ := h.it
    rw [List.take_of_length_le (Nat.le_refl _)] at h4
    rw [hPost]
    exact ⟨rfl, Fj, Sj, h1, h2, h3, h4, h5, h6, h7⟩
  clear hPost
  obtain ⟨f1, f2, f3⟩ := f
  have Hf : Hid (I64F (f1, f2, f3)) := hf
  have Hok : Hid (PsOk ps) := hok
  have HPb : Hid (PbsF Fp w pa (f1, f2, f3) ps) := hP
  have Hap0 : Hid (∀ k, Fp k → ¬ Fd k) := hap
  have Hw0 : Hid (S.writes + ps.length < 1000000) := hw
  obtain ⟨n, hn⟩ : ∃ n, n = ps.length := ⟨_, rfl⟩
  have Hn : Hid (n = ps.length) := hn
  have hn40 : n < 1000000 := by
    obtain ⟨mb, ml, hD'⟩ := hD
    have := hD'.bds
    omega
  rw [← hn] at HP ⊢
  simp only
  have hb1 : Below w.heap.size w (w.alloc (.cells #[.int .i64 f1, .int .i64 f2, .int .i64 f3] 29)) := (Below.refl _ _).alloc (Nat.le_refl _) _
  have HX : Hid ((w.alloc (.cells #[.int .i64 f1, .int .i64 f2, .int .i64 f3] 29)).heap[w.heap.size]? = some (.cells #[.int .i64 f1, .int .i64 f2, .int .i64 f3] 29 (0, 0))) := heap_alloc_new w _
  have HD0 : Hid (PDisk Fd w d S ∧ (∀ k, Fd k → k < w.heap.size) ∧ S.out = false ∧ S.armed = false) := ⟨hD, hFl, ho, ha⟩
  have Hb1 : Hid (Below w.heap.size w (w.alloc (.cells #[.int .i64 f1, .int .i64 f2, .int .i64 f3] 29))) := hb1
  clear hn hf hok hP hap hw hD hFl ho ha hb1
  go_enter Try.func20, Try.ntmps20
  go_wp2_with (at_make; refine wpList_make_bools _ rfl _ _ rfl 40 40 rfl rfl rfl (by omega) ?_; intro wb HH hbb)
  have Hbb : Hid (Below w.heap.size w wb) := Hb1.out.trans (hbb.mono (by simp))
  have HX2 : Hid (wb.heap[w.heap.size]? = some (.cells #[.int .i64 f1, .int .i64 f2, .int .i64 f3] 29 (0, 0))) := (hbb.block w.heap.size (by simp)).trans HX.out
  obtain ⟨hb, hhb⟩ : ∃ hb, hb = w.heap.size + 1 := ⟨_, rfl⟩
  simp only [World.size_alloc] at HH ⊢
  rw [← hhb] at HH ⊢
  have Hhb : Hid (hb = w.heap.size + 1) := hhb
  have HW0 : Hid (Wr Fd w d S (f1, f2, f3) ps w.heap.size hb 0 wb) := by
    obtain ⟨h1, h2, h3, h4⟩ := HD0.out
    refine ⟨⟨Fd, S, h1.keep (fun k hk => Hbb.out.block k (h2 k hk)), fun k hk => Nat.lt_of_lt_of_le (h2 k hk) Hbb.out.size, Stp.below Hbb.out, rfl, h3, h4, by simp, fun h => by have := h2 _ h; omega, fun h => by have := h2 _ h; have := Hhb.out; omega⟩, HX2.out, by rw [hadOf_zero]; exact HH.out⟩
  clear hhb HH hbb HX HX2 Hb1 Hbb
  go_loopw [8] (fun v wr => ∃ (j : Nat), j ≤ n ∧ v = .int .i64 (j : Int) ∧ Hid (Wr Fd w d S (f1, f2, f3) ps w.heap.size hb j wr)) (fun v _ => n - (intOf v).toNat)
  case atStart => exact ⟨0, Nat.zero_le _, rfl, HW0.out⟩
  case round =>
    clear HW0
    obtain ⟨j, hj, rfl, HW⟩ := hrel
    by_cases hlt : j < n
    · have hlt' : (j : Int) < (n : Int) := by omega
      have hjl : j < ps.length := by have := Hn.out; omega
      obtain ⟨Fj, Sj, hD, hL, hS, hSl, hSo, hSa, hSw, hnf, hnh⟩ := HW.out.it
      have hKw : Kp11 Fp w wr := fun k hk => (hS.block k (HPb.out.lt k hk) (Hap0.out k hk)).1
      have hapj : ∀ k, Fp k → ¬ Fj k := fun k hk => (hS.block k (HPb.out.lt k hk) (Hap0.out k hk)).2
      obtain ⟨b, off, rfl, _⟩ := HPb.out.at_ wr hKw j hjl
      have hPb : ∀ w', Kp11 Fp w w' → PbAt w' b off j (f1, f2, f3) ps[j] := fun w' h => by
        obtain ⟨b', off', e, h1⟩ := HPb.out.at_ w' h j hjl
        cases e
        exact h1
      have hIp := (Hok.out.ok ps[j] (List.getElem_mem hjl))
      have hno := hadOf_no Hok.out hjl
      have hnx := hadOf_next (ps := ps) hjl
      have hpx := putAll_next (f1, f2, f3) ps S.l j hjl
      obtain ⟨I, bb, ba, bc, hpj⟩ : ∃ I bb ba bc, ps[j] = ⟨I, bb, ba, bc⟩ := ⟨_, _, _, _, rfl⟩
      rw [hpj] at hPb hIp hno hnx hpx
      simp only at hIp hno hnx hpx
      have hPs : ∀ w', Kp11 Fp w w' → w'.cell? ⟨b, off + j * 5 + 4, none⟩ = some (.slice ba 32 bc) := fun w' h => (hPb w' h).c4
      have hPy : ∀ w', Kp11 Fp w w' → Bytes w' ba 32 bb := fun w' h => (hPb w' h).by_
      obtain ⟨hI, hlen, hfit⟩ := hIp
      have hzero : (Sj.write (f1, f2, f3) (I : Int) bb) = (0, Sj.wrote (f1, f2, f3) (I : Int) bb) := write_ok Sj _ _ _ ⟨by omega, by omega, hlen⟩ hSo
      have hwo := write_on hSo hSa (f1, f2, f3) (I : Int) bb
      have hlx : (Sj.write (f1, f2, f3) (I : Int) bb).2.l = putAll (f1, f2, f3) S.l (ps.take (j + 1)) := by rw [hzero, hpx, ← hSl]; rfl
      have hh0 := HW.out.had
      have hf0 := HW.out.file
      -- the row is set
      have Hset : Hid (∀ q w1, w1 = (wr.drewN q).setCell ⟨hb, I, none⟩ (.bool true) → PDisk Fj w1 d Sj ∧ (∀ k, Fj k → k < w1.heap.size) ∧ Stp Fd w Fj w1 ∧ Kp11 Fp w w1 ∧ w1.heap[w.heap.size]? = some (.cells #[.int .i64 f1, .int .i64 f2, .int .i64 f3] 29 (0, 0)) ∧ w1.heap[hb]? = some (.cells (bvals (hadOf ps (j + 1))) 4 (0, 0))) := by
        rintro q w1 rfl
        have hO : Only hb wr ((wr.drewN q).setCell ⟨hb, I, none⟩ (.bool true)) := ((Only.refl hb wr).drewN q).set _ _
        have hhb := Hhb.out
        refine ⟨hD.keep (fun k hk => hO.block k (fun e => hnh (e ▸ hk))), fun k hk => by rw [hO.size]; exact hL k hk, ⟨hO.os.trans hS.os, hO.tape.trans hS.tape, hO.output.trans hS.output, by rw [hO.size]; exact hS.size, fun k hk hf => ⟨(hO.block k (by omega)).trans (hS.block k hk hf).1, (hS.block k hk hf).2⟩⟩, fun k hk => (hO.block k (by have := HPb.out.lt k hk; omega)).trans (hKw k hk), (hO.block _ (by omega)).trans hf0, ?_⟩
        rw [← hnx]
        exact row_set (w := wr.drewN q) hh0 I true
      have Hstep0 : Hid (∀ va vb F2, Stp Fj va F2 vb → Stp Fd w Fj va → va.heap[w.heap.size]? = some (.cells #[.int .i64 f1, .int .i64 f2, .int .i64 f3] 29 (0, 0)) → va.heap[hb]? = some (.cells (bvals (hadOf ps (j + 1))) 4 (0, 0)) → PDisk F2 vb d (Sj.write (f1, f2, f3) (I : Int) bb).2 → (∀ k, F2 k → k < vb.heap.size) → Wr Fd w d S (f1, f2, f3) ps w.heap.size hb (j + 1) vb) := by
        intro va vb F2 h1 h2 h3 h4 h5 h6
        have g1 := h1.block w.heap.size (Array.getElem?_eq_some_iff.1 h3).1 hnf
        have g2 := h1.block hb (Array.getElem?_eq_some_iff.1 h4).1 hnh
        refine ⟨⟨F2, _, h5, h6, h2.trans h1, hlx, hwo.1, hwo.2.1, ?_, g1.2, g2.2⟩, g1.1.trans h3, g2.1.trans h4⟩
        rw [hwo.2.2.2, if_pos ⟨by omega, by omega, hlen⟩, hSw]
        omega
      have Hzero : Hid ((Sj.write (f1, f2, f3) (I : Int) bb).1 = 0) := by show _ = _; rw [hzero]
      have Hw : Hid (Sj.writes < 1000000) := by show _ < _; have := Hw0.out; omega
      have Hap : Hid (∀ k, Fp k → ¬ Fj k) := hapj
      have HFl : Hid (∀ k, Fp k → k < wr.heap.size) := fun k hk => Nat.lt_of_lt_of_le (HPb.out.lt k hk) hS.size
      have x0 := (hPb wr hKw).c0
      have x1 := (hPb wr hKw).c1
      have x2 := (hPb wr hKw).c2
      have x3 := (hPb wr hKw).c3
      simp only at x0 x1 x2 x3
      have y0 : wr.cell? ⟨w.heap.size, 0, none⟩ = some (.int .i64 f1) := (cell_of_row wr _ 0 _ 29 (0, 0) hf0).trans rfl
      have y1 : wr.cell? ⟨w.heap.size, 1, none⟩ = some (.int .i64 f2) := (cell_of_row wr _ 1 _ 29 (0, 0) hf0).trans rfl
      have y2 : wr.cell? ⟨w.heap.size, 2, none⟩ = some (.int .i64 f3) := (cell_of_row wr _ 2 _ 29 (0, 0) hf0).trans rfl
      have z0 : wr.cell? ⟨hb, I, none⟩ = some (.bool false) := by rw [row_at hh0 (by rw [hadOf_len]; exact hI), hno]
      have zf : wr.frozen? ⟨hb, I, none⟩ = false := frozen_of_row wr _ _ _ 4 hh0
      have d1 : decide ((I : Int) < 0) = false := decide_eq_false (by omega)
      have d2 : decide (40 ≤ (I : Int)) = false := decide_eq_false (by omega)
      have hI40 : (I : Int) < 40 := by omega
      have Hall : Hid (∀ k, (wr.drewN k).cell? ⟨b, off + j * 5 + 3, none⟩ = some (.int .i64 (I : Int)) ∧ (wr.drewN k).cell? ⟨hb, I, none⟩ = some (.bool false) ∧ (wr.drewN k).frozen? ⟨hb, I, none⟩ = false) := fun k => ⟨x3, z0, zf⟩
      clear hD hL hS hSl hSo hSa hSw hnf hnh hh0 hf0 hzero hwo hlx hapj hno hnx hpx hfit hlen hpj HW HP Hok HPb Hap0 Hw0 HD0
      go_wp2_with fail
      go_big_quiet (fail)
      obtain ⟨q3, q0, qf⟩ := Hall.out nq
      obtain ⟨w5, hw5⟩ : ∃ w5, w5 = (wr.drewN nq).setCell ⟨hb, I, none⟩ (.bool true) := ⟨_, rfl⟩
      obtain ⟨g1, g2, g3, g4, g5, g6⟩ := Hset.out nq w5 hw5
      have HD : Hid (PDisk Fj w5 d Sj) := g1
      have HLj : Hid (∀ k, Fj k → k < w5.heap.size) := g2
      have HKw : Hid (Kp11 Fp w w5) := g4
      have Hpl0 : Hid (∀ k, Fp k → k < w5.heap.size) := fun k hk => Nat.lt_of_lt_of_le (HFl.out k hk) (by rw [hw5]; simp [World.setCell, World.drewN])
      have Hstep : Hid (∀ q vb F2, PDisk F2 vb d (Sj.write (f1, f2, f3) (I : Int) bb).2 → Stp Fj (w5.drewN q) F2 vb → (∀ k, F2 k → k < vb.heap.size) → Wr Fd w d S (f1, f2, f3) ps w.heap.size hb (j + 1) vb) := fun q vb F2 h1 h2 h3 => Hstep0.out (w5.drewN q) vb F2 h2 ⟨g3.os, g3.tape, g3.output, g3.size, g3.block⟩ g5 g6 h1 h3
      clear g1 g2 g3 g4 g5 g6 Hset Hall x0 x1 x2 x3 y0 y1 y2 z0 zf Hstep0 HFl
      have hw5' : (wr.drewN nq).setCell ⟨hb, I, none⟩ (.bool true) = w5 := hw5.symm
      clear hw5
      go_wp2_with fail
      try rw [hw5']
      clear hw5' q3 q0 qf
      refine region_L (Kp11 Fp w) 17 (by kernel_rfl) ?_
      have HDa : Hid (PDisk Fj w5.drew d Sj) := HD.out.keep (fun _ _ => rfl)
      have HKp : Hid (Kp11 Fp w w5.drew) := fun k hk => HKw.out k hk
      have Hlt : Hid (∀ k, Fj k → k < w5.drew.heap.size) := HLj.out
      have Hpl : Hid (∀ k, Fp k → k < w5.drew.heap.size) := Hpl0.out
      have Hst1 : Hid (∀ vb F2, PDisk F2 vb d (Sj.write (f1, f2, f3) (I : Int) bb).2 → Stp Fj w5.drew F2 vb → (∀ k, F2 k → k < vb.heap.size) → Wr Fd w d S (f1, f2, f3) ps w.heap.size hb (j + 1) vb) := fun vb F2 h1 h2 h3 => Hstep.out 1 vb F2 h1 h2 h3
      clear HD HLj HKw Hpl0 Hstep
      generalize w5.drew = va at *
      have hHeld : (Kp11 Fp w) _ := HKp.out
      have hne : Nonempty (Sub (Kp11 Fp w)) := ⟨⟨_, hHeld⟩⟩
      have k0 : ∀ s : Sub (Kp11 Fp w), s.w.cell? ⟨b, off + j * 5, none⟩ = some (.int .i64 f1) := fun s => (hPb s.w s.ok).c0
      have k1 : ∀ s : Sub (Kp11 Fp w), s.w.cell? ⟨b, off + j * 5 + 1, none⟩ = some (.int .i64 f2) := fun s => (hPb s.w s.ok).c1
      have k2 : ∀ s : Sub (Kp11 Fp w), s.w.cell? ⟨b, off + j * 5 + 2, none⟩ = some (.int .i64 f3) := fun s => (hPb s.w s.ok).c2
      have k3 : ∀ s : Sub (Kp11 Fp w), s.w.cell? ⟨b, off + j * 5 + 3, none⟩ = some (.int .i64 (I : Int)) := fun s => (hPb s.w s.ok).c3
      have k4 : ∀ s : Sub (Kp11 Fp w), s.w.cell? ⟨b, off + j * 5 + 4, none⟩ = some (.slice ba 32 bc) := fun s => hPs s.w s.ok
      refine take_L (i := 0) rfl (by kernel_rfl) (by kernel_rfl) (by kernel_rfl) (by kernel_rfl) (fun _ _ _ _ h => h) (by exact hHeld) (fun K hK => ?_)
      go_simp
      refine hK _ ?_
      clear hK K
      refine take_L (i := 1) rfl (by kernel_rfl) (by kernel_rfl) (by kernel_rfl) (by kernel_rfl) (fun _ _ _ _ h => h) (by exact hHeld) (fun K hK => ?_)
      go_simp
      refine hK _ ?_
      clear hK K
      refine take_L (i := 2) rfl (by kernel_rfl) (by kernel_rfl) (by kernel_rfl) (by kernel_rfl) (fun _ _ _ _ h => h) (by exact hHeld) (fun K hK => ?_)
      go_simp
      refine hK _ ?_
      clear hK K
      refine take_L (i := 3) rfl (by kernel_rfl) (by kernel_rfl) (by kernel_rfl) (by kernel_rfl) (fun _ _ _ _ h => h) (by exact hHeld) (fun K hK => ?_)
      go_simp
      refine hK _ ?_
      clear hK K
      refine take_L (i := 4) rfl (by kernel_rfl) (by kernel_rfl) (by kernel_rfl) (by kernel_rfl) (fun _ _ _ _ h => h) (by exact hHeld) (fun K hK => ?_)
      go_simp
      refine hK _ ?_
      clear hK K
      refine take_L (i := 5) rfl (by kernel_rfl) (by kernel_rfl) (by kernel_rfl) (by kernel_rfl) (fun _ _ _ _ h => h) (by exact hHeld) (fun K hK => ?_)
      go_simp
      refine hK _ ?_
      clear hK K
      refine take_L (i := 6) rfl (by kernel_rfl) (by kernel_rfl) (by kernel_rfl) (by kernel_rfl) (fun _ _ _ _ h => h) (by exact hHeld) (fun K hK => ?_)
      go_simp
      refine hK _ ?_
      clear hK K
      refine take_L (i := 7) rfl (by kernel_rfl) (by kernel_rfl) (by kernel_rfl) (by kernel_rfl) (fun _ _ _ _ h => h) (by exact hHeld) (fun K hK => ?_)
      go_simp
      refine hK _ ?_
      clear hK K
      refine take_L (i := 8) rfl (by kernel_rfl) (by kernel_rfl) (by kernel_rfl) (by kernel_rfl) (fun _ _ _ _ h => h) (by exact hHeld) (fun K hK => ?_)
      go_simp
      refine hK _ ?_
      clear hK K
      refine take_L (i := 9) rfl (by kernel_rfl) (by kernel_rfl) (by kernel_rfl) (by kernel_rfl) (fun _ _ _ _ h => h) (by exact hHeld) (fun K hK => ?_)
      go_simp
      refine hK _ ?_
      clear hK K
      refine take_L (i := 10) rfl (by kernel_rfl) (by kernel_rfl) (by kernel_rfl) (by kernel_rfl) (fun _ _ _ _ h => h) (by exact hHeld) (fun K hK => ?_)
      go_simp
      refine hK _ ?_
      clear hK K
      refine take_L (i := 11) rfl (by kernel_rfl) (by kernel_rfl) (by kernel_rfl) (by kernel_rfl) (fun _ _ _ _ h => h) (by exact hHeld) (fun K hK => ?_)
      go_simp
      refine hK _ ?_
      clear hK K
      refine take_L (i := 12) rfl (by kernel_rfl) (by kernel_rfl) (by kernel_rfl) (by kernel_rfl) (fun _ _ _ _ h => h) (by exact hHeld) (fun K hK => ?_)
      go_simp
      refine hK _ ?_
      clear hK K
      refine take_L (i := 13) rfl (by kernel_rfl) (by kernel_rfl) (by kernel_rfl) (by kernel_rfl) (fun _ _ _ _ h => h) (by exact hHeld) (fun K hK => ?_)
      go_simp
      refine hK _ ?_
      clear hK K
      refine take_L (i := 14) rfl (by kernel_rfl) (by kernel_rfl) (by kernel_rfl) (by kernel_rfl) (fun _ _ _ _ h => h) (by exact hHeld) (fun K hK => ?_)
      go_simp
      refine hK _ ?_
      clear hK K
      refine take_L (i := 15) rfl (by kernel_rfl) (by kernel_rfl) (by kernel_rfl) (by kernel_rfl) (fun _ _ _ _ h => h) (by exact hHeld) (fun K hK => ?_)
      go_simp
      refine hK _ ?_
      clear hK K
      refine one_L (i := 16) (by kernel_rfl) rfl (fun K hK => ?_)
      go_simp
      refine (write_c Fj d Sj f1 f2 f3 (I : Int) ba 32 bc bb Hf.out va HDa.out (fun k hk => Hlt.out k hk) (hPy va hHeld) Hw.out).mono ?_
      rintro _ vb ⟨rfl, hDb, hCb⟩
      have hSt := Stp.chg hCb (F' := fun k => Fj k ∨ (va.heap.size ≤ k ∧ k < vb.heap.size)) (fun k hk => hk.imp id (fun h => h.1))
      have Hnew : Hid (Wr Fd w d S (f1, f2, f3) ps (w.heap.size) hb (j + 1) vb) := Hst1.out vb _ hDb hSt (fun k hk => hk.elim (fun h => Nat.lt_of_lt_of_le (Hlt.out k h) hCb.size) (fun h => h.2))
      have ewr : (Sj.write (f1, f2, f3) (I : Int) bb).1 = 0 := Hzero.out
      rw [ewr]
      clear hDb hSt ewr
      replace hHeld : (Kp11 Fp w) _ := (Kp11.step hHeld hCb Hap.out Hpl.out)
      refine hK.out _ _ (fun _ => hHeld) ?_
      clear hK K
      refine one_L (i := 17) (by kernel_rfl) rfl (fun K hK => ?_)
      go_simp
      refine hK.out _ _ (fun h => absurd rfl h) ?_
      clear hK K
      refine done_L (by kernel_rfl) ?_ _
      clear hHeld hne k0 k1 k2 k3 k4 HDa HKp Hlt Hpl
      go_wp2
      go_roundw
      case rel => exact ⟨j + 1, by omega, by go_num, Hnew.out⟩
      case measure => simp [intOf]; omega
    · obtain rfl : j = n := by omega
      have hge : ¬ (j : Int) < (j : Int) := by omega
      have R := HP.out wr _ _ HW.out
      clear HP HW HPb
      go_wp2
      exact R

end Go.Proofs.Ytdjhlpllffakpaa
