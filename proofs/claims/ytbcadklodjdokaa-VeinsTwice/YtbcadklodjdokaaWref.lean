/-
  Worlds in which all lies as it lay; the document's small functions: an origin's vein, how far, an index, a chunk, a cell.
-/
import Derived.Test.YtbcadklodjdokaaWmath
import Derived.Test.YtbcadklodjdokaaRHash
import Derived.Test.YtbcadklodjdokaaNDiv
import Derived.Test.YtbcadklodjdokaaCAwake
import Derived.BigQuiet
import Derived.StillTailTactics
import Derived.Deep.QuietTactic
import Derived.Lib.Walk
set_option maxRecDepth 20000
namespace Go.Proofs.Ytbcadklodjdokaa
open C Go.RowKit

/-- A world in which all that lay in w0 lies as it lay. -/
structure Since (w0 : World) where
  w : World
  bel : Below w0.heap.size w0 w
theorem since_some (w0 : World) : Nonempty (Since w0) := ⟨⟨w0, Below.refl _ _⟩⟩
theorem Since.cell {w0 : World} {p : Addr} {v : Value} (h : w0.cell? p = some v) (s : Since w0) : s.w.cell? p = some v := by
  refine (s.bel.cell ?_).trans h
  simp only [World.cell?] at h
  rcases hb : w0.heap[p.block]? with _ | o
  · simp [hb] at h
  · exact (Array.getElem?_eq_some_iff.1 hb).1
theorem Calls.since {P : Program} {f : FuncId} {args : Array Value} {w0 : World} {s : Since w0} {v : Value} (h : Calls P f args s.w fun e w' => e = .returned v ∧ Below s.w.heap.size s.w w') :
    Calls P f args s.w fun e w'' => e = .returned v ∧ ∃ s' : Since w0, w'' = s'.w :=
  h.mono fun _ w' ⟨he, hb⟩ => ⟨he, ⟨w', s.bel.trans (hb.mono s.bel.size)⟩, rfl⟩
theorem wp_region_since {P : Program} {id : Nat} {Q : Exit → Act → World → Prop} {a : Act} {w : World} {l : List Oper} (hm : P.follows .mixedOrders = true) (hB : Region.lexB .any l.toArray = true)
    (h : wpQuiet P l.toArray (fun w' => ∃ s : Since w, w' = s.w) (fun a' => ∀ w', (∃ s : Since w, w' = s.w) → Q .normal a' w') l a) : (Code.region id l.toArray true).wp P Q a w :=
  wp_region_quiet (C := fun w' => ∃ s : Since w, w' = s.w) hm hB ⟨⟨_, (Below.refl _ w).drew⟩, rfl⟩ (by simpa using h)
theorem wp_region_tail {P : Program} {id : Nat} {Q : Exit → Act → World → Prop} {a : Act} {w : World} {l : List Oper} (n : Nat) (hm : P.follows .mixedOrders = true) (hB : Region.lexTailB .any l.toArray n = true)
    (h : wpStill P l.toArray (w.drewN 1) (fun a' => wpList P l.toArray Q (l.drop n) a' (w.drewN 1)) (l.take n) a) : (Code.region id l.toArray true).wp P Q a w :=
  wp_region_still_tail n hm hB h
theorem below_drewN {B : Nat} {a w : World} (h : Below B a w) (n : Nat) : Below B a (w.drewN n) := ⟨h.os, h.tape, h.output, h.size, h.block⟩
theorem set_two {W : World} {B : Nat} {T : TypeId} {a b u v : Value} (h : W.heap[B]? = some (.cells #[a, b] T (0, 0))) : ((W.setCell ⟨B, 0, none⟩ u).setCell ⟨B, 1, none⟩ v).heap[B]? = some (.cells #[u, v] T (0, 0)) := by
  rw [heap_setCell_same _ B 1 _ T _ (heap_setCell_same W B 0 _ T _ h)]
  rfl
theorem new_two (w : World) (o1 o2 : Obj) : ((w.alloc o1).alloc o2).heap[w.heap.size + 1]? = some o2 := by
  have := heap_alloc_new (w.alloc o1) o2
  rwa [World.size_alloc] at this
theorem below_two (w : World) (o1 o2 : Obj) : Below w.heap.size w ((w.alloc o1).alloc o2) := ((Below.refl _ _).alloc (Nat.le_refl _) _).alloc (by simp) _
/-- A struct in a cell and one more are handed back. -/
theorem results_row_tmp {P : Program} {fn : Func} {p u : Tmp} {ty : TypeId} (h : fn.results = #[.cell p ty, .tmp u]) (tmps : Array Value) (w : World) (g : Nat) (t : TypeId) (cs : Array Value) (fr : Nat × Nat) (d : TypeDesc)
    (hp : tmps.getD p undef = .pointer (some ⟨g, 0, none⟩)) (hg : w.heap[g]? = some (.cells cs t fr))
    (hu : P.underlying ty = some d) (hd : (match d with | .struct _ | .array _ _ => true | _ => false) = true) (hi : (P.info? ty).map (·.size) = some cs.size) :
    (results fn tmps).run P w = .ok (.tuple #[.agg cs, tmps.getD u undef]) w := by
  rw [results_cell_tmp h, hp]
  simp [asAddr, run_loadVar_row w g t ty cs fr d hg hu hd hi, Result.andThen]

abbrev set5 (w : World) (b : Nat) (v0 v1 v2 v3 v4 : Value) : World := ((((w.setCell ⟨b, 0, none⟩ v0).setCell ⟨b, 1, none⟩ v1).setCell ⟨b, 2, none⟩ v2).setCell ⟨b, 3, none⟩ v3).setCell ⟨b, 4, none⟩ v4
theorem set5_below {B : Nat} {a w : World} {b : Nat} (h : Below B a w) (v0 v1 v2 v3 v4 : Value) (hb : B ≤ b := by omega) : Below B a (set5 w b v0 v1 v2 v3 v4) :=
  ((((h.setCell (p := ⟨b, 0, none⟩) hb _).setCell (p := ⟨b, 1, none⟩) hb _).setCell (p := ⟨b, 2, none⟩) hb _).setCell (p := ⟨b, 3, none⟩) hb _).setCell (p := ⟨b, 4, none⟩) hb _
theorem set5_size (w : World) (b : Nat) (v0 v1 v2 v3 v4 : Value) : (set5 w b v0 v1 v2 v3 v4).heap.size = w.heap.size := by simp [World.setCell]
theorem set5_row {W : World} {B : Nat} {T : TypeId} {a b c d e : Value} (h : W.heap[B]? = some (.cells #[a, b, c, d, e] T (0, 0))) (v0 v1 v2 v3 v4 : Value) : (set5 W B v0 v1 v2 v3 v4).heap[B]? = some (.cells #[v0, v1, v2, v3, v4] T (0, 0)) := by
  unfold set5
  rw [heap_setCell_same _ B 4 _ T _ (heap_setCell_same _ B 3 _ T _ (heap_setCell_same _ B 2 _ T _ (heap_setCell_same _ B 1 _ T _ (heap_setCell_same W B 0 _ T _ h))))]
  rfl
theorem heap_alloc_old (w : World) (o : Obj) {k : Nat} (h : k < w.heap.size) : (w.alloc o).heap[k]? = w.heap[k]? := ((Below.refl w.heap.size w).alloc (Nat.le_refl _) o).block k h

/-! ### bits -/
theorem i64_mask (k : Nat) (m n : Int) (h : (BitVec.ofInt 64 m).toNat = 2 ^ k - 1) (hk : k ≤ 62) : bits .and .i64 n m = n % ((2 ^ k : Nat) : Int) := by
  have key : (BitVec.ofInt 64 n &&& BitVec.ofInt 64 m).toNat = (n % ((2 ^ 64 : Nat) : Int)).toNat % 2 ^ k := by
    rw [BitVec.toNat_and, BitVec.toNat_ofInt, h, Nat.and_two_pow_sub_one_eq_mod]
  show IntKind.i64.wrap ((BitVec.ofInt 64 n &&& BitVec.ofInt 64 m).toNat : Nat) = _
  have hd : ((2 ^ k : Nat) : Int) ∣ ((2 ^ 64 : Nat) : Int) := by exact_mod_cast Nat.pow_dvd_pow 2 (by omega)
  have hp : 0 < 2 ^ k := Nat.two_pow_pos k
  have hl : 2 ^ k ≤ 2 ^ 62 := Nat.pow_le_pow_right (by omega) hk
  have e : (((n % ((2 ^ 64 : Nat) : Int)).toNat % 2 ^ k : Nat) : Int) = n % ((2 ^ k : Nat) : Int) := by
    rw [Int.natCast_emod, Int.toNat_of_nonneg (Int.emod_nonneg _ (by decide)), Int.emod_emod_of_dvd n hd]
  rw [key, e, IntKind.wrap_i64]
  have h1 := Int.emod_nonneg n (show ((2 ^ k : Nat) : Int) ≠ 0 by omega)
  have h2 := Int.emod_lt_of_pos n (show 0 < ((2 ^ k : Nat) : Int) by omega)
  omega
theorem and15 (n : Int) : bits .and .i64 n 15 = n % 16 := i64_mask 4 15 n (by decide) (by omega)
theorem and7 (n : Int) : bits .and .i64 n 7 = n % 8 := i64_mask 3 7 n (by decide) (by omega)
theorem and1 (n : Int) : bits .and .i64 n 1 = n % 2 := i64_mask 1 1 n (by decide) (by omega)

/-! ### an origin's vein -/
def Far (n x : Int) : Prop := -n ≤ x ∧ x ≤ n
def vein (h : Nat) (x y z : Int) : Array Value := #[.int .i64 (vOre h), .int .i64 (vX h x), .int .i64 (vY h y), .int .i64 (vZ h z), .int .i64 (vReach h)]
def noVein : Array Value := #[.int .i64 0, .int .i64 0, .int .i64 0, .int .i64 0, .int .i64 0]
def RatSay (h : Nat) (x y z : Int) (w : World) (e : Ending) (w' : World) : Prop :=
  Below w.heap.size w w' ∧ e = .returned (.tuple #[.agg (if vHas h then vein h x y z else noVein), .bool (vHas h)])
theorem vore_lo {h : Nat} (h1 : h / 256 % 16 < 9) : vOre h = 7 := if_pos h1
theorem vore_mid {h : Nat} (h1 : ¬ h / 256 % 16 < 9) (h2 : h / 256 % 16 < 14) : vOre h = 8 := by unfold vOre; rw [if_neg h1, if_pos h2]
theorem vore_hi {h : Nat} (h1 : ¬ h / 256 % 16 < 9) (h2 : ¬ h / 256 % 16 < 14) : vOre h = 9 := by unfold vOre; rw [if_neg h1, if_neg h2]
set_option maxHeartbeats 1000000 in
theorem rat_c (S : Nat) (x y z : Int) (w : World) (hS : S < 18446744073709551616) (hx : Far 1125899906842624 x) (hy : Far 1125899906842624 y) (hz : Far 1125899906842624 z) :
    Calls Try.prog 25 #[.int .u64 S, .int .i64 x, .int .i64 y, .int .i64 z] w (RatSay (R.hashN S 30 x y z) x y z w) := by
  obtain ⟨Post, hPost⟩ : ∃ Post : Ending → World → Prop, Post = RatSay (R.hashN S 30 x y z) x y z w := ⟨_, rfl⟩
  rw [← hPost]
  have HP : Hid (∀ e w', RatSay (R.hashN S 30 x y z) x y z w e w' → Post e w') := fun e w' h => by rw [hPost]; exact h
  clear hPost
  have hlt := R.hashN_lt S 30 x y z
  have hh := fun w => R.rhash_any S 30 x y z w hS
  generalize R.hashN S 30 x y z = h at *
  have hb := fun w => R.rbelow_any h 100 w hlt (by omega)
  have hv : vHas h = decide (R.belowN h 100 < 40) := rfl
  generalize R.belowN h 100 = v at *
  have Hh : Hid (vHas h = decide (v < 40)) := hv
  clear hv
  go_enter Try.func25, Try.ntmps25
  go_wp2_with fail
  refine (hh _).mono ?_
  clear hh
  rintro _ w1 ⟨rfl, hb1⟩
  have hX1 : w1.heap[w.heap.size]? = some (.cells noVein 58 (0, 0)) := (hb1.block w.heap.size (by simp)).trans (heap_alloc_new w _)
  have Hb1 : Hid (Below w.heap.size w w1) := ((Below.refl _ w).alloc (Nat.le_refl _) _).trans (hb1.mono (by simp))
  clear hb1
  go_wp2_with fail
  refine (hb _).mono ?_
  clear hb
  rintro _ w2 ⟨rfl, hw⟩
  replace hw := hw.symm
  subst hw
  by_cases hv : v < 40
  case neg =>
    have hv' : 40 ≤ v := by omega
    have Hf : Hid (vHas h = false) := Hh.out.trans (decide_eq_false hv)
    have c0 : w1.cell? ⟨w.heap.size, 0, none⟩ = some (.int .i64 0) := (cell_of_row w1 w.heap.size 0 _ 58 (0, 0) hX1).trans rfl
    have f0 : w1.frozen? ⟨w.heap.size, 0, none⟩ = false := frozen_of_row w1 w.heap.size 0 _ 58 hX1
    have c1 : w1.cell? ⟨w.heap.size, 1, none⟩ = some (.int .i64 0) := (cell_of_row w1 w.heap.size 1 _ 58 (0, 0) hX1).trans rfl
    have f1 : w1.frozen? ⟨w.heap.size, 1, none⟩ = false := frozen_of_row w1 w.heap.size 1 _ 58 hX1
    have c2 : w1.cell? ⟨w.heap.size, 2, none⟩ = some (.int .i64 0) := (cell_of_row w1 w.heap.size 2 _ 58 (0, 0) hX1).trans rfl
    have f2 : w1.frozen? ⟨w.heap.size, 2, none⟩ = false := frozen_of_row w1 w.heap.size 2 _ 58 hX1
    have c3 : w1.cell? ⟨w.heap.size, 3, none⟩ = some (.int .i64 0) := (cell_of_row w1 w.heap.size 3 _ 58 (0, 0) hX1).trans rfl
    have f3 : w1.frozen? ⟨w.heap.size, 3, none⟩ = false := frozen_of_row w1 w.heap.size 3 _ 58 hX1
    have c4 : w1.cell? ⟨w.heap.size, 4, none⟩ = some (.int .i64 0) := (cell_of_row w1 w.heap.size 4 _ 58 (0, 0) hX1).trans rfl
    have f4 : w1.frozen? ⟨w.heap.size, 4, none⟩ = false := frozen_of_row w1 w.heap.size 4 _ 58 hX1
    have R := HP.out _ _ (show RatSay h x y z w (.returned (.tuple #[.agg noVein, .bool false])) (set5 w1 w.heap.size (.int .i64 0) (.int .i64 0) (.int .i64 0) (.int .i64 0) (.int .i64 0)) from ⟨set5_below Hb1.out _ _ _ _ _, by rw [Hf.out]; rfl⟩)
    have HS5 : Hid ((set5 w1 w.heap.size (.int .i64 0) (.int .i64 0) (.int .i64 0) (.int .i64 0) (.int .i64 0)).heap[w.heap.size]? = some (.cells noVein 58 (0, 0))) := set5_row hX1 _ _ _ _ _
    clear HP Hh Hf hX1
    go_wp2
    exact bodyPost_ret (results_row_tmp (p := 8) (u := 9) (ty := 58) rfl _ _ w.heap.size 58 _ (0, 0) _ rfl HS5.out Try.underlying58 rfl (by kernel_rfl)) rfl R
  have Ht : Hid (vHas h = true) := Hh.out.trans (decide_eq_true hv)
  have c0 : w1.cell? ⟨w.heap.size, 0, none⟩ = some (.int .i64 0) := (cell_of_row w1 w.heap.size 0 _ 58 (0, 0) hX1).trans rfl
  have f0 : w1.frozen? ⟨w.heap.size, 0, none⟩ = false := frozen_of_row w1 w.heap.size 0 _ 58 hX1
  have c1 : w1.cell? ⟨w.heap.size, 1, none⟩ = some (.int .i64 0) := (cell_of_row w1 w.heap.size 1 _ 58 (0, 0) hX1).trans rfl
  have f1 : w1.frozen? ⟨w.heap.size, 1, none⟩ = false := frozen_of_row w1 w.heap.size 1 _ 58 hX1
  have c2 : w1.cell? ⟨w.heap.size, 2, none⟩ = some (.int .i64 0) := (cell_of_row w1 w.heap.size 2 _ 58 (0, 0) hX1).trans rfl
  have f2 : w1.frozen? ⟨w.heap.size, 2, none⟩ = false := frozen_of_row w1 w.heap.size 2 _ 58 hX1
  have c3 : w1.cell? ⟨w.heap.size, 3, none⟩ = some (.int .i64 0) := (cell_of_row w1 w.heap.size 3 _ 58 (0, 0) hX1).trans rfl
  have f3 : w1.frozen? ⟨w.heap.size, 3, none⟩ = false := frozen_of_row w1 w.heap.size 3 _ 58 hX1
  have c4 : w1.cell? ⟨w.heap.size, 4, none⟩ = some (.int .i64 0) := (cell_of_row w1 w.heap.size 4 _ 58 (0, 0) hX1).trans rfl
  have f4 : w1.frozen? ⟨w.heap.size, 4, none⟩ = false := frozen_of_row w1 w.heap.size 4 _ 58 hX1
  have HX1 : Hid (w1.heap[w.heap.size]? = some (.cells noVein 58 (0, 0))) := hX1
  have hlt1 : w.heap.size < w1.heap.size := (Array.getElem?_eq_some_iff.1 hX1).1
  have hne : ¬ w.heap.size = w1.heap.size := Nat.ne_of_lt hlt1
  have hgt : ¬ 40 ≤ v := by omega
  have hgt' : decide (40 ≤ v) = false := decide_eq_false hgt
  clear hX1 Hh hv hgt
  have e0 : bits .and .i64 ((h : Int) / 256) 15 = ((h / 256 % 16 : Nat) : Int) := by rw [and15]; omega
  have e1 : bits .and .i64 ((h : Int) / 65536) 7 = ((h / 65536 % 8 : Nat) : Int) := by rw [and7]; omega
  have e2 : bits .and .i64 ((h : Int) / 524288) 7 = ((h / 524288 % 8 : Nat) : Int) := by rw [and7]; omega
  have e3 : bits .and .i64 ((h : Int) / 4194304) 7 = ((h / 4194304 % 8 : Nat) : Int) := by rw [and7]; omega
  have e4 : bits .and .i64 ((h : Int) / 33554432) 1 = ((h / 33554432 % 2 : Nat) : Int) := by rw [and1]; omega
  obtain ⟨N, hN⟩ : ∃ N, h / 256 % 16 = N := ⟨_, rfl⟩
  have HV : Hid (∀ ore : Int, vOre h = ore → vein h x y z = #[.int .i64 ore, .int .i64 (8 * x + ((h / 65536 % 8 : Nat) : Int)), .int .i64 (8 * y + ((h / 524288 % 8 : Nat) : Int)), .int .i64 (8 * z + ((h / 4194304 % 8 : Nat) : Int)), .int .i64 (1 + ((h / 33554432 % 2 : Nat) : Int))]) := fun ore e => by rw [← e]; rfl
  have HO : Hid ((N < 9 → vOre h = 7) ∧ (¬ N < 9 → N < 14 → vOre h = 8) ∧ (¬ N < 9 → ¬ N < 14 → vOre h = 9)) := by
    rw [← hN]
    exact ⟨vore_lo, vore_mid, vore_hi⟩
  rw [hN] at e0
  clear hN
  have b1 : h / 65536 % 8 < 8 := Nat.mod_lt _ (by omega)
  have b2 : h / 524288 % 8 < 8 := Nat.mod_lt _ (by omega)
  have b3 : h / 4194304 % 8 < 8 := Nat.mod_lt _ (by omega)
  have b4 : h / 33554432 % 2 < 2 := Nat.mod_lt _ (by omega)
  generalize h / 65536 % 8 = M1 at *
  generalize h / 524288 % 8 = M2 at *
  generalize h / 4194304 % 8 = M3 at *
  generalize h / 33554432 % 2 = M4 at *
  obtain ⟨x0, x1⟩ := hx
  obtain ⟨y0, y1⟩ := hy
  obtain ⟨z0, z1⟩ := hz
  have HF : Hid (∀ ore : Int, vOre h = ore → ∀ o : Obj, RatSay h x y z w (.returned (.tuple #[.agg #[.int .i64 ore, .int .i64 (8 * x + (M1 : Int)), .int .i64 (8 * y + (M2 : Int)), .int .i64 (8 * z + (M3 : Int)), .int .i64 (1 + (M4 : Int))], .bool true])) ((set5 w1 w.heap.size (.int .i64 ore) (.int .i64 (8 * x + (M1 : Int))) (.int .i64 (8 * y + (M2 : Int))) (.int .i64 (8 * z + (M3 : Int))) (.int .i64 (1 + (M4 : Int)))).alloc o)) := fun ore e o =>
    ⟨(set5_below Hb1.out _ _ _ _ _).alloc (by rw [set5_size]; exact Nat.le_of_lt hlt1) o, by rw [Ht.out, if_pos rfl, HV.out ore e]⟩
  have HS5 : Hid (∀ (o : Obj) (a b c d e : Value), ((set5 w1 w.heap.size a b c d e).alloc o).heap[w.heap.size]? = some (.cells #[a, b, c, d, e] 58 (0, 0))) := fun o a b c d e => (heap_alloc_old _ o (by rw [set5_size]; exact hlt1)).trans (set5_row HX1.out a b c d e)
  clear HV Ht HX1
  by_cases n9 : N < 9
  · have n9' : (N : Int) < 9 := by omega
    have n14' : (N : Int) < 14 := by omega
    have ho := HO.out.1 n9
    have R := fun o => HP.out _ _ (HF.out 7 ho o)
    clear HO HP HF ho n9
    go_wp2
    exact bodyPost_ret (results_row_tmp (p := 8) (u := 9) (ty := 58) rfl _ _ w.heap.size 58 _ (0, 0) _ rfl (HS5.out _ _ _ _ _ _) Try.underlying58 rfl (by kernel_rfl)) rfl (R _)
  by_cases n14 : N < 14
  · have n9' : ¬ (N : Int) < 9 := by omega
    have n14' : (N : Int) < 14 := by omega
    have ho := HO.out.2.1 n9 n14
    have R := fun o => HP.out _ _ (HF.out 8 ho o)
    clear HO HP HF ho n9 n14
    go_wp2
    exact bodyPost_ret (results_row_tmp (p := 8) (u := 9) (ty := 58) rfl _ _ w.heap.size 58 _ (0, 0) _ rfl (HS5.out _ _ _ _ _ _) Try.underlying58 rfl (by kernel_rfl)) rfl (R _)
  · have n9' : ¬ (N : Int) < 9 := by omega
    have n14' : ¬ (N : Int) < 14 := by omega
    have ho := HO.out.2.2 n9 n14
    have R := fun o => HP.out _ _ (HF.out 9 ho o)
    clear HO HP HF ho n9 n14
    go_wp2
    exact bodyPost_ret (results_row_tmp (p := 8) (u := 9) (ty := 58) rfl _ _ w.heap.size 58 _ (0, 0) _ rfl (HS5.out _ _ _ _ _ _) Try.underlying58 rfl (by kernel_rfl)) rfl (R _)
end Go.Proofs.Ytbcadklodjdokaa