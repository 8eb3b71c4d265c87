/-
  Worlds in which all lies as it lay; lists of lists of numbers; the document's small functions: a number without its sign, whether ground may be, the ground of a column, what a feature claims.
-/
import Derived.Test.YtbdjgaagafnfaaaBmath
import Derived.Test.YtbdjgaagafnfaaaRHash
import Derived.Test.YtbdjgaagafnfaaaNDiv
import Derived.Test.YtbdjgaagafnfaaaTbase
import Derived.Test.YtbdjgaagafnfaaaHsince
import Derived.BigQuiet
import Derived.StillTailTactics
import Derived.Deep.QuietTactic
import Derived.Lib.Walk
set_option maxRecDepth 20000
namespace Go.Proofs.Ytbdjgaagafnfaaa
open C Go.RowKit

theorem set_two {W : World} {B : Nat} {T : TypeId} {a b u v : Value} (h : W.heap[B]? = some (.cells #[a, b] T (0, 0))) : ((W.setCell ⟨B, 0, none⟩ u).setCell ⟨B, 1, none⟩ v).heap[B]? = some (.cells #[u, v] T (0, 0)) := by
  rw [heap_setCell_same _ B 1 _ T _ (heap_setCell_same W B 0 _ T _ h)]
  rfl
theorem new_two (w : World) (o1 o2 : Obj) : ((w.alloc o1).alloc o2).heap[w.heap.size + 1]? = some o2 := by
  have := heap_alloc_new (w.alloc o1) o2
  rwa [World.size_alloc] at this
theorem below_two (w : World) (o1 o2 : Obj) : Below w.heap.size w ((w.alloc o1).alloc o2) := ((Below.refl _ _).alloc (Nat.le_refl _) _).alloc (by simp) _
/-- A struct in a cell and one more are handed back. -/
theorem results_row_tmp {P : Program} {fn : Func} {p u : Tmp} {ty : TypeId} (h : fn.results = #[.cell p ty, .tmp u]) (tmps : Array Value) (w : World) (g : Nat) (t : TypeId) (cs : Array Value) (fr : Nat × Nat) (d : TypeDesc)
    (hp : tmps.getD p undef = .pointer (some ⟨g, 0, none⟩)) (hg : w.heap[g]? = some (.cells cs t fr))
    (hu : P.underlying ty = some d) (hd : (match d with | .struct _ | .array _ _ => true | _ => false) = true) (hi : (P.info? ty).map (·.size) = some cs.size) :
    (results fn tmps).run P w = .ok (.tuple #[.agg cs, tmps.getD u undef]) w := by
  rw [results_cell_tmp h, hp]
  simp [asAddr, run_loadVar_row w g t ty cs fr d hg hu hd hi, Result.andThen]

abbrev set5 (w : World) (b : Nat) (v0 v1 v2 v3 v4 : Value) : World := ((((w.setCell ⟨b, 0, none⟩ v0).setCell ⟨b, 1, none⟩ v1).setCell ⟨b, 2, none⟩ v2).setCell ⟨b, 3, none⟩ v3).setCell ⟨b, 4, none⟩ v4
theorem set5_below {B : Nat} {a w : World} {b : Nat} (h : Below B a w) (v0 v1 v2 v3 v4 : Value) (hb : B ≤ b := by omega) : Below B a (set5 w b v0 v1 v2 v3 v4) :=
  ((((h.setCell (p := ⟨b, 0, none⟩) hb _).setCell (p := ⟨b, 1, none⟩) hb _).setCell (p := ⟨b, 2, none⟩) hb _).setCell (p := ⟨b, 3, none⟩) hb _).setCell (p := ⟨b, 4, none⟩) hb _
theorem set5_size (w : World) (b : Nat) (v0 v1 v2 v3 v4 : Value) : (set5 w b v0 v1 v2 v3 v4).heap.size = w.heap.size := by simp [World.setCell]
theorem set5_row {W : World} {B : Nat} {T : TypeId} {a b c d e : Value} (h : W.heap[B]? = some (.cells #[a, b, c, d, e] T (0, 0))) (v0 v1 v2 v3 v4 : Value) : (set5 W B v0 v1 v2 v3 v4).heap[B]? = some (.cells #[v0, v1, v2, v3, v4] T (0, 0)) := by
  unfold set5
  rw [heap_setCell_same _ B 4 _ T _ (heap_setCell_same _ B 3 _ T _ (heap_setCell_same _ B 2 _ T _ (heap_setCell_same _ B 1 _ T _ (heap_setCell_same W B 0 _ T _ h))))]
  rfl
theorem heap_alloc_old (w : World) (o : Obj) {k : Nat} (h : k < w.heap.size) : (w.alloc o).heap[k]? = w.heap[k]? := ((Below.refl w.heap.size w).alloc (Nat.le_refl _) o).block k h

/-! ### bits -/
theorem i64_mask (k : Nat) (m n : Int) (h : (BitVec.ofInt 64 m).toNat = 2 ^ k - 1) (hk : k ≤ 62) : bits .and .i64 n m = n % ((2 ^ k : Nat) : Int) := by
  have key : (BitVec.ofInt 64 n &&& BitVec.ofInt 64 m).toNat = (n % ((2 ^ 64 : Nat) : Int)).toNat % 2 ^ k := by
    rw [BitVec.toNat_and, BitVec.toNat_ofInt, h, Nat.and_two_pow_sub_one_eq_mod]
  show IntKind.i64.wrap ((BitVec.ofInt 64 n &&& BitVec.ofInt 64 m).toNat : Nat) = _
  have hd : ((2 ^ k : Nat) : Int) ∣ ((2 ^ 64 : Nat) : Int) := by exact_mod_cast Nat.pow_dvd_pow 2 (by omega)
  have hp : 0 < 2 ^ k := Nat.two_pow_pos k
  have hl : 2 ^ k ≤ 2 ^ 62 := Nat.pow_le_pow_right (by omega) hk
  have e : (((n % ((2 ^ 64 : Nat) : Int)).toNat % 2 ^ k : Nat) : Int) = n % ((2 ^ k : Nat) : Int) := by
    rw [Int.natCast_emod, Int.toNat_of_nonneg (Int.emod_nonneg _ (by decide)), Int.emod_emod_of_dvd n hd]
  rw [key, e, IntKind.wrap_i64]
  have h1 := Int.emod_nonneg n (show ((2 ^ k : Nat) : Int) ≠ 0 by omega)
  have h2 := Int.emod_lt_of_pos n (show 0 < ((2 ^ k : Nat) : Int) by omega)
  omega
theorem and15 (n : Int) : bits .and .i64 n 15 = n % 16 := i64_mask 4 15 n (by decide) (by omega)
theorem and7 (n : Int) : bits .and .i64 n 7 = n % 8 := i64_mask 3 7 n (by decide) (by omega)
theorem and1 (n : Int) : bits .and .i64 n 1 = n % 2 := i64_mask 1 1 n (by decide) (by omega)

/-! ### lists of lists of numbers -/
structure Rows2 (w : World) (a : Option Addr) (ls : List (List Int)) : Prop where
  row : ∀ i, i < ls.length → ∃ b o ai ci, a = some ⟨b, o, none⟩ ∧ w.cell? ⟨b, o + i, none⟩ = some (.slice ai (ls.getD i []).length ci) ∧ IntsAt w ai (ls.getD i []).length (ls.getD i [])
theorem Rows2.on {w w' : World} {a : Option Addr} {ls : List (List Int)} (h : Rows2 w a ls) (hb : Below w.heap.size w w') : Rows2 w' a ls :=
  ⟨fun i hi => by
    obtain ⟨b, o, ai, ci, e, hc, hI⟩ := h.row i hi
    exact ⟨b, o, ai, ci, e, cell_below hc hb, hI.on hb⟩⟩
/-- Ground that may be: nine lists of 256, each number from 0 on, below m. -/
def okG (m : Int) (ls : List (List Int)) : Prop := ls.length = 9 ∧ ∀ i, i < 9 → (ls.getD i []).length = 256 ∧ ∀ k, k < 256 → 0 ≤ (ls.getD i []).getD k 0 ∧ (ls.getD i []).getD k 0 < m
theorem okG_no {m : Int} {ls : List (List Int)} {i k : Nat} (hi : i < 9) (hk : k < 256) (h : (ls.getD i []).getD k 0 < 0 ∨ m ≤ (ls.getD i []).getD k 0) : ¬ okG m ls := fun ⟨_, hg⟩ => by
  have := (hg i hi).2 k hk
  omega
theorem gAt_bd {m cx cz x z : Int} {ls : List (List Int)} (h : okG m ls) (hn : nearB cx cz x z = true) : 0 ≤ gAt cx cz ls x z ∧ gAt cx cz ls x z < m := by
  unfold nearB at hn
  have hn' := of_decide_eq_true hn
  exact (h.2 _ (by omega)).2 _ (by omega)

theorem rsize_c (n v : Int) (w : World) (hv : absI n = v) (h0 : -9000000000000000000 ≤ n) (h1 : n ≤ 9000000000000000000) : Calls Try.prog 33 #[.int .i64 n] w fun e w' => e = .returned (.int .i64 v) ∧ w' = w := by
  by_cases h : n < 0
  · obtain rfl : -n = v := by rw [← hv]; unfold absI; rw [if_pos h]
    clear hv
    go_enter Try.func33, Try.ntmps33
    go_wp2
    go_ret
    exact ⟨rfl, rfl⟩
  · obtain rfl : n = v := by rw [← hv]; unfold absI; rw [if_neg h]
    clear hv
    go_enter Try.func33, Try.ntmps33
    go_wp2
    go_ret
    exact ⟨rfl, rfl⟩
/-! ### whether ground may be -/
def MaySay (b : Bool) (w : World) (e : Ending) (w' : World) : Prop := e = .returned (.bool b) ∧ w' = w
end Go.Proofs.Ytbdjgaagafnfaaa