/-
  Worlds in which all lies as it lay; lists of lists of numbers; the document's small functions: a number without its sign, whether ground may be, the ground of a column, what a feature claims.
-/
import Derived.Test.YtbdjgaagafnfaaaGreatBmath
import Derived.Test.YtbdjgaagafnfaaaGreatRHash
import Derived.Test.YtbdjgaagafnfaaaGreatNDiv
import Derived.Test.YtbdjgaagafnfaaaGreatTbase
import Derived.Test.YtbdjgaagafnfaaaGreatHsince
import Derived.BigQuiet
import Derived.StillTailTactics
import Derived.Deep.QuietTactic
import Derived.Lib.Walk
set_option maxRecDepth 20000
namespace Go.Proofs.YtbdjgaagafnfaaaGreat
open C Go.RowKit

theorem set_two {W : World} {B : Nat} {T : TypeId} {a b u v : Value} (h : W.heap[B]? = some (.cells #[a, b] T (0, 0))) : ((W.setCell ⟨B, 0, none⟩ u).setCell ⟨B, 1, none⟩ v).heap[B]? = some (.cells #[u, v] T (0, 0)) := by
  rw [heap_setCell_same _ B 1 _ T _ (heap_setCell_same W B 0 _ T _ h)]
  rfl
theorem new_two (w : World) (o1 o2 : Obj) : ((w.alloc o1).alloc o2).heap[w.heap.size + 1]? = some o2 := by
  have := heap_alloc_new (w.alloc o1) o2
  rwa [World.size_alloc] at this
theorem below_two (w : World) (o1 o2 : Obj) : Below w.heap.size w ((w.alloc o1).alloc o2) := ((Below.refl _ _).alloc (Nat.le_refl _) _).alloc (by simp) _
/-- A struct in a cell and one more are handed back. -/
theorem results_row_tmp {P : Program} {fn : Func} {p u : Tmp} {ty : TypeId} (h : fn.results = #[.cell p ty, .tmp u]) (tmps : Array Value) (w : World) (g : Nat) (t : TypeId) (cs : Array Value) (fr : Nat × Nat) (d : TypeDesc)
    (hp : tmps.getD p undef = .pointer (some ⟨g, 0, none⟩)) (hg : w.heap[g]? = some (.cells cs t fr))
    (hu : P.underlying ty = some d) (hd : (match d with | .struct _ | .array _ _ => true | _ => false) = true) (hi : (P.info? ty).map (·.size) = some cs.size) :
    (results fn tmps).run P w = .ok (.tuple #[.agg cs, tmps.getD u undef]) w := by
  rw [results_cell_tmp h, hp]
  simp [asAddr, run_loadVar_row w g t ty cs fr d hg hu hd hi, Result.andThen]

abbrev set5 (w : World) (b : Nat) (v0 v1 v2 v3 v4 : Value) : World := ((((w.setCell ⟨b, 0, none⟩ v0).setCell ⟨b, 1, none⟩ v1).setCell ⟨b, 2, none⟩ v2).setCell ⟨b, 3, none⟩ v3).setCell ⟨b, 4, none⟩ v4
theorem set5_below {B : Nat} {a w : World} {b : Nat} (h : Below B a w) (v0 v1 v2 v3 v4 : Value) (hb : B ≤ b := by omega) : Below B a (set5 w b v0 v1 v2 v3 v4) :=
  ((((h.setCell (p := ⟨b, 0, none⟩) hb _).setCell (p := ⟨b, 1, none⟩) hb _).setCell (p := ⟨b, 2, none⟩) hb _).setCell (p := ⟨b, 3, none⟩) hb _).setCell (p := ⟨b, 4, none⟩) hb _
theorem set5_size (w : World) (b : Nat) (v0 v1 v2 v3 v4 : Value) : (set5 w b v0 v1 v2 v3 v4).heap.size = w.heap.size := by simp [World.setCell]
theorem set5_row {W : World} {B : Nat} {T : TypeId} {a b c d e : Value} (h : W.heap[B]? = some (.cells #[a, b, c, d, e] T (0, 0))) (v0 v1 v2 v3 v4 : Value) : (set5 W B v0 v1 v2 v3 v4).heap[B]? = some (.cells #[v0, v1, v2, v3, v4] T (0, 0)) := by
  unfold set5
  rw [heap_setCell_same _ B 4 _ T _ (heap_setCell_same _ B 3 _ T _ (heap_setCell_same _ B 2 _ T _ (heap_setCell_same _ B 1 _ T _ (heap_setCell_same W B 0 _ T _ h))))]
  rfl
theorem heap_alloc_old (w : World) (o : Obj) {k : Nat} (h : k < w.heap.size) : (w.alloc o).heap[k]? = w.heap[k]? := ((Below.refl w.heap.size w).alloc (Nat.le_refl _) o).block k h

/-! ### bits -/
theorem i64_mask (k : Nat) (m n : Int) (h : (BitVec.ofInt 64 m).toNat = 2 ^ k - 1) (hk : k ≤ 62) : bits .and .i64 n m = n % ((2 ^ k : Nat) : Int) := by
  have key : (BitVec.ofInt 64 n &&& BitVec.ofInt 64 m).toNat = (n % ((2 ^ 64 : Nat) : Int)).toNat % 2 ^ k := by
    rw [BitVec.toNat_and, BitVec.toNat_ofInt, h, Nat.and_two_pow_sub_one_eq_mod]
  show IntKind.i64.wrap ((BitVec.ofInt 64 n &&& BitVec.ofInt 64 m).toNat : Nat) = _
  have hd : ((2 ^ k : Nat) : Int) ∣ ((2 ^ 64 : Nat) : Int) := by exact_mod_cast Nat.pow_dvd_pow 2 (by omega)
  have hp : 0 < 2 ^ k := Nat.two_pow_pos k
  have hl : 2 ^ k ≤ 2 ^ 62 := Nat.pow_le_pow_right (by omega) hk
  have e : (((n % ((2 ^ 64 : Nat) : Int)).toNat % 2 ^ k : Nat) : Int) = n % ((2 ^ k : Nat) : Int) := by
    rw [Int.natCast_emod, Int.toNat_of_nonneg (Int.emod_nonneg _ (by decide)), Int.emod_emod_of_dvd n hd]
  rw [key, e, IntKind.wrap_i64]
  have h1 := Int.emod_nonneg n (show ((2 ^ k : Nat) : Int) ≠ 0 by omega)
  have h2 := Int.emod_lt_of_pos n (show 0 < ((2 ^ k : Nat) : Int) by omega)
  omega
theorem and15 (n : Int) : bits .and .i64 n 15 = n % 16 := i64_mask 4 15 n (by decide) (by omega)
theorem and7 (n : Int) : bits .and .i64 n 7 = n % 8 := i64_mask 3 7 n (by decide) (by omega)
theorem and1 (n : Int) : bits .and .i64 n 1 = n % 2 := i64_mask 1 1 n (by decide) (by omega)

/-! ### lists of lists of numbers -/
structure Rows2 (w : World) (a : Option Addr) (ls : List (List Int)) : Prop where
  row : ∀ i, i < ls.length → ∃ b o ai ci, a = some ⟨b, o, none⟩ ∧ w.cell? ⟨b, o + i, none⟩ = some (.slice ai (ls.getD i []).length ci) ∧ IntsAt w ai (ls.getD i []).length (ls.getD i [])
theorem Rows2.on {w w' : World} {a : Option Addr} {ls : List (List Int)} (h : Rows2 w a ls) (hb : Below w.heap.size w w') : Rows2 w' a ls :=
  ⟨fun i hi => by
    obtain ⟨b, o, ai, ci, e, hc, hI⟩ := h.row i hi
    exact ⟨b, o, ai, ci, e, cell_below hc hb, hI.on hb⟩⟩
/-- Ground that may be: nine lists of 256, each number from 0 on, below m. -/
def okG (m : Int) (ls : List (List Int)) : Prop := ls.length = 9 ∧ ∀ i, i < 9 → (ls.getD i []).length = 256 ∧ ∀ k, k < 256 → 0 ≤ (ls.getD i []).getD k 0 ∧ (ls.getD i []).getD k 0 < m
theorem okG_no {m : Int} {ls : List (List Int)} {i k : Nat} (hi : i < 9) (hk : k < 256) (h : (ls.getD i []).getD k 0 < 0 ∨ m ≤ (ls.getD i []).getD k 0) : ¬ okG m ls := fun ⟨_, hg⟩ => by
  have := (hg i hi).2 k hk
  omega
theorem gAt_bd {m cx cz x z : Int} {ls : List (List Int)} (h : okG m ls) (hn : nearB cx cz x z = true) : 0 ≤ gAt cx cz ls x z ∧ gAt cx cz ls x z < m := by
  unfold nearB at hn
  have hn' := of_decide_eq_true hn
  exact (h.2 _ (by omega)).2 _ (by omega)

theorem rsize_c (n v : Int) (w : World) (hv : absI n = v) (h0 : -9000000000000000000 ≤ n) (h1 : n ≤ 9000000000000000000) : Calls Tryz.prog 50 #[.int .i64 n] w fun e w' => e = .returned (.int .i64 v) ∧ w' = w := by
  by_cases h : n < 0
  · obtain rfl : -n = v := by rw [← hv]; unfold absI; rw [if_pos h]
    clear hv
    go_enter Tryz.func50, Tryz.ntmps50
    go_wp2
    go_ret
    exact ⟨rfl, rfl⟩
  · obtain rfl : n = v := by rw [← hv]; unfold absI; rw [if_neg h]
    clear hv
    go_enter Tryz.func50, Tryz.ntmps50
    go_wp2
    go_ret
    exact ⟨rfl, rfl⟩
/-! ### whether ground may be -/
def MaySay (b : Bool) (w : World) (e : Ending) (w' : World) : Prop := e = .returned (.bool b) ∧ w' = w
set_option maxHeartbeats 2000000 in
theorem rmay_c (a : Option Addr) (n c : Nat) (m : Int) (ls : List (List Int)) (b : Bool) (w : World) (hR : Rows2 w a ls) (hl : ls.length = n) (hn : n ≤ 1000000) (hs : ∀ i, i < n → (ls.getD i []).length ≤ 1000000) (hb : b = true ↔ okG m ls) :
    Calls Tryz.prog 26 #[.slice a n c, .int .i64 m] w (MaySay b w) := by
  obtain ⟨Post, hPost⟩ : ∃ Post, Post = MaySay b w := ⟨_, rfl⟩
  rw [← hPost]
  have HP : Hid (Post (.returned (.bool b)) w) := by show Post _ _; rw [hPost]; exact ⟨rfl, rfl⟩
  clear hPost
  have no : ¬ okG m ls → b = false := fun h => by
    rcases b with _ | _
    · rfl
    · exact absurd (hb.1 rfl) h
  by_cases hn1 : n = 9
  case neg =>
    have hn2 : ((n : Int) == 9) = false := by simp; omega
    obtain rfl := no (fun h => hn1 (hl.symm.trans h.1))
    have R := HP.out
    clear HP hb hR no hs
    go_enter Tryz.func26, Tryz.ntmps26
    go_wp2
    exact R
  subst hn1
  have HR : Hid (Rows2 w a ls) := hR
  have Hb : Hid (b = true ↔ okG m ls) := hb
  have Hno : Hid (¬ okG m ls → b = false) := no
  have Hl : Hid (ls.length = 9 ∧ ∀ i, i < 9 → (ls.getD i []).length ≤ 1000000) := ⟨hl, hs⟩
  clear hR hb no hl hs hn
  go_enter Tryz.func26, Tryz.ntmps26
  go_wp2
  go_loop [5] (fun v => ∃ I : Nat, v = .int .i64 (I : Int) ∧ I ≤ 9 ∧ Hid (∀ i, i < I → (ls.getD i []).length = 256 ∧ ∀ k, k < 256 → 0 ≤ (ls.getD i []).getD k 0 ∧ (ls.getD i []).getD k 0 < m)) (fun v => 9 - (intOf v).toNat)
  case atStart => exact ⟨0, rfl, by omega, fun i hi => by omega⟩
  case round =>
    obtain ⟨I, rfl, hI, HI⟩ := hrel
    by_cases hlt : I < 9
    case neg =>
      have hge : ¬ (I : Int) < 9 := by omega
      obtain rfl : b = true := Hb.out.2 ⟨Hl.out.1, fun i hi => HI.out i (by omega)⟩
      have R := HP.out
      clear HP Hb HI HR Hno Hl
      go_wp2
      exact R
    have hlt' : (I : Int) < 9 := by omega
    obtain ⟨bb, o, ai, ci, rfl, hc, hIn⟩ := HR.out.row I (by rw [Hl.out.1]; exact hlt)
    have hll := Hl.out.2 I hlt
    have HN : Hid (∀ h : (ls.getD I []).length ≠ 256 ∨ ∃ k, k < 256 ∧ ((ls.getD I []).getD k 0 < 0 ∨ m ≤ (ls.getD I []).getD k 0), ¬ okG m ls) := fun h ho => by
      have := ho.2 I hlt
      rcases h with h | ⟨k, hk, h⟩
      · exact h this.1
      · have := this.2 k hk
        omega
    have HY : Hid ((ls.getD I []).length = 256 → (∀ k, k < 256 → 0 ≤ (ls.getD I []).getD k 0 ∧ (ls.getD I []).getD k 0 < m) → ∀ i, i < I + 1 → (ls.getD i []).length = 256 ∧ ∀ k, k < 256 → 0 ≤ (ls.getD i []).getD k 0 ∧ (ls.getD i []).getD k 0 < m) := fun h1 h2 i hi => by
      by_cases e : i = I
      · rw [e]; exact ⟨h1, h2⟩
      · exact HI.out i (by omega)
    generalize ls.getD I [] = row at *
    by_cases hr : row.length = 256
    case neg =>
      obtain rfl := Hno.out (HN.out (.inl hr))
      have hr2 : ((row.length : Int) == 256) = false := by simp; omega
      have R := HP.out
      clear HP Hb HI HR Hno Hl HN HY hIn
      go_wp2
      exact R
    rw [hr] at hc
    have HIn : Hid (IntsAt w ai 256 row) := by show IntsAt _ _ _ _; rw [hr] at hIn; exact hIn
    obtain ⟨gb, go, rfl⟩ := HIn.out.some (by omega)
    clear hIn hll
    go_wp2
    go_loop [6] (fun v => ∃ K : Nat, v = .int .i64 (K : Int) ∧ K ≤ 256 ∧ Hid (∀ k, k < K → 0 ≤ row.getD k 0 ∧ row.getD k 0 < m)) (fun v => 256 - (intOf v).toNat)
    case atStart => exact ⟨0, rfl, by omega, fun k hk => by omega⟩
    case round =>
      obtain ⟨K, rfl, hK, HK⟩ := hrel
      by_cases hk : K < 256
      case neg =>
        have hge : ¬ (K : Int) < 256 := by omega
        have HI2 := HY.out hr (fun k h => HK.out k (by omega))
        have HI3 : Hid (∀ i, i < I + 1 → (ls.getD i []).length = 256 ∧ ∀ k, k < 256 → 0 ≤ (ls.getD i []).getD k 0 ∧ (ls.getD i []).getD k 0 < m) := HI2
        clear HI2 HK HY HN HI
        go_wp2
        exact ⟨⟨I + 1, by simp, by omega, HI3⟩, by simp [intOf]; omega⟩
      have hk' : (K : Int) < 256 := by omega
      have c1 := HIn.out.at K hk
      have HN2 : Hid (row.getD K 0 < 0 ∨ m ≤ row.getD K 0 → ¬ okG m ls) := fun h => HN.out (.inr ⟨K, hk, h⟩)
      have HK2 : Hid (0 ≤ row.getD K 0 → row.getD K 0 < m → ∀ k, k < K + 1 → 0 ≤ row.getD k 0 ∧ row.getD k 0 < m) := fun h1 h2 k h => by
        by_cases e : k = K
        · rw [e]; exact ⟨h1, h2⟩
        · exact HK.out k (by omega)
      generalize row.getD K 0 = v at *
      by_cases v0 : v < 0
      · obtain rfl := Hno.out (HN2.out (.inl v0))
        have R := HP.out
        clear HP Hb HI HR Hno Hl HN HY HIn HK HK2 HN2
        go_wp2
        exact R
      by_cases v1 : m ≤ v
      · obtain rfl := Hno.out (HN2.out (.inr v1))
        have R := HP.out
        clear HP Hb HI HR Hno Hl HN HY HIn HK HK2 HN2
        go_wp2
        exact R
      · have HK3 : Hid (∀ k, k < K + 1 → 0 ≤ row.getD k 0 ∧ row.getD k 0 < m) := HK2.out (by omega) (by omega)
        clear HK2 HK HN2
        go_wp2
        exact ⟨⟨K + 1, by simp, by omega, HK3⟩, by simp [intOf]; omega⟩
end Go.Proofs.YtbdjgaagafnfaaaGreat