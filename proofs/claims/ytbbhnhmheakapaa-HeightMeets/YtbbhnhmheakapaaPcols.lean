/-
  The landed height: Of and Band; the columns of a chunk one after the other, for every body that leaves the chunk's box alone.
-/
import Derived.Test.YtbbhnhmheakapaaHbase
import Derived.RangeFuncNested
import Derived.RangeFuncBound
import Derived.RangeFuncCalls
import Derived.RangeFuncLeaves
import Derived.RangeFuncBox
import Derived.Shelf.Abstract
import Derived.Shelf.RegionOpen
import Derived.OwnWalkIn
import Derived.TacticsInMore
import Derived.LoopNIn
import Derived.LoopIn
import Derived.WalkMore
set_option maxRecDepth 20000
namespace Go.Proofs.Ytbbhnhmheakapaa
open N Go.RowKit Go.Shelf

theorem of_c (S : Nat) (x z : Int) (w : World) (hS : S < 18446744073709551616) (hx : I64 x) (hz : I64 z) :
    Calls Try.prog 8 #[.int .u64 S, .int .i64 x, .int .i64 z] w fun e w' => e = .returned (.int .i64 (hOf S x z)) ∧ Below w.heap.size w w' := by
  obtain ⟨Post, hPost⟩ : ∃ Post : Ending → World → Prop, Post = fun e w' => e = .returned (.int .i64 (hOf S x z)) ∧ Below w.heap.size w w' := ⟨_, rfl⟩
  rw [← hPost]
  have HP : Hid (∀ v w', v = hOf S x z → Below w.heap.size w w' → Post (.returned (.int .i64 v)) w') := fun v w' h1 h2 => by rw [hPost]; exact ⟨by rw [h1], h2⟩
  clear hPost
  go_enter Try.func8, Try.ntmps8
  go_wp2_with fail
  refine (octaves_any S 10 x z 6 4 w hS (by omega) hx hz (by omega)).mono ?_
  rintro _ w1 ⟨rfl, hb1⟩
  have hO := octN_bd S 10 x z 6 4
  have R := HP.out (20 + 72 * octN S 10 x z 6 4 / 65536) w1 rfl hb1
  clear HP hb1
  generalize octN S 10 x z 6 4 = O at *
  have e1 : Int.tdiv (72 * O) 65536 = 72 * O / 65536 := Int.tdiv_eq_ediv_of_nonneg (by omega)
  go_wp2
  exact R
theorem band_c (S : Nat) (x z : Int) (w : World) (hS : S < 18446744073709551616) (hx : I64 x) (hz : I64 z) :
    Calls Try.prog 9 #[.int .u64 S, .int .i64 x, .int .i64 z] w fun e w' => e = .returned (.int .i64 (bandOf S x z)) ∧ Below w.heap.size w w' := by
  obtain ⟨Post, hPost⟩ : ∃ Post : Ending → World → Prop, Post = fun e w' => e = .returned (.int .i64 (bandOf S x z)) ∧ Below w.heap.size w w' := ⟨_, rfl⟩
  rw [← hPost]
  have HP : Hid (∀ v w', v = bandOf S x z → Below w.heap.size w w' → Post (.returned (.int .i64 v)) w') := fun v w' h1 h2 => by rw [hPost]; exact ⟨by rw [h1], h2⟩
  clear hPost
  go_enter Try.func9, Try.ntmps9
  go_wp2_with fail
  refine (octaves_any S 11 x z 7 2 w hS (by omega) hx hz (by omega)).mono ?_
  rintro _ w1 ⟨rfl, hb1⟩
  have R := fun v h => HP.out v w1 h hb1
  clear HP hb1
  unfold bandOf at R
  generalize octN S 11 x z 7 2 = O at *
  by_cases h1 : O < 16000
  · have R := R 2 (by rw [if_pos h1])
    go_wp2
  · by_cases h2 : O < 25000
    · have R := R 0 (by rw [if_neg h1, if_pos h2])
      go_wp2
    · by_cases h3 : O < 36000
      · have R := R 1 (by rw [if_neg h1, if_neg h2, if_pos h3])
        go_wp2
      · have R := R 3 (by rw [if_neg h1, if_neg h2, if_neg h3])
        go_wp2

/-! ### the columns -/
structure P2 where
  x : Int
  z : Int
  hx : I64 x
  hz : I64 z
def ps (l : List P2) : List (Int × Int) := l.map fun p => (p.x, p.z)
theorem ps_snoc (l : List P2) (p : P2) : ps (l ++ [p]) = ps l ++ [(p.x, p.z)] := by simp [ps]
theorem ps_len (l : List P2) : (ps l).length = l.length := by simp [ps]
def colsL (x z : Int) (n : Nat) : List (Int × Int) := (List.range n).map fun (i : Nat) => (x * 16 + (i : Int) % 16, z * 16 + (i : Int) / 16)
theorem colsL_len (x z : Int) (n : Nat) : (colsL x z n).length = n := by simp [colsL]
theorem colsL_next (x z : Int) (K I : Nat) (hI : I < 16) : colsL x z (K * 16 + I + 1) = colsL x z (K * 16 + I) ++ [(x * 16 + (I : Int), z * 16 + (K : Int))] := by
  have e1 : ((K * 16 + I : Nat) : Int) % 16 = I := by omega
  have e2 : ((K * 16 + I : Nat) : Int) / 16 = K := by omega
  simp only [colsL, List.range_succ, List.map_append, List.map_cons, List.map_nil, e1, e2]
theorem colsL_prefix (x z : Int) {m n : Nat} (h : m ≤ n) : colsL x z m <+: colsL x z n := by
  obtain ⟨d, rfl⟩ := Nat.exists_eq_add_of_le h
  clear h
  induction d with
  | zero => exact List.prefix_refl _
  | succ d ih =>
    have e : colsL x z (m + (d + 1)) = colsL x z (m + d) ++ [(x * 16 + ((m + d : Nat) : Int) % 16, z * 16 + ((m + d : Nat) : Int) / 16)] := by simp [colsL, ← Nat.add_assoc, List.range_succ]
    rw [e]
    exact ih.trans (List.prefix_append _ _)

/-- What a round must leave alone: the box of the chunk. -/
def Kc (B : Nat) (W W' : World) : Prop := ∀ cs t fr, W.heap[B]? = some (.cells cs t fr) → W'.heap[B]? = some (.cells cs t fr)
theorem Kc.trans {B : Nat} {X Y Z : World} (h : Kc B X Y) (k : Kc B Y Z) : Kc B X Z := fun cs t fr e => k cs t fr (h cs t fr e)
theorem Kc.refl (B : Nat) (W : World) : Kc B W W := fun _ _ _ e => e
/-- The loop's own books are no cells. -/
theorem Kc.book {B : Nat} (W : World) (l : Nat) (o o' : Obj) (h : W.heap[l]? = some o) (ho : o.isCells = false) : Kc B W (W.putObj l o') := fun _ _ _ e => by
  refine ((grownBy_putObj' W l o').block B (Array.getElem?_eq_some_iff.1 e).1 (fun e' => ?_)).trans e
  have e'' : B = l := by simpa using e'
  rw [e'', h] at e
  cases e
  cases ho
theorem Kc.grow {B : Nat} {W W' : World} (h : W.grownBy W' none) : Kc B W W' := fun _ _ _ e => (h.block B (Array.getElem?_eq_some_iff.1 e).1 (fun e' => by cases e')).trans e
theorem Kc.below {B : Nat} {W W' : World} (h : Below W.heap.size W W') : Kc B W W' := fun _ _ _ e => (h.block B (Array.getElem?_eq_some_iff.1 e).1).trans e
theorem Kc.set {B b k : Nat} {W : World} {v : Value} (h : b ≠ B) : Kc B W (W.setCell ⟨b, k, none⟩ v) := fun _ _ _ e =>
  (Below.heap_setCell W ⟨b, k, none⟩ v B (fun e' => h e'.symm)).trans e
theorem Kc.row {B : Nat} {W W' : World} {row : Option Nat} (h : W.grownBy W' row) (hr : ∀ r, row = some r → r ≠ B) : Kc B W W' := fun _ _ _ e =>
  (h.block B (Array.getElem?_eq_some_iff.1 e).1 (fun e' => hr B e'.symm rfl)).trans e
/-- The box of a chunk. -/
def Cbox (W : World) (B : Nat) (x z : Int) : Prop := W.heap[B]? = some (.cells #[.int .i64 x, .int .i64 z] 27 (0, 0))
theorem Cbox.cells {W : World} {B : Nat} {x z : Int} (h : Cbox W B x z) : W.cell? ⟨B, 0, none⟩ = some (.int .i64 x) ∧ W.cell? ⟨B, 1, none⟩ = some (.int .i64 z) :=
  ⟨(cell_of_row W B 0 _ 27 (0, 0) h).trans rfl, (cell_of_row W B 1 _ 27 (0, 0) h).trans rfl⟩

section
attribute [local go_sem] Oper.semAt_some
set_option maxRecDepth 100000 in
set_option maxHeartbeats 2000000 in
theorem cols1_c (n : Nat) (hn : 1 ≤ n) (l B : Nat) (x z : Int) (hx : Far 1073741825 x) (hz : Far 1073741825 z) (J Jx : List P2 → World → Prop) (W : World)
    (hY : ∀ pre (p : P2) W1, J pre W1 → pre.length < 256 → YieldAt Fence.wide (n - 1) Try.prog l #[.int .i64 p.x, .int .i64 p.z] W1 fun e W' =>
      (e = .returned (.bool true) ∧ J (pre ++ [p]) W' ∧ Kc B W1 W') ∨ (e = .returned (.bool false) ∧ Jx (pre ++ [p]) W'))
    (hB : Cbox W B x z) (hJ : J [] W) :
    CallsIn Fence.wide n Try.prog 30 #[.func (.yield l) #[] #[], .pointer (some ⟨B, 0, none⟩)] W fun e W' => (∃ v, e = .returned v) ∧ ((∃ xs, ps xs = colsL x z 256 ∧ J xs W') ∨ ∃ pre, ps pre <+: colsL x z 256 ∧ Jx pre W') := by
  obtain ⟨x0, x1⟩ := hx
  obtain ⟨z0, z1⟩ := hz
  have HB : Hid (Cbox W B x z) := hB
  clear hB
  refine callsIn_of_wp Try.func30 rfl trivial ?_ rfl
  simp only [Try.ntmps30, List.size_toArray, List.length_cons, List.length_nil, Nat.reduceAdd, Nat.reduceSub, Array.replicate_succ, Array.replicate_zero, List.push_toArray, List.append_toArray, List.nil_append, List.cons_append]
  gi_wp2
  gi_loopw [5] (fun y wr => ∃ (K : Nat), y = .int .i64 (K : Int) ∧ K ≤ 16 ∧ Hid (Cbox wr B x z) ∧ Hid (∃ pre, ps pre = colsL x z (K * 16) ∧ J pre wr)) (fun y _ => 16 - (intOf y).toNat)
  case atStart => exact ⟨0, rfl, by omega, HB.out, [], rfl, hJ⟩
  case round =>
    clear HB hJ
    obtain ⟨K, rfl, hK, HB, HJ⟩ := hrel
    by_cases hlt : K < 16
    · have hlt' : (K : Int) < 16 := by omega
      gi_wp2
      gi_loopw [8] (fun y wr => ∃ (I : Nat), y = .int .i64 (I : Int) ∧ I ≤ 16 ∧ Hid (Cbox wr B x z) ∧ Hid (∃ pre, ps pre = colsL x z (K * 16 + I) ∧ J pre wr)) (fun y _ => 16 - (intOf y).toNat)
      case atStart => exact ⟨0, rfl, by omega, HB, HJ⟩
      case round =>
        clear HB HJ
        obtain ⟨I, rfl, hI, HB, HJ⟩ := hrel
        by_cases hli : I < 16
        · have hli' : (I : Int) < 16 := by omega
          obtain ⟨k0, k1⟩ := HB.out.cells
          obtain ⟨pre, hp, hj⟩ := HJ.out
          have Hp : Hid (ps pre = colsL x z (K * 16 + I)) := hp
          have hlen : pre.length < 256 := by rw [← ps_len, hp, colsL_len]; omega
          obtain ⟨fn, tmps, assign, body, hy, hR⟩ := hY pre ⟨x * 16 + (I : Int), z * 16 + (K : Int), by unfold I64; omega, by unfold I64; omega⟩ wr hj hlen
          dsimp only at hy
          clear hp hj HJ hlen
          gi_wp2
          refine hR.mono ?_
          clear hy hR k0 k1
          rintro e W3 (⟨rfl, hJ6, hk⟩ | ⟨rfl, hx⟩)
          · have HB6 : Hid (Cbox W3 B x z) := hk _ _ _ HB.out
            have HJ6 : Hid (∃ pre, ps pre = colsL x z (K * 16 + (I + 1)) ∧ J pre W3) := ⟨_, by rw [ps_snoc, ← Nat.add_assoc, colsL_next x z K I hli, Hp.out], hJ6⟩
            clear hJ6 hk HB Hp
            gi_wp2
            exact ⟨⟨I + 1, by simp, by omega, HB6, HJ6⟩, by simp [intOf]; omega⟩
          · have Hx : Hid (∃ pre, ps pre <+: colsL x z 256 ∧ Jx pre W3) := ⟨_, by rw [ps_snoc, Hp.out, ← colsL_next x z K I hli]; exact colsL_prefix x z (by omega), hx⟩
            clear hx HB Hp
            gi_wp2
            refine bodyPost_ret (results_none rfl _ _ _) rfl ⟨⟨_, rfl⟩, .inr Hx.out⟩
        · have hge : ¬ (I : Int) < 16 := by omega
          have hI16 : I = 16 := by omega
          have HJ2 : Hid (∃ pre, ps pre = colsL x z ((K + 1) * 16) ∧ J pre wr) := by
            obtain ⟨pre, hp, hj⟩ := HJ.out
            exact ⟨pre, by rw [hp, hI16]; congr 1; omega, hj⟩
          clear hI16 HJ
          gi_wp2
          exact ⟨⟨K + 1, by simp, by omega, HB, HJ2⟩, by simp [intOf]; omega⟩
    · have hge : ¬ (K : Int) < 16 := by omega
      have hK16 : K = 16 := by omega
      have HR : Hid (∃ xs, ps xs = colsL x z 256 ∧ J xs wr) := by
        obtain ⟨pre, hp, hj⟩ := HJ.out
        exact ⟨pre, by rw [hp, hK16], hj⟩
      clear hK16 HJ
      gi_wp2
      go_end0
      exact ⟨⟨_, rfl⟩, .inl HR.out⟩
end
theorem cols_stops (n : Nat) (hn : 1 ≤ n) (B : Nat) (x z : Int) (hx : Far 1073741825 x) (hz : Far 1073741825 z) (w : World) (hB : Cbox w B x z) :
    SeqStopsK Fence.wide n Try.prog 30 #[.pointer (some ⟨B, 0, none⟩)] (fun p : P2 => #[.int .i64 p.x, .int .i64 p.z]) (Kc B) (fun xs => ps xs = colsL x z 256) (fun pre => ps pre <+: colsL x z 256) 256 w := fun l J Jx W hW _ _ hY h0 =>
  cols1_c n hn l B x z hx hz J Jx W hY ((hW.block B (Array.getElem?_eq_some_iff.1 hB).1).trans hB) h0
theorem columns_c (x z : Int) (w : World) : Calls Try.prog 21 #[.agg #[.int .i64 x, .int .i64 z]] w fun e w' => e = .returned (.func (.func 30) #[] #[.pointer (some ⟨w.heap.size, 0, none⟩)]) ∧ w' = w.alloc (.cells #[.int .i64 x, .int .i64 z] 27) := by
  have hmf : ∀ w, Sem.run Try.prog (Instr.makeFunc (.func 30) #[] #[.pointer (some ⟨w.heap.size, 0, none⟩)]) w = .ok (.func (.func 30) #[] #[.pointer (some ⟨w.heap.size, 0, none⟩)]) w := fun w => by rfl
  go_enter Try.func21, Try.ntmps21
  go_wp2
  go_ret
  exact ⟨rfl, rfl⟩
end Go.Proofs.Ytbbhnhmheakapaa
