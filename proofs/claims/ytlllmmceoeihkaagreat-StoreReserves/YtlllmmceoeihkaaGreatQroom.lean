/-
  The program's space: its free spans one after the other, for every body that leaves the space alone.
  The program's space: Room and Largest, each a loop over the free spans.
-/
import Derived.Test.YtlllmmceoeihkaaGreatQmark
import Derived.RangeFuncNested
import Derived.RangeFuncBound
import Derived.RangeFuncCalls
import Derived.RangeFuncLeaves
import Derived.RangeFuncBox
import Derived.Shelf.Abstract
import Derived.Shelf.RegionOpen
import Derived.OwnWalkIn
import Derived.TacticsInMore
import Derived.LoopNIn
import Derived.LoopIn
import Derived.WalkMore
import Derived.Lib.MinMax
set_option maxRecDepth 20000
namespace Go.Proofs.YtlllmmceoeihkaaGreat.Q
open Go.RowKit Go.Shelf
attribute [local go_sem] Oper.semAt_some
/-! ### plain -/
structure Scan (h : Nat) (T : List Bool) (F : Nat) (l : List Sp) : Prop where
 lo : h ≤ F
 hi : F ≤ T.length + 1
 is : IsSp h (min F T.length) T l
 gap : ∀ x ∈ l, x.1 + x.2 < F
 few : l.length ≤ F - h
theorem scan_init {h : Nat} {T : List Bool} (hh : h ≤ T.length) : Scan h T h [] :=
 ⟨Nat.le_refl _, by omega, by rw [Nat.min_eq_left hh]; exact IsSp.nil h T, fun x hx => (by cases hx), by simp⟩
theorem scan_end {h F : Nat} {T : List Bool} {l : List Sp} (hh : h ≤ T.length) (H : Scan h T F l) (hF : T.length ≤ F) : l = spansS h T :=
 spans_of hh (by have := H.is; rwa [Nat.min_eq_right hF] at this)
theorem scan_prefix {h F : Nat} {T : List Bool} {l : List Sp} (hh : h ≤ T.length) (H : Scan h T F l) : l <+: spansS h T := by
 obtain ⟨e, he⟩ : ∃ e, e = min F T.length := ⟨_, rfl⟩
 have hI := H.is
 rw [← he] at hI
 have hK : IsSp e T.length T (spTo e T (T.length - e)) := by
  have := spTo_is e T (T.length - e)
  rwa [show e + (T.length - e) = T.length by omega] at this
 have hlo := H.lo
 refine ⟨spTo e T (T.length - e), spans_of hh ⟨fun x hx => ?_, ?_, fun i h1 h2 h3 => ?_⟩⟩
 ·rcases List.mem_append.1 hx with hx | hx
  ·have := hI.ins x hx
   exact ⟨this.1, this.2.1, by omega, this.2.2.2⟩
  ·have := hK.ins x hx
   exact ⟨this.1, by omega, this.2.2.1, this.2.2.2⟩
 ·refine List.pairwise_append.2 ⟨hI.gap, hK.gap, fun a ha b hb => ?_⟩
  have h1 := H.gap a ha
  have h2 := hK.ins b hb
  omega
 ·by_cases hi : i < e
  ·obtain ⟨x, hx, h4⟩ := hI.all i h1 hi h3
   exact ⟨x, List.mem_append_left _ hx, h4⟩
  ·obtain ⟨x, hx, h4⟩ := hK.all i (by omega) h2 h3
   exact ⟨x, List.mem_append_right _ hx, h4⟩
theorem scan_none {h F : Nat} {T : List Bool} {l : List Sp} (H : Scan h T F l) (hF : F < T.length) (hR : FreeRun T F 0) : Scan h T (F + 1) l := by
 have hlo := H.lo
 have hI := H.is
 rw [Nat.min_eq_left (by omega)] at hI
 have ht : T.getD F false = true := by
  rcases hR.stop with h1 | h1
  ·omega
  ·exact h1
 refine ⟨by omega, by omega, ?_, fun x hx => by have := H.gap x hx; omega, by have := H.few; omega⟩
 rw [Nat.min_eq_left (by omega)]
 refine ⟨fun x hx => ?_, hI.gap, fun i h1 h2 h3 => ?_⟩
 ·have := hI.ins x hx
  exact ⟨this.1, this.2.1, by omega, this.2.2.2⟩
 ·by_cases hi : i = F
  ·rw [hi, ht] at h3; cases h3
  ·exact hI.all i h1 (by omega) h3
theorem scan_some {h F m : Nat} {T : List Bool} {l : List Sp} (H : Scan h T F l) (hF : F < T.length) (hm : 1 ≤ m) (hR : FreeRun T F m) : Scan h T (F + m + 1) (l ++ [(F, m)]) := by
 have hlo := H.lo
 have hI := H.is
 have hle := hR.le
 rw [Nat.min_eq_left (by omega)] at hI
 refine ⟨by omega, by omega, ?_, fun x hx => ?_, by have := H.few; rw [List.length_append]; simp only [List.length_cons, List.length_nil]; omega⟩
 ·have hge : F + m ≤ min (F + m + 1) T.length := by omega
  have hst : ∀ i, F + m ≤ i → i < min (F + m + 1) T.length → T.getD i false = true := fun i h1 h2 => by
   rcases hR.stop with h3 | h3
   ·omega
   ·rw [show i = F + m by omega]; exact h3
  generalize min (F + m + 1) T.length = e at hge hst
  refine ⟨fun x hx => ?_, ?_, fun i h1 h2 h3 => ?_⟩
  ·rcases List.mem_append.1 hx with hx | hx
   ·have := hI.ins x hx
    exact ⟨this.1, this.2.1, by omega, this.2.2.2⟩
   ·obtain rfl := List.mem_singleton.1 hx
    exact ⟨hm, hlo, hge, hR.free⟩
  ·refine List.pairwise_append.2 ⟨hI.gap, by simp, fun a ha b hb => ?_⟩
   obtain rfl := List.mem_singleton.1 hb
   exact H.gap a ha
  ·by_cases hi : i < F
   ·obtain ⟨x, hx, h4⟩ := hI.all i h1 hi h3
    exact ⟨x, List.mem_append_left _ hx, h4⟩
   ·by_cases hi2 : i < F + m
    ·exact ⟨(F, m), by simp, by simp only; omega, hi2⟩
    ·rw [hst i (by omega) h2] at h3
     cases h3
 ·rcases List.mem_append.1 hx with hx | hx
  ·have := H.gap x hx; omega
  ·obtain rfl := List.mem_singleton.1 hx
   simp only
   omega
/-! ### the spans as they are handed on -/
structure Q where
 f : Nat
 m : Nat
 hf : f ≤ 4096
 hm : m ≤ 4096
abbrev Q.val (q : Q) : Value := .agg #[.int .i64 (q.f : Int), .int .i64 (q.m : Int)]
def qs (l : List Q) : List Sp := l.map fun q => (q.f, q.m)
theorem qs_snoc (l : List Q) (q : Q) : qs (l ++ [q]) = qs l ++ [(q.f, q.m)] := by simp [qs]
theorem qs_len (l : List Q) : (qs l).length = l.length := by simp [qs]
def Kq (B g tb : Nat) (W W' : World) : Prop := ∀ k, (k = B ∨ k = g ∨ k = tb) → ∀ cs t fr, W.heap[k]? = some (.cells cs t fr) → W'.heap[k]? = some (.cells cs t fr)
theorem Kq.trans {B g tb : Nat} {X Y Z : World} (h : Kq B g tb X Y) (k : Kq B g tb Y Z) : Kq B g tb X Z := fun i hi cs t fr e => k i hi cs t fr (h i hi cs t fr e)
theorem Kq.refl (B g tb : Nat) (W : World) : Kq B g tb W W := fun _ _ _ _ _ e => e
theorem Kq.book {B g tb : Nat} (W : World) (l : Nat) (o o' : Obj) (h : W.heap[l]? = some o) (ho : o.isCells = false) : Kq B g tb W (W.putObj l o') := fun k _ cs t fr e => by
 refine ((grownBy_putObj' W l o').block k (Array.getElem?_eq_some_iff.1 e).1 (fun e' => ?_)).trans e
 have e'' : k = l := by simpa using e'
 rw [e'', h] at e
 cases e
 cases ho
theorem Kq.grow {B g tb : Nat} {W W' : World} (h : W.grownBy W' none) : Kq B g tb W W' := fun k _ cs t fr e => (h.block k (Array.getElem?_eq_some_iff.1 e).1 (fun e' => by cases e')).trans e
theorem PS.kq {B g tb h : Nat} {T : List Bool} {W W' : World} (H : PS W g tb h T) (hk : Kq B g tb W W') : PS W' g tb h T :=
 ⟨hk g (.inr (.inl rfl)) _ _ _ H.head, hk tb (.inr (.inr rfl)) _ _ _ H.row, H.ne, H.le, H.few⟩
set_option maxRecDepth 100000 in
set_option maxHeartbeats 2000000 in
theorem gaps1_c (n : Nat) (hn : 1 ≤ n) (l B g tb h : Nat) (T : List Bool) (J Jx : List Q → World → Prop) (W : World)
  (hY : ∀ pre x W1, J pre W1 → pre.length < 4096 → YieldAt Fence.wide (n - 1) Tryz.prog l #[Q.val x] W1 fun e W' =>
   (e = .returned (.bool true) ∧ J (pre ++ [x]) W' ∧ Kq B g tb W1 W') ∨ (e = .returned (.bool false) ∧ Jx (pre ++ [x]) W'))
  (hB : W.heap[B]? = some (.cells #[.pointer (some ⟨g, 0, none⟩)] 138 (0, 0))) (hS : PS W g tb h T) (hJ : J [] W) :
  CallsIn Fence.wide n Tryz.prog 126 #[.func (.yield l) #[] #[], .pointer (some ⟨B, 0, none⟩)] W fun e W' => (∃ v, e = .returned v) ∧ ((∃ xs, qs xs = spansS h T ∧ J xs W') ∨ ∃ pre, qs pre <+: spansS h T ∧ Jx pre W') := by
 have Hle : Hid (h ≤ T.length ∧ T.length ≤ 4096) := ⟨hS.le, hS.few⟩
 obtain ⟨N, hN⟩ : ∃ N, N = T.length := ⟨_, rfl⟩
 have HN : Hid (N = T.length) := hN
 have hN4 : N ≤ 4096 := by have := hS.few; omega
 have hhN : h ≤ N := by have := hS.le; omega
 have b0 : W.cell? ⟨B, 0, none⟩ = some (.pointer (some ⟨g, 0, none⟩)) := (cell_of_row W B 0 _ 138 (0, 0) hB).trans rfl
 have c1 := hS.cells.2
 have HB : Hid (W.heap[B]? = some (.cells #[.pointer (some ⟨g, 0, none⟩)] 138 (0, 0))) := hB
 have HS : Hid (PS W g tb h T) := hS
 clear hN hB hS
 refine callsIn_of_wp Tryz.func126 rfl trivial ?_ rfl
 simp only [Tryz.ntmps126, List.size_toArray, List.length_cons, List.length_nil, Nat.reduceAdd, Nat.reduceSub, Array.replicate_succ, Array.replicate_zero, List.push_toArray, List.append_toArray, List.nil_append, List.cons_append]
 gi_wp2
 gi_loopw [3] (fun y wr => ∃ (F : Nat) (pre : List Q), y = .int .i64 (F : Int) ∧ F ≤ N + 1 ∧ Hid (Scan h T F (qs pre)) ∧ Hid (PS wr g tb h T) ∧ Hid (wr.heap[B]? = some (.cells #[.pointer (some ⟨g, 0, none⟩)] 138 (0, 0))) ∧ Hid (J pre wr)) (fun y _ => N + 1 - (intOf y).toNat)
 case atStart => exact ⟨h, [], rfl, by omega, scan_init Hle.out.1, HS.out, HB.out, hJ⟩
 case round =>
  clear HS HB b0 c1 hJ
  obtain ⟨F, pre, rfl, hF, HC, HS, HB, HJ⟩ := hrel
  have b0 : wr.cell? ⟨B, 0, none⟩ = some (.pointer (some ⟨g, 0, none⟩)) := (cell_of_row wr B 0 _ 138 (0, 0) HB.out).trans rfl
  have c0 := HS.out.cells.1
  rw [← HN.out] at c0
  by_cases hlt : F < N
  ·have hlt' : (F : Int) < (N : Int) := by omega
   gi_wp2_with (fail)
   refine ⟨trivial, ?_⟩
   refine (callsIn_wide.2 (freeFrom_c g tb h F T wr HS.out (by have := HN.out; omega))).mono ?_
   rintro e w1 ⟨rfl, m, hm, rfl⟩
   have Hm : Hid (FreeRun T F m) := hm
   have hle : F + m ≤ N := by have := HN.out; have := hm.le; omega
   clear hm
   by_cases hm0 : m = 0
   ·have HC2 : Hid (Scan h T (F + 1) (qs pre)) := scan_none HC.out (by have := HN.out; omega) (by have := Hm.out; rwa [hm0] at this)
    clear HC Hm
    have hm1 : ¬ (0 : Int) < (m : Int) := by omega
    have Hm0 : Hid (m = 0) := hm0
    clear hm0
    gi_wp2
    refine ⟨fun f hf => (by cases hf), ?_⟩
    gi_wp2
    exact ⟨⟨F + 1, pre, by have := Hm0.out; subst this; simp, by omega, HC2, HS, HB, HJ⟩, by simp [intOf]; omega⟩
   ·have hm1 : (0 : Int) < (m : Int) := by omega
    have HC2 : Hid (Scan h T (F + m + 1) (qs (pre ++ [⟨F, m, by omega, by omega⟩]))) := by
     show Scan _ _ _ _
     rw [qs_snoc]
     exact scan_some HC.out (by have := HN.out; omega) (by omega) Hm.out
    have hlen : pre.length < 4096 := by have h1 := HC.out.few; have h2 := HC.out.lo; rw [qs_len] at h1; omega
    obtain ⟨fn, tmps, assign, body, hy, hR⟩ := hY pre ⟨F, m, by omega, by omega⟩ w1 HJ.out hlen
    dsimp only [Q.val] at hy
    clear HC Hm HJ
    gi_wp2
    refine hR.mono ?_
    clear hy hR b0 c0
    rintro e W3 (⟨rfl, hJ6, hk⟩ | ⟨rfl, hx⟩)
    ·have HS6 : Hid (PS W3 g tb h T) := HS.out.kq hk
     have HB6 : Hid (W3.heap[B]? = some (.cells #[.pointer (some ⟨g, 0, none⟩)] 138 (0, 0))) := hk B (.inl rfl) _ _ _ HB.out
     have HJ6 : Hid (J (pre ++ [⟨F, m, by omega, by omega⟩]) W3) := hJ6
     clear hJ6 hk HS HB
     gi_wp2
     exact ⟨⟨F + m + 1, _, by simp, by omega, HC2, HS6, HB6, HJ6⟩, by simp [intOf]; omega⟩
    ·have hpf := scan_prefix Hle.out.1 HC2.out
     have Hx : Hid (Jx (pre ++ [⟨F, m, by omega, by omega⟩]) W3) := hx
     have Hpf : Hid (qs (pre ++ [⟨F, m, by omega, by omega⟩]) <+: spansS h T) := hpf
     clear hx hpf HC2 HS HB
     gi_wp2
     refine bodyPost_ret (results_none rfl _ _ _) rfl ⟨⟨_, rfl⟩, .inr ⟨_, Hpf.out, Hx.out⟩⟩
  ·have hge : ¬ (F : Int) < (N : Int) := by omega
   have R := scan_end Hle.out.1 HC.out (by have := HN.out; omega)
   have HR : Hid (qs pre = spansS h T) := R
   clear R HC
   gi_wp2
   go_end0
   exact ⟨⟨_, rfl⟩, .inl ⟨_, HR.out, HJ.out⟩⟩
end Go.Proofs.YtlllmmceoeihkaaGreat.Q
set_option maxRecDepth 20000
namespace Go.Proofs.YtlllmmceoeihkaaGreat.Q
open Go.RowKit Go.Shelf
attribute [local go_sem] Oper.semAt_some
set_option maxHeartbeats 1000000 in
theorem gaps_c (g : Nat) (w : World) : Calls Tryz.prog 94 #[.pointer (some ⟨g, 0, none⟩)] w fun e w' => e = .returned (.func (.func 126) #[] #[.pointer (some ⟨w.heap.size, 0, none⟩)]) ∧ w' = w.alloc (.cells #[.pointer (some ⟨g, 0, none⟩)] 138) := by
 have hmf : ∀ w, Sem.run Tryz.prog (Instr.makeFunc (.func 126) #[] #[.pointer (some ⟨w.heap.size, 0, none⟩)]) w = .ok (.func (.func 126) #[] #[.pointer (some ⟨w.heap.size, 0, none⟩)]) w := fun w => by rfl
 go_enter Tryz.func94, Tryz.ntmps94
 go_wp2
 go_ret
 exact ⟨rfl, rfl⟩
theorem gaps_stops (n : Nat) (hn : 1 ≤ n) (B g tb h : Nat) (T : List Bool) (w : World) (hB : w.heap[B]? = some (.cells #[.pointer (some ⟨g, 0, none⟩)] 138 (0, 0))) (hS : PS w g tb h T) :
  SeqStopsK Fence.wide n Tryz.prog 126 #[.pointer (some ⟨B, 0, none⟩)] (fun x : Q => #[Q.val x]) (Kq B g tb) (fun xs => qs xs = spansS h T) (fun pre => qs pre <+: spansS h T) 4096 w := fun l J Jx W hW _ _ hY h0 =>
 gaps1_c n hn l B g tb h T J Jx W hY ((hW.block B (Array.getElem?_eq_some_iff.1 hB).1).trans hB) (hS.on hW) h0
end Go.Proofs.YtlllmmceoeihkaaGreat.Q
