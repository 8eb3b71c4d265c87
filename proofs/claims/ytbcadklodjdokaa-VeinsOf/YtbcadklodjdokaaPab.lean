/-
  The landed veins: the origins about cells, gone over by a labelled loop.
-/
import Derived.Test.YtbcadklodjdokaaPlay
set_option maxRecDepth 20000
namespace Go.Proofs.Ytbcadklodjdokaa
open C G Go.RowKit Go.Shelf

/-- An origin that has a vein. -/
structure VN (S : Nat) where
  x : Int
  y : Int
  z : Int
  hx : Far 140737488355328 x
  hy : Far 140737488355328 y
  hz : Far 140737488355328 z
  has : vHas (R.hashN S 30 x y z) = true
abbrev VN.h {S : Nat} (v : VN S) : Nat := R.hashN S 30 v.x v.y v.z
abbrev VN.val {S : Nat} (v : VN S) : Value := .agg (vein v.h v.x v.y v.z)
def og {S : Nat} (l : List (VN S)) : List P3 := l.map fun v => ⟨v.x, v.y, v.z⟩
theorem og_len {S : Nat} (l : List (VN S)) : (og l).length = l.length := by simp [og]
theorem og_snoc {S : Nat} (l : List (VN S)) (v : VN S) : og (l ++ [v]) = og l ++ [⟨v.x, v.y, v.z⟩] := by simp [og]
def vhP (S : Nat) (p : P3) : Bool := vHas (R.hashN S 30 p.x p.y p.z)
/-- The first k origins have been asked. -/
def JV {S : Nat} (J : List (VN S) → World → Prop) (a1 a2 a3 : Int) (S1 S3 k : Nat) (W : World) : Prop := ∃ pre, og pre = (upto a1 a2 a3 S1 S3 k).filter (vhP S) ∧ J pre W
theorem filt_no {S : Nat} {a1 a2 a3 : Int} {S1 S3 k : Nat} (h : vhP S (cellAt a1 a2 a3 S1 S3 k) = false) : (upto a1 a2 a3 S1 S3 (k + 1)).filter (vhP S) = (upto a1 a2 a3 S1 S3 k).filter (vhP S) := by
  rw [upto_succ, List.filter_append]; simp [h]
theorem filt_yes {S : Nat} {a1 a2 a3 : Int} {S1 S3 k : Nat} (h : vhP S (cellAt a1 a2 a3 S1 S3 k) = true) : (upto a1 a2 a3 S1 S3 (k + 1)).filter (vhP S) = (upto a1 a2 a3 S1 S3 k).filter (vhP S) ++ [cellAt a1 a2 a3 S1 S3 k] := by
  rw [upto_succ, List.filter_append]; simp [h]
theorem filt_prefix {S : Nat} {a1 a2 a3 : Int} {S1 S3 k N : Nat} (h : k ≤ N) : (upto a1 a2 a3 S1 S3 k).filter (vhP S) <+: (upto a1 a2 a3 S1 S3 N).filter (vhP S) := (upto_prefix a1 a2 a3 S1 S3 h).filter _
/-- What the iterator reads: two corners and the seed. -/
structure Ab (S : Nat) (ga gb gs : Nat) (a1 a2 a3 b1 b2 b3 : Int) (w : World) : Prop where
  a : w.heap[ga]? = some (.cells #[.int .i64 a1, .int .i64 a2, .int .i64 a3] 24 (0, 0))
  b : w.heap[gb]? = some (.cells #[.int .i64 b1, .int .i64 b2, .int .i64 b3] 24 (0, 0))
  s : w.heap[gs]? = some (.cells #[.int .u64 S] 22 (0, 0))
theorem Ab.on {S ga gb gs : Nat} {a1 a2 a3 b1 b2 b3 : Int} {w w' : World} (h : Ab S ga gb gs a1 a2 a3 b1 b2 b3 w) (hb : Below w.heap.size w w') : Ab S ga gb gs a1 a2 a3 b1 b2 b3 w' :=
  ⟨(hb.block _ (Array.getElem?_eq_some_iff.1 h.a).1).trans h.a, (hb.block _ (Array.getElem?_eq_some_iff.1 h.b).1).trans h.b, (hb.block _ (Array.getElem?_eq_some_iff.1 h.s).1).trans h.s⟩
theorem Ab.cells {S ga gb gs : Nat} {a1 a2 a3 b1 b2 b3 : Int} {w : World} (h : Ab S ga gb gs a1 a2 a3 b1 b2 b3 w) : (w.cell? ⟨ga, 0, none⟩ = some (.int .i64 a1) ∧ w.cell? ⟨ga, 1, none⟩ = some (.int .i64 a2) ∧ w.cell? ⟨ga, 2, none⟩ = some (.int .i64 a3)) ∧ (w.cell? ⟨gb, 0, none⟩ = some (.int .i64 b1) ∧ w.cell? ⟨gb, 1, none⟩ = some (.int .i64 b2) ∧ w.cell? ⟨gb, 2, none⟩ = some (.int .i64 b3)) ∧ w.cell? ⟨gs, 0, none⟩ = some (.int .u64 S) :=
  ⟨⟨(cell_of_row w ga 0 _ 24 (0, 0) h.a).trans rfl, (cell_of_row w ga 1 _ 24 (0, 0) h.a).trans rfl, (cell_of_row w ga 2 _ 24 (0, 0) h.a).trans rfl⟩, ⟨(cell_of_row w gb 0 _ 24 (0, 0) h.b).trans rfl, (cell_of_row w gb 1 _ 24 (0, 0) h.b).trans rfl, (cell_of_row w gb 2 _ 24 (0, 0) h.b).trans rfl⟩, (cell_of_row w gs 0 _ 22 (0, 0) h.s).trans rfl⟩
/-- What a round keeps of it. -/
def K3 (ga gb gs : Nat) (W W' : World) : Prop := ∀ k cs t fr, (k = ga ∨ k = gb ∨ k = gs) → W.heap[k]? = some (.cells cs t fr) → W'.heap[k]? = some (.cells cs t fr)
theorem K3.trans {ga gb gs : Nat} {A B C : World} (h : K3 ga gb gs A B) (k : K3 ga gb gs B C) : K3 ga gb gs A C := fun i cs t fr hi e => k i cs t fr hi (h i cs t fr hi e)
theorem K3.book {ga gb gs : Nat} (W : World) (l : Nat) (o o' : Obj) (h : W.heap[l]? = some o) (ho : o.isCells = false) : K3 ga gb gs W (W.putObj l o') := fun k cs t fr _ e => by
  refine (World.putObj_heap_other (fun e' => ?_)).trans e
  subst e'
  rw [h] at e
  cases e
  cases ho
theorem K3.below {ga gb gs : Nat} {W W' : World} (h : Below W.heap.size W W') : K3 ga gb gs W W' := fun k _ _ _ _ e => (h.block k (Array.getElem?_eq_some_iff.1 e).1).trans e
theorem Ab.kept {S ga gb gs : Nat} {a1 a2 a3 b1 b2 b3 : Int} {w w' : World} (h : Ab S ga gb gs a1 a2 a3 b1 b2 b3 w) (hk : K3 ga gb gs w w') : Ab S ga gb gs a1 a2 a3 b1 b2 b3 w' :=
  ⟨hk _ _ _ _ (.inl rfl) h.a, hk _ _ _ _ (.inr (.inl rfl)) h.b, hk _ _ _ _ (.inr (.inr rfl)) h.s⟩
section
attribute [local go_sem] Oper.semAt_some
set_option maxRecDepth 100000 in
set_option maxHeartbeats 2000000 in
theorem about1_c (n : Nat) (hn : 1 ≤ n) (l ga gb gs S : Nat) (hS : S < 18446744073709551616) (a1 a2 a3 b1 b2 b3 : Int) (S1 S2 S3 : Nat) (e1 : a1 + (S1 : Int) = b1 + 1) (e2 : a2 + (S2 : Int) = b2 + 1) (e3 : a3 + (S3 : Int) = b3 + 1)
    (q1 : -140737488355328 ≤ a1 ∧ b1 ≤ 140737488355328) (q2 : -140737488355328 ≤ a2 ∧ b2 ≤ 140737488355328) (q3 : -140737488355328 ≤ a3 ∧ b3 ≤ 140737488355328)
    (J Jx : List (VN S) → World → Prop) (W : World) (hW : AbidesFrom W.heap.size J) (_hWx : AbidesFrom W.heap.size Jx)
    (hY : ∀ pre x W1, J pre W1 → pre.length < S2 * S3 * S1 → YieldAt Fence.wide (n - 1) Try.prog l #[x.val] W1 fun e W' =>
      (e = .returned (.bool true) ∧ J (pre ++ [x]) W' ∧ K3 ga gb gs W1 W') ∨ (e = .returned (.bool false) ∧ Jx (pre ++ [x]) W'))
    (hA : Ab S ga gb gs a1 a2 a3 b1 b2 b3 W) (hJ : J [] W) :
    CallsIn Fence.wide n Try.prog 39 #[.func (.yield l) #[] #[], .pointer (some ⟨ga, 0, none⟩), .pointer (some ⟨gb, 0, none⟩), .pointer (some ⟨gs, 0, none⟩)] W fun e W' => (∃ v, e = .returned v) ∧ ((∃ xs, og xs = (upto a1 a2 a3 S1 S3 (S2 * S3 * S1)).filter (vhP S) ∧ J xs W') ∨ ∃ pre, og pre <+: (upto a1 a2 a3 S1 S3 (S2 * S3 * S1)).filter (vhP S) ∧ Jx pre W') := by
  have HY : Hid (∀ pre (x : VN S) W1, J pre W1 → pre.length < S2 * S3 * S1 → YieldAt Fence.wide (n - 1) Try.prog l #[x.val] W1 fun e W' => (e = .returned (.bool true) ∧ J (pre ++ [x]) W' ∧ K3 ga gb gs W1 W') ∨ (e = .returned (.bool false) ∧ Jx (pre ++ [x]) W')) := hY
  have HJ : Hid (∀ s w w', J s w → Below w.heap.size w w' → J s w') := fun s w w' h hb => hW s w w' none h (below_grow hb) (fun r h => by cases h)
  clear hY hW
  refine callsIn_of_wp Try.func39 rfl trivial ?_ rfl
  simp only [Try.ntmps39, List.size_toArray, List.length_cons, List.length_nil, Nat.reduceAdd, Nat.reduceSub, Array.replicate_succ, Array.replicate_zero, List.push_toArray, List.append_toArray, List.nil_append, List.cons_append]
  have hJ1 : JV J a1 a2 a3 S1 S3 0 W := ⟨[], rfl, hJ⟩
  have hA1 := hA
  obtain ⟨⟨m0, m1, m2⟩, ⟨m3, m4, m5⟩, m6⟩ := hA.cells
  clear hJ hA
  refine wide_scope ?_
  gi_wp2
  refine wpIn_label ?_
  gi_wp2
  gi_loopw [5] (fun y wr => ∃ L : Nat, y = .int .i64 (a2 + L) ∧ L ≤ S2 ∧ Ab S ga gb gs a1 a2 a3 b1 b2 b3 wr ∧ JV J a1 a2 a3 S1 S3 (L * S3 * S1) wr) (fun y _ => (a2 + S2 + 1 - intOf y).toNat)
  case atStart => exact ⟨0, by simp, by omega, hA1, by rw [Nat.zero_mul, Nat.zero_mul]; exact hJ1⟩
  case round =>
    clear m0 m1 m2 m3 m4 m5 m6 hA1 hJ1
    obtain ⟨L, rfl, hL, hA2, hJ2⟩ := hrel
    obtain ⟨⟨m0, m1, m2⟩, ⟨m3, m4, m5⟩, m6⟩ := hA2.cells
    by_cases hl2 : L = S2
    case pos =>
      have hl' : ¬ a2 + (L : Int) ≤ b2 := by omega
      have R : ∃ xs, og xs = (upto a1 a2 a3 S1 S3 (S2 * S3 * S1)).filter (vhP S) ∧ J xs wr := by rw [hl2] at hJ2; exact hJ2
      clear hA2 hJ2 HY HJ
      gi_wp2
      go_end0
      exact ⟨⟨_, rfl⟩, .inl R⟩
    have hl' : a2 + (L : Int) ≤ b2 := by omega
    have hL3 : L < S2 := by omega
    gi_wp2
    gi_loopw [6] (fun z wr => ∃ M : Nat, z = .int .i64 (a3 + M) ∧ M ≤ S3 ∧ Ab S ga gb gs a1 a2 a3 b1 b2 b3 wr ∧ JV J a1 a2 a3 S1 S3 ((L * S3 + M) * S1) wr) (fun z _ => (a3 + S3 + 1 - intOf z).toNat)
    case atStart => exact ⟨0, by simp, by omega, hA2, by rw [Nat.add_zero]; exact hJ2⟩
    case round =>
      clear m0 m1 m2 m3 m4 m5 m6 hA2 hJ2
      obtain ⟨M, rfl, hM, hA3, hJ3⟩ := hrel
      obtain ⟨⟨m0, m1, m2⟩, ⟨m3, m4, m5⟩, m6⟩ := hA3.cells
      by_cases hm : M = S3
      case pos =>
        have hm' : ¬ a3 + (M : Int) ≤ b3 := by omega
        gi_wp2
        refine ⟨⟨L + 1, by simp; omega, by omega, hA3, ?_⟩, by simp [intOf]; omega⟩
        rw [hm] at hJ3
        rwa [show (L + 1) * S3 = L * S3 + S3 by rw [Nat.add_mul]; omega]
      have hm' : a3 + (M : Int) ≤ b3 := by omega
      have hm3 : M < S3 := by omega
      gi_wp2
      gi_loopw [7] (fun x wr => ∃ I : Nat, x = .int .i64 (a1 + I) ∧ I ≤ S1 ∧ Ab S ga gb gs a1 a2 a3 b1 b2 b3 wr ∧ JV J a1 a2 a3 S1 S3 ((L * S3 + M) * S1 + I) wr) (fun x _ => (a1 + S1 + 1 - intOf x).toNat)
      case atStart => exact ⟨0, by simp, by omega, hA3, by rw [Nat.add_zero]; exact hJ3⟩
      case round =>
        clear m0 m1 m2 m3 m4 m5 m6 hA3 hJ3
        obtain ⟨I, rfl, hI, hA4, hJ4⟩ := hrel
        obtain ⟨⟨m0, m1, m2⟩, ⟨m3, m4, m5⟩, m6⟩ := hA4.cells
        by_cases hi : I = S1
        case pos =>
          have hi' : ¬ a1 + (I : Int) ≤ b1 := by omega
          gi_wp2
          refine ⟨⟨M + 1, by simp; omega, by omega, hA4, ?_⟩, by simp [intOf]; omega⟩
          rw [hi] at hJ4
          rwa [show (L * S3 + (M + 1)) * S1 = (L * S3 + M) * S1 + S1 by rw [← Nat.add_assoc, Nat.add_mul]; omega]
        have hi' : a1 + (I : Int) ≤ b1 := by omega
        have hi3 : I < S1 := by omega
        have bx : Far 140737488355328 (a1 + (I : Int)) := by unfold Far; omega
        have by' : Far 140737488355328 (a2 + (L : Int)) := by unfold Far; omega
        have bz : Far 140737488355328 (a3 + (M : Int)) := by unfold Far; omega
        have hor := origin_c S (a1 + (I : Int)) (a2 + (L : Int)) (a3 + (M : Int)) wr hS (by unfold Far at *; omega) (by unfold Far at *; omega) (by unfold Far at *; omega)
        have hca := cellAt_of a1 a2 a3 S1 S3 I M L hi3 hm3
        gi_wp2_with (fail)
        refine ⟨trivial, (callsIn_wide.2 hor).mono ?_⟩
        clear hor
        rintro _ w2 hsay
        obtain ⟨hb2, rfl⟩ := hsay
        have hidx : (L * S3 + M) * S1 + I < S2 * S3 * S1 := idx_lt hi3 hm3 hL3
        obtain ⟨pre, hp, hj⟩ := hJ4
        have hlen : pre.length < S2 * S3 * S1 := by
          have h1 : (og pre).length ≤ (upto a1 a2 a3 S1 S3 ((L * S3 + M) * S1 + I)).length := by rw [hp]; exact List.length_filter_le _ _
          rw [og_len, upto_length] at h1
          omega
        have hvh : vhP S (cellAt a1 a2 a3 S1 S3 ((L * S3 + M) * S1 + I)) = vHas (R.hashN S 30 (a1 + (I : Int)) (a2 + (L : Int)) (a3 + (M : Int))) := by rw [hca]; rfl
        have hj2 : J pre w2 := HJ.out _ _ _ hj hb2
        have hA5 : Ab S ga gb gs a1 a2 a3 b1 b2 b3 w2 := hA4.on hb2
        clear hj hA4 hb2 m0 m1 m2 m3 m4 m5 m6
        by_cases hv : vHas (R.hashN S 30 (a1 + (I : Int)) (a2 + (L : Int)) (a3 + (M : Int))) = true
        case neg =>
          have hv' : vHas (R.hashN S 30 (a1 + (I : Int)) (a2 + (L : Int)) (a3 + (M : Int))) = false := by simpa using hv
          have hJ6 : JV J a1 a2 a3 S1 S3 ((L * S3 + M) * S1 + I + 1) (w2.alloc (.cells noVein 55)) := ⟨pre, by rw [filt_no (hvh.trans hv'), hp], HJ.out _ _ _ hj2 ((Below.refl _ _).alloc (Nat.le_refl _) _)⟩
          have hA6 : Ab S ga gb gs a1 a2 a3 b1 b2 b3 (w2.alloc (.cells noVein 55)) := hA5.on ((Below.refl _ _).alloc (Nat.le_refl _) _)
          rw [hv', if_neg (by decide)]
          unfold noVein at hJ6 hA6 ⊢
          clear hA5 hj2 hp hv hv' hvh hca HY HJ
          have HJ6 : Hid _ := hJ6
          have HA6 : Hid _ := hA6
          clear hJ6 hA6
          gi_wp2
          refine ⟨fun _ h => (by cases h), ?_⟩
          gi_wp2
          exact ⟨⟨I + 1, by simp; omega, by omega, HA6.out, HJ6.out⟩, by simp [intOf]; omega⟩
        rw [hv, if_pos rfl]
        have hq : (⟨a1 + (I : Int), a2 + (L : Int), a3 + (M : Int)⟩ : P3) = cellAt a1 a2 a3 S1 S3 ((L * S3 + M) * S1 + I) := hca.symm
        obtain ⟨fn, tmps, assign, body, hy, hR⟩ := HY.out pre ⟨a1 + (I : Int), a2 + (L : Int), a3 + (M : Int), bx, by', bz, hv⟩ (w2.alloc (.cells (vein (R.hashN S 30 (a1 + (I : Int)) (a2 + (L : Int)) (a3 + (M : Int))) (a1 + (I : Int)) (a2 + (L : Int)) (a3 + (M : Int))) 55)) (HJ.out _ _ _ hj2 ((Below.refl _ _).alloc (Nat.le_refl _) _)) hlen
        dsimp only [VN.val, VN.h] at hy
        have HE : Hid (∀ W3, (J (pre ++ [⟨a1 + (I : Int), a2 + (L : Int), a3 + (M : Int), bx, by', bz, hv⟩]) W3 → K3 ga gb gs (w2.alloc (.cells (vein (R.hashN S 30 (a1 + (I : Int)) (a2 + (L : Int)) (a3 + (M : Int))) (a1 + (I : Int)) (a2 + (L : Int)) (a3 + (M : Int))) 55)) W3 → JV J a1 a2 a3 S1 S3 ((L * S3 + M) * S1 + I + 1) W3 ∧ Ab S ga gb gs a1 a2 a3 b1 b2 b3 W3) ∧ (Jx (pre ++ [⟨a1 + (I : Int), a2 + (L : Int), a3 + (M : Int), bx, by', bz, hv⟩]) W3 → ∃ pre, og pre <+: (upto a1 a2 a3 S1 S3 (S2 * S3 * S1)).filter (vhP S) ∧ Jx pre W3)) := fun W3 => by
          have hog : og (pre ++ [⟨a1 + (I : Int), a2 + (L : Int), a3 + (M : Int), bx, by', bz, hv⟩]) = (upto a1 a2 a3 S1 S3 ((L * S3 + M) * S1 + I + 1)).filter (vhP S) := by
            rw [og_snoc, hp, filt_yes (hvh.trans hv), ← hq]
          refine ⟨fun h1 h2 => ⟨⟨_, hog, h1⟩, (hA5.on ((Below.refl _ _).alloc (Nat.le_refl _) _)).kept h2⟩, fun h => ⟨_, ?_, h⟩⟩
          rw [hog]
          exact filt_prefix hidx
        have hnw := heap_alloc_new w2 (.cells (vein (R.hashN S 30 (a1 + (I : Int)) (a2 + (L : Int)) (a3 + (M : Int))) (a1 + (I : Int)) (a2 + (L : Int)) (a3 + (M : Int))) 55)
        clear hA5 hj2 hp hvh hca HY HJ hq hlen hidx
        unfold vein at hy hR HE hnw ⊢
        generalize vOre (R.hashN S 30 (a1 + (I : Int)) (a2 + (L : Int)) (a3 + (M : Int))) = mo at *
        generalize vX (R.hashN S 30 (a1 + (I : Int)) (a2 + (L : Int)) (a3 + (M : Int))) (a1 + (I : Int)) = mx at *
        generalize vY (R.hashN S 30 (a1 + (I : Int)) (a2 + (L : Int)) (a3 + (M : Int))) (a2 + (L : Int)) = my at *
        generalize vZ (R.hashN S 30 (a1 + (I : Int)) (a2 + (L : Int)) (a3 + (M : Int))) (a3 + (M : Int)) = mz at *
        generalize vReach (R.hashN S 30 (a1 + (I : Int)) (a2 + (L : Int)) (a3 + (M : Int))) = mr at *
        gi_wp2
        refine hR.mono ?_
        clear hR hy hnw
        rintro e W3 (⟨rfl, hJ6, hk⟩ | ⟨rfl, hx⟩)
        · obtain ⟨hN, hA6⟩ := (HE.out W3).1 hJ6 hk
          have HN : Hid (JV J a1 a2 a3 S1 S3 ((L * S3 + M) * S1 + I + 1) W3) := hN
          have HA6 : Hid _ := hA6
          clear HE hJ6 hk hN hA6
          gi_wp2
          exact ⟨⟨I + 1, by simp; omega, by omega, HA6.out, HN.out⟩, by simp [intOf]; omega⟩
        · have R := (HE.out W3).2 hx
          clear HE hx
          gi_wp2
          rw [Exit.noGoto_normal]
          go_end0
          exact ⟨⟨_, rfl⟩, .inr R⟩
end
end Go.Proofs.Ytbcadklodjdokaa
