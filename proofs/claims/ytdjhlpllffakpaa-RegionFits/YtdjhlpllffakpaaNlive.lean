/-
  The program's region in memory: a struct with an array of slots.
  The program's region: Div, Need, known, file.
  The program's region: sector, entry; bytes.Clone.
  The program's region: Live, Get.
-/
import Derived.Test.YtdjhlpllffakpaaGrows
import Derived.Test.YtdjhlpllffakpaaGput
import Derived.StillTailTactics
set_option maxRecDepth 20000
namespace Go.Proofs.Ytdjhlpllffakpaa
section
open Go.RowKit

/-- A slot in memory. -/
structure Sm where
  f : Nat
  m : Nat
  a : Option Addr
  c : Nat
  b : List Int
def Sm.sp (s : Sm) : Sp := (s.f, s.m)
def smv (s : Sm) : List Value := [.int .i64 (s.f : Int), .int .i64 (s.m : Int), .slice s.a s.b.length s.c]
def smvs (l : List Sm) : List Value := l.flatMap smv
theorem smvs_len (l : List Sm) : (smvs l).length = 3 * l.length := by
  induction l with
  | nil => rfl
  | cons x r ih =>
    show (smv x ++ smvs r).length = _
    rw [List.length_append, ih, List.length_cons]
    show 3 + _ = _
    omega
theorem smvs_at : ∀ (l : List Sm) (k j : Nat) (h : k < l.length), j < 3 → (smvs l)[k * 3 + j]? = (smv l[k])[j]?
  | [], k, _, h, _ => absurd h (Nat.not_lt_zero _)
  | p :: r, 0, j, _, hj => by
    show (smv p ++ smvs r)[0 * 3 + j]? = _
    rw [Nat.zero_mul, Nat.zero_add, List.getElem?_append_left (by simpa [smv] using hj)]
    rfl
  | p :: r, k + 1, j, h, hj => by
    show (smv p ++ smvs r)[(k + 1) * 3 + j]? = _
    rw [List.getElem?_append_right (by simp [smv]; omega)]
    have : (k + 1) * 3 + j - (smv p).length = k * 3 + j := by simp [smv]; omega
    rw [this]
    exact smvs_at r k j (by simpa using h) hj
theorem smvs_set : ∀ (l : List Sm) (k j : Nat) (v : Value) (s' : Sm) (h : k < l.length), j < 3 → smv s' = (smv l[k]).set j v → (smvs l).set (k * 3 + j) v = smvs (l.set k s')
  | [], k, _, _, _, h, _, _ => absurd h (Nat.not_lt_zero _)
  | p :: r, 0, j, v, s', _, hj, e => by
    show (smv p ++ smvs r).set (0 * 3 + j) v = smv s' ++ smvs r
    rw [Nat.zero_mul, Nat.zero_add, List.set_append_left _ _ (by simpa [smv] using hj), e]
    rfl
  | p :: r, k + 1, j, v, s', h, hj, e => by
    show (smv p ++ smvs r).set ((k + 1) * 3 + j) v = smv p ++ smvs (r.set k s')
    rw [List.set_append_right _ _ (by simp [smv]; omega)]
    have : (k + 1) * 3 + j - (smv p).length = k * 3 + j := by simp [smv]; omega
    rw [this, smvs_set r k j v s' (by simpa using h) hj (by simpa using e)]
def rgv (x z : Int) (l : List Sm) : List Value := .int .i64 x :: .int .i64 z :: smvs l
/-- The region's block. -/
structure RB (w : World) (g : Nat) (x z : Int) (l : List Sm) : Prop where
  head : w.heap[g]? = some (.cells (rgv x z l).toArray 73 (0, 0))
  n : l.length = 16
section
variable {w w' : World} {g : Nat} {x z : Int} {l : List Sm}
theorem RB.lt (H : RB w g x z l) : g < w.heap.size := (Array.getElem?_eq_some_iff.1 H.head).1
theorem RB.keep (H : RB w g x z l) (h : w'.heap[g]? = w.heap[g]?) : RB w' g x z l := ⟨h.trans H.head, H.n⟩
theorem RB.on (H : RB w g x z l) (hb : Below w.heap.size w w') : RB w' g x z l := H.keep (hb.block g H.lt)
theorem RB.xz (H : RB w g x z l) : w.cell? ⟨g, 0, none⟩ = some (.int .i64 x) ∧ w.cell? ⟨g, 1, none⟩ = some (.int .i64 z) := by
  refine ⟨?_, ?_⟩
  · rw [cell_of_row w g 0 _ 73 (0, 0) H.head]; rfl
  · rw [cell_of_row w g 1 _ 73 (0, 0) H.head]; rfl
theorem RB.cell (H : RB w g x z l) (k j : Nat) (hk : k < l.length) (hj : j < 3) : w.cell? ⟨g, 2 + k * 3 + j, none⟩ = (smv l[k])[j]? := by
  rw [cell_of_row w g _ _ 73 (0, 0) H.head, ← smvs_at l k j hk hj, List.getElem?_toArray]
  show (rgv x z l)[2 + k * 3 + j]? = _
  rw [show 2 + k * 3 + j = (k * 3 + j) + 1 + 1 by omega]
  rfl
theorem RB.cells (H : RB w g x z l) (k : Nat) (hk : k < l.length) : w.cell? ⟨g, 2 + k * 3, none⟩ = some (.int .i64 (l[k].f : Int)) ∧ w.cell? ⟨g, 2 + k * 3 + 1, none⟩ = some (.int .i64 (l[k].m : Int)) ∧ w.cell? ⟨g, 2 + k * 3 + 2, none⟩ = some (.slice l[k].a l[k].b.length l[k].c) :=
  ⟨H.cell k 0 hk (by omega), H.cell k 1 hk (by omega), H.cell k 2 hk (by omega)⟩
theorem RB.free (H : RB w g x z l) (j : Nat) : w.frozen? ⟨g, j, none⟩ = false := frozen_of_row w _ _ _ 73 H.head
theorem RB.range (H : RB w g x z l) : w.rangeAt g 2 (smvs l) := fun j v hj => by
  rw [cell_of_row w g _ _ 73 (0, 0) H.head, List.getElem?_toArray]
  show (rgv x z l)[2 + j]? = _
  rw [show 2 + j = j + 1 + 1 by omega]
  exact hj
theorem RB.set (H : RB w g x z l) (k j : Nat) (v : Value) (s' : Sm) (hk : k < l.length) (hj : j < 3) (e : smv s' = (smv l[k]).set j v) : RB (w.setCell ⟨g, 2 + k * 3 + j, none⟩ v) g x z (l.set k s') := by
  refine ⟨?_, by rw [List.length_set]; exact H.n⟩
  rw [heap_setCell_same w g _ _ 73 _ H.head, List.setIfInBounds_toArray]
  have : (rgv x z l).set (2 + k * 3 + j) v = rgv x z (l.set k s') := by
    rw [show 2 + k * 3 + j = (k * 3 + j) + 1 + 1 by omega]
    show _ :: _ :: (smvs l).set (k * 3 + j) v = _
    rw [smvs_set l k j v s' hk hj e]
    rfl
  rw [this]
/-- A slot's sectors are others. -/
theorem RB.setAt (H : RB w g x z l) (k : Nat) (f m : Nat) (hk : k < l.length) : RB ((w.setCell ⟨g, 2 + k * 3, none⟩ (.int .i64 (f : Int))).setCell ⟨g, 2 + k * 3 + 1, none⟩ (.int .i64 (m : Int))) g x z (l.set k ⟨f, m, l[k].a, l[k].c, l[k].b⟩) := by
  have h1 := H.set k 0 (.int .i64 (f : Int)) ⟨f, l[k].m, l[k].a, l[k].c, l[k].b⟩ hk (by omega) rfl
  have h2 := h1.set k 1 (.int .i64 (m : Int)) ⟨f, m, l[k].a, l[k].c, l[k].b⟩ (by rw [List.length_set]; exact hk) (by omega) (by rw [List.getElem_set_self]; rfl)
  rw [List.set_set] at h2
  exact h2
/-- A slot's bytes are others. -/
theorem RB.setDat (H : RB w g x z l) (k : Nat) (a : Option Addr) (c : Nat) (b : List Int) (hk : k < l.length) : RB (w.setCell ⟨g, 2 + k * 3 + 2, none⟩ (.slice a b.length c)) g x z (l.set k ⟨l[k].f, l[k].m, a, c, b⟩) :=
  H.set k 2 _ ⟨l[k].f, l[k].m, a, c, b⟩ hk (by omega) rfl
/-- No cell of a region is a byte. -/
theorem RB.no_u8 (H : RB w g x z l) {j : Nat} {y : Int} : w.cell? ⟨g, j, none⟩ ≠ some (.int .u8 y) := by
  rw [cell_of_row w g _ _ 73 (0, 0) H.head, List.getElem?_toArray]
  intro h
  have hm := List.mem_of_getElem? h
  simp only [rgv, List.mem_cons] at hm
  rcases hm with hm | hm | hm
  · cases hm
  · cases hm
  · unfold smvs at hm
    obtain ⟨s, _, hs⟩ := List.mem_flatMap.1 hm
    simp [smv] at hs
end
/-- Bytes do not lie in a region's block. -/
theorem bytes_away {w : World} {g : Nat} {x z : Int} {l : List Sm} (H : RB w g x z l) {a : Option Addr} {n : Nat} {xs : List Int} (h : Bytes w a n xs) (w' : World) (hO : Only g w w') : Bytes w' a n xs := by
  refine ⟨h.n, ?_, h.fit⟩
  rcases h.cells with e | ⟨b, off, e, hc⟩
  · exact Or.inl e
  · refine Or.inr ⟨b, off, e, fun k hk => ?_⟩
    have hne : b ≠ g := fun eq => by
      subst eq
      exact H.no_u8 (hc k hk)
    rw [← hc k hk]
    exact World.cell?_of_block (a := ⟨b, off + k, none⟩) (hO.block b hne)
theorem size71 : (Try.prog.info? 71).map (·.size) = some 48 := by kernel_rfl
theorem size73 : (Try.prog.info? 73).map (·.size) = some 50 := by kernel_rfl
theorem smvs_one (l : List Sm) : ∀ v ∈ smvs l, v.oneCell' = true := by
  intro v hv
  unfold smvs at hv
  obtain ⟨s, _, hs⟩ := List.mem_flatMap.1 hv
  simp only [smv, List.mem_cons, List.not_mem_nil, or_false] at hs
  rcases hs with rfl | rfl | rfl <;> rfl
theorem rgv_one (x z : Int) (l : List Sm) : (rgv x z l).toArray.all (·.oneCell') = true := all_oneCell_toArray (fun v hv => by
  simp only [rgv, List.mem_cons] at hv
  rcases hv with rfl | rfl | hv
  · rfl
  · rfl
  · exact smvs_one l v hv)
theorem rgv_size {l : List Sm} (hn : l.length = 16) (x z : Int) : (rgv x z l).toArray.size = 50 := by
  rw [List.size_toArray]
  show (smvs l).length + 1 + 1 = 50
  rw [smvs_len, hn]
/-- A slot of the array that was loaded. -/
theorem ix71 {l : List Sm} (k : Nat) (hk : k < l.length) (hn : l.length = 16) (w : World) : (Instr.index 71 (.agg (smvs l).toArray) (.int .i64 (k : Int))).run Try.prog w = .ok (.agg #[.int .i64 (l[k].f : Int), .int .i64 (l[k].m : Int), .slice l[k].a l[k].b.length l[k].c]) w := by
  have h0 := smvs_at l k 0 hk (by omega)
  have h1 := smvs_at l k 1 hk (by omega)
  have h2 := smvs_at l k 2 hk (by omega)
  have hlen := smvs_len l
  rw [hn] at hlen
  generalize smvs l = Z at *
  have hsz : (sizeOf 70).run Try.prog w = .ok 3 w := by kernel_rfl
  have hx : (Z.drop (k * 3)).take 3 = [.int .i64 (l[k].f : Int), .int .i64 (l[k].m : Int), .slice l[k].a l[k].b.length l[k].c] := by
    apply List.ext_getElem?
    intro i
    rw [List.getElem?_take]
    by_cases hi : i < 3
    · rw [if_pos hi, List.getElem?_drop]
      match i, hi with
      | 0, _ => exact h0
      | 1, _ => exact h1
      | 2, _ => exact h2
    · rw [if_neg hi, List.getElem?_eq_none (by simp; omega)]
  have hk' : k < 16 := by omega
  simp [Instr.index, run_underlying Try.underlying71, asIntOf, part, hsz, hx, Sem.run_bind, hk']
end
section
open Go.RowKit

set_option maxHeartbeats 1000000 in
theorem div_c (n : Int) (h0 : 0 ≤ n) (h1 : n ≤ 9223372036854775807) (w : World) : Calls Try.prog 25 #[.int .i64 n, .int .i64 32] w fun e w' => e = .returned (.int .i64 (n / 32)) ∧ w' = w := by
  have et : n.tdiv 32 = n / 32 := Int.tdiv_eq_ediv_of_nonneg h0
  have em : n.tmod 32 = n % 32 := Int.tmod_eq_emod_of_nonneg h0
  have hm : ¬ n % 32 < 0 := by omega
  go_enter Try.func25, Try.ntmps25
  go_wp2
  go_ret
  exact ⟨by first | rfl | (rw [et]), rfl⟩
set_option maxHeartbeats 1000000 in
theorem need_c (n : Int) (hn : I64 n) (w : World) : Calls Try.prog 10 #[.int .i64 n] w fun e w' => e = .returned (.int .i64 (needI n)) ∧ w' = w := by
  obtain ⟨h1, h2⟩ := hn
  by_cases h : n < 1
  · have e : needI n = 0 := by unfold needI; rw [if_pos h]
    rw [e]
    go_enter Try.func10, Try.ntmps10
    go_wp2
    go_ret
    exact ⟨rfl, rfl⟩
  · have e : needI n = (n - 1) / 32 + 1 := by unfold needI; rw [if_neg h]
    obtain ⟨Post, hPost⟩ : ∃ Post : Ending → World → Prop, Post = fun e w' => e = .returned (.int .i64 (needI n)) ∧ w' = w := ⟨_, rfl⟩
    rw [← hPost]
    have R : Post (.returned (.int .i64 ((n - 1) / 32 + 1))) w := by rw [hPost]; exact ⟨by rw [e], rfl⟩
    clear hPost e
    go_enter Try.func10, Try.ntmps10
    go_wp2_with fail
    refine (div_c (n - 1) (by omega) (by omega) w).mono ?_
    rintro _ w' ⟨rfl, rfl⟩
    have hd : (n - 1) / 32 ≤ 9223372036854775806 := by omega
    have hd0 : 0 ≤ (n - 1) / 32 := by omega
    generalize (n - 1) / 32 = q at *
    go_wp2
    exact R
theorem need_n (n : Nat) (hn : n ≤ 9223372036854775807) (w : World) : Calls Try.prog 10 #[.int .i64 (n : Int)] w fun e w' => e = .returned (.int .i64 (needS n : Int)) ∧ w' = w := by
  refine (need_c (n : Int) ⟨by omega, by omega⟩ w).mono ?_
  rintro e w' ⟨he, hw⟩
  exact ⟨by rw [he, needI_nat], hw⟩
set_option maxHeartbeats 1000000 in
theorem gknown_c (n : Int) (w : World) : Calls Try.prog 37 #[.int .i64 n] w fun e w' => e = .returned (.bool (decide (0 ≤ n ∧ n < 16))) ∧ w' = w := by
  by_cases h : 0 ≤ n
  · by_cases h2 : n < 16
    · have d : decide (0 ≤ n ∧ n < 16) = true := decide_eq_true ⟨h, h2⟩
      rw [d]
      go_enter Try.func37, Try.ntmps37
      go_wp2
      go_ret
      exact ⟨rfl, rfl⟩
    · have d : decide (0 ≤ n ∧ n < 16) = false := decide_eq_false (by omega)
      rw [d]
      go_enter Try.func37, Try.ntmps37
      go_wp2
      go_ret
      exact ⟨rfl, rfl⟩
  · have d : decide (0 ≤ n ∧ n < 16) = false := decide_eq_false (by omega)
    rw [d]
    go_enter Try.func37, Try.ntmps37
    go_wp2
    go_ret
    exact ⟨rfl, rfl⟩
theorem wp_region_tail {P : Program} {id : Nat} {Q : Exit → Act → World → Prop} {a : Act} {w : World} {l : List Oper} (n : Nat) (hm : P.follows .mixedOrders = true) (hB : Region.lexTailB .any l.toArray n = true)
    (h : wpStill P l.toArray (w.drewN 1) (fun a' => wpList P l.toArray Q (l.drop n) a' (w.drewN 1)) (l.take n) a) : (Code.region id l.toArray true).wp P Q a w :=
  wp_region_still_tail n hm hB h
theorem below_setRow {B g : Nat} {w0 w : World} {cs : Array Value} (hb : Below B w0 w) (hg : B ≤ g) : Below B w0 (w.setRow g cs) :=
  ⟨hb.os, hb.tape, hb.output, by rw [setRow_size]; exact hb.size, fun k hk => (setRow_other w g k cs (by omega)).trans (hb.block k hk)⟩
theorem only_setRow (g : Nat) (w : World) (cs : Array Value) : Only g w (w.setRow g cs) := ⟨rfl, rfl, rfl, setRow_size w g cs, fun k hk => setRow_other w g k cs hk⟩
set_option maxHeartbeats 1000000 in
theorem file_c (g : Nat) (x z : Int) (l : List Sm) (w : World) (H : RB w g x z l) : Calls Try.prog 42 #[.pointer (some ⟨g, 0, none⟩)] w fun e w' => e = .returned (.agg #[.int .i64 2, .int .i64 x, .int .i64 z]) ∧ Below w.heap.size w w' := by
  obtain ⟨Post, hPost⟩ : ∃ Post : Ending → World → Prop, Post = fun e w' => e = .returned (.agg #[.int .i64 2, .int .i64 x, .int .i64 z]) ∧ Below w.heap.size w w' := ⟨_, rfl⟩
  rw [← hPost]
  have HP : Hid (∀ w', Below w.heap.size w w' → Post (.returned (.agg #[.int .i64 2, .int .i64 x, .int .i64 z])) w') := fun w' h => by rw [hPost]; exact ⟨rfl, h⟩
  clear hPost
  obtain ⟨c0, c1⟩ := H.xz
  have hg := H.lt
  clear H
  go_enter Try.func42, Try.ntmps42
  go_wp2_with fail
  have hb1 : Below w.heap.size w (w.alloc (.cells #[.int .i64 0, .int .i64 0, .int .i64 0] 29)) := (Below.refl _ _).alloc (Nat.le_refl _) _
  have hn := heap_alloc_new w (.cells #[.int .i64 0, .int .i64 0, .int .i64 0] 29)
  have c0' := (cell_below c0 hb1)
  have c1' := (cell_below c1 hb1)
  generalize w.alloc (.cells #[.int .i64 0, .int .i64 0, .int .i64 0] 29) = w1 at *
  have d0 : (w1.drewN 1).cell? ⟨g, 0, none⟩ = some (.int .i64 x) := c0'
  have d1 : (w1.drewN 1).cell? ⟨g, 1, none⟩ = some (.int .i64 z) := c1'
  refine wp_region_tail 9 (by kernel_rfl) (by kernel_rfl) ?_
  simp only [List.take_succ_cons, List.take_zero, List.drop_succ_cons, List.drop_zero]
  repeat still_step
  refine wpStill_nil ?_
  have hn1 : (w1.drewN 1).heap[w.heap.size]? = some (.cells #[.int .i64 0, .int .i64 0, .int .i64 0] 29 (0, 0)) := hn
  have hb2 : Below w.heap.size w (w1.drewN 1) := ⟨hb1.os, hb1.tape, hb1.output, hb1.size, hb1.block⟩
  clear hn hb1 c0 c1 c0' c1' d0 d1
  generalize w1.drewN 1 = w2 at *
  have Hb2 : Hid (Below w.heap.size w w2) := hb2
  have Hn1 : Hid (w2.heap[w.heap.size]? = some (.cells #[.int .i64 0, .int .i64 0, .int .i64 0] 29 (0, 0))) := hn1
  clear hb2 hn1
  refine wpList_store_row rfl 29 (.tmp 2) (.tmp 11) rfl w.heap.size #[.int .i64 2, .int .i64 x, .int .i64 z] rfl rfl 29 _ Hn1.out (by kernel_rfl) rfl (by simp [Value.oneCell']) ?_
  have hr := setRow_heap w2 w.heap.size _ #[.int .i64 2, .int .i64 x, .int .i64 z] 29 (0, 0) Hn1.out
  have hb3 : Below w.heap.size w (w2.setRow w.heap.size #[.int .i64 2, .int .i64 x, .int .i64 z]) := below_setRow Hb2.out (Nat.le_refl _)
  have R := HP.out _ hb3
  clear HP Hb2 Hn1 hb3
  generalize w2.setRow w.heap.size #[.int .i64 2, .int .i64 x, .int .i64 z] = w3 at *
  have Hr : Hid (w3.heap[w.heap.size]? = some (.cells #[.int .i64 2, .int .i64 x, .int .i64 z] 29 (0, 0))) := hr
  clear hr
  go_wp2_with fail
  exact bodyPost_ret (results_cell_row rfl _ _ w.heap.size 29 _ (0, 0) _ rfl Hr.out Try.underlying29 rfl (by kernel_rfl)) rfl R
end
section
open Go.RowKit

theorem size5N (w : World) : (sizeOf 5).run Try.prog w = .ok 1 w := by kernel_rfl
theorem cut_tail (g o n c f : Nat) (hf : f < c) (hfn : f ≤ n) (w : World) : (Instr.sliceAt 25 (.slice (some ⟨g, o, none⟩) n c) (some (.int .i64 (f : Int))) none none).run Try.prog w = .ok (.slice (some ⟨g, o + f, none⟩) (n - f) (c - f)) w := by
  rw [run_sliceAt_slice w 25 _ _ _ _ (by kernel_rfl), run_slice_l w 25 (some ⟨g, o, none⟩) n c (by kernel_rfl) .i64 f (by omega) (by omega), show Try.prog.elem 25 = 5 by kernel_rfl, size5N, Result.andThen_ok, Int.toNat_natCast]
  unfold sliced
  rw [if_neg (by omega), Nat.mul_one]
  show Result.ok (Value.slice (some ((⟨g, o, none⟩ : Addr).add f)) _ _) w = _
  rw [Addr.add_mid]
theorem bytes_tail {w : World} {g o n f : Nat} {xs : List Int} (h : Bytes w (some ⟨g, o, none⟩) n xs) (hf : f ≤ n) : Bytes w (some ⟨g, o + f, none⟩) (n - f) (xs.drop f) := by
  have hn := h.n
  refine ⟨by rw [List.length_drop, hn], ?_, fun z hz => h.fit z (List.mem_of_mem_drop hz)⟩
  rcases h.cells with e | ⟨b, off, e, hc⟩
  · exact Or.inl (by rw [e]; simp)
  · obtain ⟨rfl, rfl⟩ : g = b ∧ o = off := by simpa using e
    refine Or.inr ⟨g, o + f, rfl, fun k hk => ?_⟩
    rw [List.length_drop] at hk
    rw [List.getElem_drop, Nat.add_assoc]
    exact hc (f + k) (by omega)
/-- copy of bytes to a row that may be shorter. -/
theorem wpList_copy_most {w : World} {ops : Array Oper} {rest : List Oper} {o : Oper} {a : Act} {Q : Exit → Act → World → Prop} (hgd : o.guard = none) (d s : Operand)
    (ho : o.op = .call { callee := .builtin .copy, args := #[d, s], argTypes := #[25, 25] }) (g dLen dCap : Nat) (sp : Option Addr) (sLen sCap : Nat) (hd : a.eval d = .slice (some ⟨g, 0, none⟩) dLen dCap) (hs : a.eval s = .slice sp sLen sCap)
    (zs xs : List Int) (t : TypeId) (hR : w.heap[g]? = some (.cells (vals zs) t (0, 0))) (hz : zs.length = dLen) (hX : Bytes w sp sLen xs) (B : Nat) (w0 : World) (hb : Below B w0 w) (hBg : B ≤ g)
    (h : ∀ w' y, Hid (w'.heap[g]? = some (.cells (vals (xs.take dLen ++ zs.drop sLen)) t (0, 0))) → Below B w0 w' → wpList Try.prog ops Q rest (a.put o.dst y) w') : wpList Try.prog ops Q (o :: rest) a w := by
  have hn := hX.n
  obtain ⟨i, hi, hz0, hz1, hz2⟩ := info_parts Try.info5
  refine wpList_copy_splice hgd d s 25 25 ho 5 Try.underlying25 (by rw [hi]; simp [hz1]) _ sp dLen dCap sLen sCap hd hs g 0 (zs.map (Value.int .u8)) t hR ((xs.take dLen).map (Value.int .u8)) (by rw [List.length_map, List.length_take, hn]; exact Nat.min_comm _ _) ?_ (by simp; omega) (ints_oneCell _ _) B w0 hb hBg ?_
  · intro hp
    rcases hX.cells with e | ⟨b, off, e, hc⟩
    · simp [e] at hp
    · refine ⟨rfl, _, e, fun j v hj => ?_⟩
      obtain ⟨hj', hv⟩ := List.getElem?_eq_some_iff.1 hj
      rw [List.length_map, List.length_take] at hj'
      rw [Addr.add_lit, hc j (by omega), ← hv]
      simp
  · intro w' hw hbel
    refine h w' _ ?_ hbel
    have hw := hw.out
    show _ = _
    rw [hw]
    congr 2
    have e2 : min dLen (min sLen zs.length) = min sLen zs.length := by omega
    simp [splice, vals, hn, e2]
/-- What stands in a sector. -/
def secP (b : List Int) (k : Nat) : List Int := sec b k ++ List.replicate (32 - (sec b k).length) 0
theorem sec_le (b : List Int) (k : Nat) : (sec b k).length ≤ 32 := by unfold sec; rw [List.length_take]; omega
theorem secP_len (b : List Int) (k : Nat) : (secP b k).length = 32 := by
  have := sec_le b k
  unfold secP
  rw [List.length_append, List.length_replicate]
  omega
theorem secP_fit {b : List Int} (hb : ∀ z ∈ b, 0 ≤ z ∧ z ≤ 255) (k : Nat) : ∀ z ∈ secP b k, 0 ≤ z ∧ z ≤ 255 := fun z hz => by
  unfold secP sec at hz
  rcases List.mem_append.1 hz with h | h
  · exact hb z (List.mem_of_mem_drop (List.mem_of_mem_take h))
  · rw [List.eq_of_mem_replicate h]; omega
theorem secP_take (b : List Int) (k : Nat) : (secP b k).take (sec b k).length = sec b k := by
  unfold secP
  rw [List.take_append_of_le_length (Nat.le_refl _), List.take_of_length_le (Nat.le_refl _)]
set_option maxHeartbeats 1000000 in
theorem sector_c (a : Option Addr) (n c k : Nat) (bs : List Int) (w : World) (hB : Bytes w a n bs) (hk : k * 32 < n) (hn : n ≤ 1000000000) (hc : n ≤ c) :
    Calls Try.prog 52 #[.slice a n c, .int .i64 (k : Int)] w fun e w' => e = .returned (.slice (some ⟨w.heap.size, 0, none⟩) 32 32) ∧ Row w' w.heap.size (secP bs k) ∧ Below w.heap.size w w' := by
  obtain ⟨Post, hPost⟩ : ∃ Post : Ending → World → Prop, Post = fun e w' => e = .returned (.slice (some ⟨w.heap.size, 0, none⟩) 32 32) ∧ Row w' w.heap.size (secP bs k) ∧ Below w.heap.size w w' := ⟨_, rfl⟩
  rw [← hPost]
  have HP : Hid (∀ w', Row w' w.heap.size (secP bs k) → Below w.heap.size w w' → Post (.returned (.slice (some ⟨w.heap.size, 0, none⟩) 32 32)) w') := fun w' h1 h2 => by rw [hPost]; exact ⟨rfl, h1, h2⟩
  clear hPost
  obtain ⟨g, o, _, rfl, _⟩ := hB.get 0 (by omega)
  have HB : Hid (Bytes w (some ⟨g, o, none⟩) n bs) := hB
  have hcut := cut_tail g o n c (32 * k) (by omega) (by omega)
  have hmul : IntKind.i64.wrap ((k : Int) * 32) = ((32 * k : Nat) : Int) := by rw [IntKind.wrap_i64]; omega
  clear hB
  go_enter Try.func52, Try.ntmps52
  have eS : Hid (((bs.drop (32 * k)).take 32) ++ (List.replicate 32 (0 : Int)).drop (n - 32 * k) = secP bs k) := by
    have hbn := HB.out.n
    show _ = _
    unfold secP sec
    rw [List.drop_replicate, List.length_take, List.length_drop]
    congr 2
    omega
  go_wp2_with (first
    | (at_make; refine wpList_make_bytes w rfl _ _ rfl 32 32 rfl rfl rfl (by omega) ?_; intro w1 HR1 hb1)
    | (refine wpList_copy_most rfl (.tmp 7) (.tmp 11) rfl w.heap.size 32 32 _ _ _ rfl rfl (List.replicate 32 0) _ 5 HR1.out (by simp) (bytes_tail (HB.out.later hb1) (show 32 * k ≤ n by omega)) w.heap.size w hb1 (Nat.le_refl _) ?_; clear hb1; intro w2 y HR2 hb2))
  refine HP.out _ ?_ hb2
  have := HR2.out
  rw [eS.out] at this
  exact this
/-- A slot's entry in the header. -/
theorem entry_c (f m : Nat) (a : Option Addr) (n c : Nat) (w : World) (hf : f < 256) (hm : m < 256) (hn : n < 65536) :
    Calls Try.prog 57 #[.agg #[.int .i64 (f : Int), .int .i64 (m : Int), .slice a n c]] w fun e w' => e = .returned (.agg #[.int .u8 (f : Int), .int .u8 (m : Int), .int .u8 ((n % 256 : Nat) : Int), .int .u8 ((n / 256 : Nat) : Int)]) ∧ Below w.heap.size w w' := by
  go_enter Try.func57, Try.ntmps57
  go_wp2
  have hb1 : Below w.heap.size w (w.alloc (Obj.cells #[Value.int IntKind.i64 ↑f, Value.int IntKind.i64 ↑m, Value.slice a n c] 70)) := (Below.refl _ _).alloc (Nat.le_refl _) _
  have hsz : (w.alloc (Obj.cells #[Value.int IntKind.i64 ↑f, Value.int IntKind.i64 ↑m, Value.slice a n c] 70)).heap.size = w.heap.size + 1 := by simp
  generalize w.alloc (Obj.cells #[Value.int IntKind.i64 ↑f, Value.int IntKind.i64 ↑m, Value.slice a n c] 70) = w1 at *
  have hr := heap_alloc_new w1 (Obj.cells #[Value.int IntKind.u8 ↑f, Value.int IntKind.u8 ↑m, Value.int IntKind.u8 (↑n % 256), Value.int IntKind.u8 (↑n / 256)] 93)
  rw [hsz] at hr
  exact bodyPost_ret (results_cell_row rfl _ _ (w.heap.size + 1) 93 _ (0, 0) _ rfl hr Try.underlying93 rfl (by kernel_rfl)) rfl ⟨rfl, hb1.alloc (by omega) _⟩
set_option maxHeartbeats 1000000 in
theorem clone_c (a : Option Addr) (n c : Nat) (bs : List Int) (w : World) (hB : Bytes w a n bs) (hnil : a = none → c = 0) (hn : n ≤ 1000000000) :
    Calls Try.prog 38 #[.slice a n c] w fun e w' => Below w.heap.size w w' ∧ ∃ a' c', e = .returned (.slice a' n c') ∧ Bytes w' a' n bs := by
  obtain ⟨Post, hPost⟩ : ∃ Post : Ending → World → Prop, Post = fun e w' => Below w.heap.size w w' ∧ ∃ a' c', e = .returned (.slice a' n c') ∧ Bytes w' a' n bs := ⟨_, rfl⟩
  rw [← hPost]
  have HP : Hid (∀ w' a' c', Bytes w' a' n bs → Below w.heap.size w w' → Post (.returned (.slice a' n c')) w') := fun w' a' c' h1 h2 => by rw [hPost]; exact ⟨h2, _, _, rfl, h1⟩
  clear hPost
  cases a with
  | none =>
    obtain rfl := hnil rfl
    have h0 : n = 0 := by
      rcases hB.cells with e | ⟨b, off, e, _⟩
      · rw [← hB.n, e]; rfl
      · cases e
    subst h0
    have R := HP.out w none 0 hB (Below.refl _ _)
    clear HP hB hnil
    have he : (binOp .eql 25 (.slice none 0 0) (.slice none 0 0)).run Try.prog w = .ok (.bool true) w := by kernel_rfl
    go_enter Try.func38, Try.ntmps38
    go_wp2
    exact R
  | some ad =>
    have HB : Hid (Bytes w (some ad) n bs) := hB
    clear hB hnil
    have he : (binOp .eql 25 (.slice (some ad) n c) (.slice none 0 0)).run Try.prog w = .ok (.bool false) w := by kernel_rfl
    go_enter Try.func38, Try.ntmps38
    have hown : Own (w.alloc (.cells #[] 5)) w.heap.size (some ⟨w.heap.size, 0, none⟩) 0 [] := ⟨by simp, .inr ⟨w.heap.size, 0, #[], rfl, Nat.le_refl _, heap_alloc_new w _, Nat.le_refl _, by simp, rfl, rfl⟩⟩
    have hb1 : Below w.heap.size w (w.alloc (.cells #[] 5)) := (Below.refl _ _).alloc (Nat.le_refl _) _
    have hB1 := HB.out.later hb1
    have Hb1 : Hid (Below w.heap.size w (w.alloc (.cells #[] 5))) := hb1
    have HB1 : Hid (Bytes (w.alloc (.cells #[] 5)) (some ad) n bs) := hB1
    have Hown : Hid (Own (w.alloc (.cells #[] 5)) w.heap.size (some ⟨w.heap.size, 0, none⟩) 0 []) := hown
    have Hsz : Hid (w.heap.size ≤ (w.alloc (.cells #[] 5)).heap.size) := by show _ ≤ _; simp
    clear hown hb1 hB1 HB
    go_wp2_with (at_builtin; refine wpList_append_bytes rfl _ _ rfl w.heap.size (some ⟨w.heap.size, 0, none⟩) 0 0 [] rfl rfl Hown.out (some ad) n c bs rfl HB1.out (fun h => by cases h) (by omega) w Hb1.out Hsz.out ?_; intro a' c' w' Ho Hb _)
    refine HP.out _ _ _ ?_ Hb
    exact Ho.out.bytes HB1.out.fit _ HB1.out.n
end
section
open Go.RowKit

/-- A row of spans. -/
def SRow (w : World) (b : Nat) (l : List Sp) : Prop := w.heap[b]? = some (.cells (spCells l).toArray 41 (0, 0))
theorem SRow.lt {w : World} {b : Nat} {l : List Sp} (H : SRow w b l) : b < w.heap.size := (Array.getElem?_eq_some_iff.1 H).1
theorem SRow.on {w w' : World} {b : Nat} {l : List Sp} (H : SRow w b l) (hb : Below w.heap.size w w') : SRow w' b l := (hb.block b H.lt).trans H
theorem SRow.cells {w : World} {b : Nat} {l : List Sp} (H : SRow w b l) {k : Nat} (hk : k < l.length) : w.cell? ⟨b, k * 2, none⟩ = some (.int .i64 (l[k].1 : Int)) ∧ w.cell? ⟨b, k * 2 + 1, none⟩ = some (.int .i64 (l[k].2 : Int)) := by
  have := spCells_at l k hk
  refine ⟨?_, ?_⟩
  · rw [cell_of_row w b _ _ 41 (0, 0) H, List.getElem?_toArray]; exact this.1
  · rw [cell_of_row w b _ _ 41 (0, 0) H, List.getElem?_toArray]; exact this.2
theorem SRow.free {w : World} {b : Nat} {l : List Sp} (H : SRow w b l) (j : Nat) : w.frozen? ⟨b, j, none⟩ = false := frozen_of_row w _ _ _ 41 H
theorem spCells_set : ∀ (l : List Sp) (k : Nat) (s : Sp), k < l.length → ((spCells l).set (k * 2) (.int .i64 (s.1 : Int))).set (k * 2 + 1) (.int .i64 (s.2 : Int)) = spCells (l.set k s)
  | [], k, _, h => absurd h (Nat.not_lt_zero _)
  | a :: r, 0, s, _ => rfl
  | a :: r, k + 1, s, h => by
    have ih := spCells_set r k s (by simpa using h)
    show (((spc a ++ spCells r).set ((k + 1) * 2) _).set ((k + 1) * 2 + 1) _) = spc a ++ spCells (r.set k s)
    rw [List.set_append_right _ _ (by simp [spc]; omega), List.set_append_right _ _ (by simp [spc]; omega), show (k + 1) * 2 - (spc a).length = k * 2 by simp [spc]; omega, show (k + 1) * 2 + 1 - (spc a).length = k * 2 + 1 by simp [spc]; omega, ih]
theorem SRow.set {w : World} {b : Nat} {l : List Sp} (H : SRow w b l) {k : Nat} (hk : k < l.length) (s : Sp) : SRow ((w.setCell ⟨b, k * 2, none⟩ (.int .i64 (s.1 : Int))).setCell ⟨b, k * 2 + 1, none⟩ (.int .i64 (s.2 : Int))) b (l.set k s) := by
  unfold SRow
  have h1 := heap_setCell_same w b (k * 2) _ 41 (.int .i64 (s.1 : Int)) H
  rw [heap_setCell_same _ b (k * 2 + 1) _ 41 _ h1, List.setIfInBounds_toArray, List.setIfInBounds_toArray, spCells_set l k s hk]
theorem SRow.at {w : World} {b : Nat} {l : List Sp} (H : SRow w b l) : SpsAt w (some ⟨b, 0, none⟩) l := .inr ⟨b, 0, rfl, fun j u hj => by
  rw [Nat.zero_add, cell_of_row w b _ _ 41 (0, 0) H, List.getElem?_toArray]; exact hj⟩
theorem made_sps (n : Nat) : madeCells #[.int .i64 0, .int .i64 0] (n * 2) = (spCells (List.replicate n (0, 0))).toArray := by
  apply Array.ext
  · simp [madeCells, spCells_len]
  · intro i h1 h2
    have h3 : i < n * 2 := by simpa [madeCells] using h1
    have key : (spCells (List.replicate n (0, 0)))[i]? = some (.int .i64 0) := by
      have := spCells_at (List.replicate n (0, 0)) (i / 2) (by rw [List.length_replicate]; omega)
      rw [List.getElem_replicate] at this
      rcases Nat.mod_two_eq_zero_or_one i with e | e
      · rw [show i = i / 2 * 2 by omega]; exact this.1
      · rw [show i = i / 2 * 2 + 1 by omega]; exact this.2
    have e2 : (spCells (List.replicate n (0, 0))).toArray[i] = .int .i64 0 := by
      rw [List.getElem_toArray]
      exact (List.getElem?_eq_some_iff.1 key).2
    rw [e2]
    rcases Nat.mod_two_eq_zero_or_one i with e | e <;> simp [madeCells, e]
theorem own_full2 {w : World} {base g N : Nat} {e : TypeId} {xs : List Value} (h : w.ownsRow base e 2 (.slice (some ⟨g, 0, none⟩) N N) N xs) : w.heap[g]? = some (.cells xs.toArray e (0, 0)) := by
  rcases h.2 with ⟨h', _⟩ | ⟨g', cap, cur, hv, _, hh, _, _, hs, ht⟩
  · simp at h'
  · simp only [Value.slice.injEq, Option.some.injEq, Addr.mk.injEq, and_true, true_and] at hv
    obtain ⟨rfl, rfl⟩ := hv
    rw [hh]
    have e1 : cur.toList = xs := by
      rw [List.take_of_length_le (by simp; omega)] at ht
      exact ht
    rw [← e1]
theorem wpList_make_sps (w : World) {ops : Array Oper} {rest : List Oper} {o : Oper} {a : Act} {Q : Exit → Act → World → Prop}
    (hg : o.guard = none) (l c : Operand) (hop : o.op = Op.makeSlice 32 l c) (L : Int) (n : Nat) (hl : a.eval l = .int .i64 L) (hc : a.eval c = .int .i64 L) (hL : L = (n : Int)) (hn : n ≤ 1000000000)
    (hK : ∀ w', Hid (SRow w' w.heap.size (List.replicate n (0, 0))) → Below w.heap.size w w' → wpList Try.prog ops Q rest (a.put o.dst (.slice (some ⟨w.heap.size, 0, none⟩) n n)) w') :
    wpList Try.prog ops Q (o :: rest) a w := by
  obtain ⟨i, hi, hz0, hz1, hz2⟩ := info_parts info41
  refine wpList_make_full w hg l c 32 hop w.heap.size 41 i (.agg #[.int .i64 0, .int .i64 0]) 2 Try.underlying32 hi hz0 hz1 .i64 .i64 L L n hl hc hL hL (by rw [hz2]; omega) (by unfold maxLen; omega) (Nat.le_refl _) ?_
  intro w' hown hgrow
  refine hK w' ?_ ((Below.refl _ _).grown hgrow (Nat.le_refl _) (by simp))
  have := own_full2 hown
  show SRow _ _ _
  unfold SRow
  rw [this]
  show some (Obj.cells (madeCells #[Value.int .i64 0, Value.int .i64 0] (n * 2)) 41 (0, 0)) = _
  rw [made_sps]
set_option maxHeartbeats 1000000 in
theorem live_c (g : Nat) (x z : Int) (l : List Sm) (w : World) (H : RB w g x z l) :
    Calls Try.prog 24 #[.pointer (some ⟨g, 0, none⟩)] w fun e w' => Below w.heap.size w w' ∧ e = .returned (.slice (some ⟨w.heap.size, 0, none⟩) 16 16) ∧ SRow w' w.heap.size (l.map Sm.sp) := by
  obtain ⟨Post, hPost⟩ : ∃ Post : Ending → World → Prop, Post = fun e w' => Below w.heap.size w w' ∧ e = .returned (.slice (some ⟨w.heap.size, 0, none⟩) 16 16) ∧ SRow w' w.heap.size (l.map Sm.sp) := ⟨_, rfl⟩
  rw [← hPost]
  have HP : Hid (∀ w', SRow w' w.heap.size (l.map Sm.sp) → Below w.heap.size w w' → Post (.returned (.slice (some ⟨w.heap.size, 0, none⟩) 16 16)) w') := fun w' h1 h2 => by rw [hPost]; exact ⟨h2, rfl, h1⟩
  clear hPost
  have HB : Hid (RB w g x z l) := H
  have hgl := H.lt
  obtain ⟨Z, hZ⟩ : ∃ Z, Z = smvs l := ⟨_, rfl⟩
  have HZ : Hid (Z = smvs l) := hZ
  clear H hZ
  go_enter Try.func24, Try.ntmps24
  go_wp2_with (first
    | (at_make; refine wpList_make_sps w rfl _ _ rfl 16 16 rfl rfl rfl (by omega) ?_; intro w1 HR1 hb1)
    | (refine wpList_load_mid rfl 71 (.tmp 11) rfl g 2 rfl Z _ (by rw [HZ.out]; exact (HB.out.on hb1).range) Try.underlying71 rfl (by rw [HZ.out, smvs_len, HB.out.n]; exact size71) ?_))
  have Hb1 : Hid (Below w.heap.size w w1) := hb1
  have hlt := HR1.out.lt
  clear hb1
  have HB1 : Hid (RB w1 g x z l) := HB.out.on Hb1.out
  clear HB
  go_loopw [13] (fun v wr => ∃ (j : Nat), j ≤ 16 ∧ v = .int .i64 (j : Int) ∧ Hid (SRow wr w.heap.size ((l.map Sm.sp).take j ++ List.replicate (16 - j) (0, 0))) ∧ Hid (Below w.heap.size w wr)) (fun v _ => 16 - (intOf v).toNat)
  case atStart => exact ⟨0, Nat.zero_le _, by go_num, (show SRow _ _ _ by simpa using HR1.out), Hb1.out⟩
  case round =>
    clear HR1 Hb1
    obtain ⟨j, hj, rfl, HS, HBe⟩ := hrel
    have hn := HB1.out.n
    by_cases hlt : j < 16
    · have hlt' : (j : Int) < 16 := by omega
      have hjl : j < l.length := by omega
      have hix := ix71 j hjl hn
      rw [← HZ.out] at hix
      have hlen : ((l.map Sm.sp).take j ++ List.replicate (16 - j) (0, 0)).length = 16 := by simp; omega
      obtain ⟨q0, q1⟩ := HS.out.cells (k := j) (by omega)
      have f0 := HS.out.free (j * 2)
      have f1 := HS.out.free (j * 2 + 1)
      have hsl := HS.out.lt
      have HN : Hid (∀ (W W' : World), SRow W w.heap.size ((l.map Sm.sp).take j ++ List.replicate (16 - j) (0, 0)) → W' = ((W.setCell ⟨w.heap.size, j * 2, none⟩ (.int .i64 (l[j].f : Int))).setCell ⟨w.heap.size, j * 2 + 1, none⟩ (.int .i64 (l[j].m : Int))) → SRow W' w.heap.size ((l.map Sm.sp).take (j + 1) ++ List.replicate (16 - (j + 1)) (0, 0))) := fun W W' hS hW => by
        have := hS.set (k := j) (by omega) (l[j].f, l[j].m)
        rw [hW]
        refine (congrArg (SRow _ w.heap.size) ?_).mp this
        apply List.ext_getElem?
        intro i
        rw [List.getElem?_set, hlen]
        by_cases h1 : j = i
        · subst h1
          rw [if_pos rfl, if_pos hlt, List.getElem?_append_left (by simp; omega), List.getElem?_take, if_pos (by omega), List.getElem?_map, List.getElem?_eq_getElem hjl]
          rfl
        · rw [if_neg h1]
          by_cases h2 : i < j
          · rw [List.getElem?_append_left (by simp; omega), List.getElem?_append_left (by simp; omega), List.getElem?_take, List.getElem?_take, if_pos h2, if_pos (by omega)]
          · rw [List.getElem?_append_right (by simp; omega), List.getElem?_append_right (by simp; omega), List.getElem?_replicate, List.getElem?_replicate]
            simp only [List.length_take, List.length_map]
            by_cases h3 : i < 16
            · rw [if_pos (by omega), if_pos (by omega)]
            · rw [if_neg (by omega), if_neg (by omega)]
      generalize l[j].f = F at *
      generalize l[j].m = M at *
      generalize l[j].a = A at *
      generalize l[j].b.length = N at *
      generalize l[j].c = C at *
      generalize ((l.map Sm.sp).take j ++ List.replicate (16 - j) (0, 0))[j].1 = o0 at *
      generalize ((l.map Sm.sp).take j ++ List.replicate (16 - j) (0, 0))[j].2 = o1 at *
      have HS' : Hid (SRow (((wr.setCell ⟨w.heap.size, j * 2, none⟩ (.int .i64 (F : Int))).setCell ⟨w.heap.size, j * 2 + 1, none⟩ (.int .i64 (M : Int))).alloc (.cells #[.int .i64 (F : Int), .int .i64 (M : Int), .slice A N C] 70)) w.heap.size ((l.map Sm.sp).take (j + 1) ++ List.replicate (16 - (j + 1)) (0, 0))) := (HN.out wr _ HS.out rfl).on ((Below.refl _ _).alloc (Nat.le_refl _) _)
      have HB' : Hid (Below w.heap.size w (((wr.setCell ⟨w.heap.size, j * 2, none⟩ (.int .i64 (F : Int))).setCell ⟨w.heap.size, j * 2 + 1, none⟩ (.int .i64 (M : Int))).alloc (.cells #[.int .i64 (F : Int), .int .i64 (M : Int), .slice A N C] 70))) := ((HBe.out.setCell (p := ⟨w.heap.size, j * 2, none⟩) (Nat.le_refl _) _).setCell (p := ⟨w.heap.size, j * 2 + 1, none⟩) (Nat.le_refl _) _).alloc (by have := HBe.out.size; simpa using this) _
      have hwl : w.heap.size ≠ wr.heap.size := by omega
      clear hlen HN HS HBe HP
      go_wp2
      go_roundw
      case rel => exact ⟨j + 1, by omega, by go_num, HS', HB'⟩
      case measure => simp [intOf]; omega
    · obtain rfl : j = 16 := by omega
      have hge : ¬ ((16 : Nat) : Int) < 16 := by omega
      have R := HP.out wr (by have := HS.out; rwa [Nat.sub_self, List.replicate_zero, List.append_nil, List.take_of_length_le (by rw [List.length_map]; omega)] at this) HBe.out
      clear HP HS HBe
      go_wp2
      exact R
set_option maxHeartbeats 1000000 in
theorem get_c (g : Nat) (x z : Int) (l : List Sm) (i : Int) (w : World) (H : RB w g x z l) (hD : ∀ s ∈ l, Bytes w s.a s.b.length s.b ∧ (s.a = none → s.c = 0) ∧ s.b.length ≤ 1000000000) :
    Calls Try.prog 22 #[.pointer (some ⟨g, 0, none⟩), .int .i64 i] w fun e w' => Below w.heap.size w w' ∧ ∃ a c, e = .returned (.slice a (if 0 ≤ i ∧ i < 16 then (l.map Sm.b).getD i.toNat [] else []).length c) ∧ Bytes w' a (if 0 ≤ i ∧ i < 16 then (l.map Sm.b).getD i.toNat [] else []).length (if 0 ≤ i ∧ i < 16 then (l.map Sm.b).getD i.toNat [] else []) := by
  by_cases hi : 0 ≤ i ∧ i < 16
  · rw [if_pos hi]
    have hn := H.n
    obtain ⟨I, rfl⟩ := Int.eq_ofNat_of_zero_le hi.1
    have hI : I < l.length := by omega
    have eD : (l.map Sm.b).getD (I : Int).toNat [] = l[I].b := by
      rw [Int.toNat_natCast, List.getD_eq_getElem?_getD, List.getElem?_map, List.getElem?_eq_getElem hI]
      rfl
    rw [eD]
    obtain ⟨h1, h2, h3⟩ := hD l[I] (List.getElem_mem _)
    have q2 := (H.cells I hI).2.2
    obtain ⟨Post, hPost⟩ : ∃ Post : Ending → World → Prop, Post = fun e w' => Below w.heap.size w w' ∧ ∃ a c, e = .returned (.slice a l[I].b.length c) ∧ Bytes w' a l[I].b.length l[I].b := ⟨_, rfl⟩
    rw [← hPost]
    have HP : Hid (∀ a c w', Below w.heap.size w w' → Bytes w' a l[I].b.length l[I].b → Post (.returned (.slice a l[I].b.length c)) w') := fun a c w' h1 h2 => by rw [hPost]; exact ⟨h1, a, c, rfl, h2⟩
    clear hPost eD
    have HB : Hid (Bytes w l[I].a l[I].b.length l[I].b) := h1
    clear h1 hD
    generalize l[I].a = A at *
    generalize l[I].c = C at *
    generalize l[I].b = bs at *
    generalize bs.length = N at *
    have hlt : (I : Int) < 16 := by omega
    have hI0 : I < 16 := by omega
    clear hi
    go_enter Try.func22, Try.ntmps22
    go_wp2_with (first | (go_at_call 37; refine (gknown_c (I : Int) w).mono ?_; rw [decide_eq_true (show 0 ≤ (I : Int) ∧ (I : Int) < 16 by omega)]; rintro _ w1 ⟨rfl, hw⟩; replace hw := hw.symm; subst hw) | (go_at_call 38; refine (clone_c A N C bs w HB.out h2 (by omega)).mono ?_; rintro _ w1 ⟨hb, a', c', rfl, hB'⟩))
    exact HP.out _ _ _ hb hB'
  · rw [if_neg hi]
    obtain ⟨Post, hPost⟩ : ∃ Post : Ending → World → Prop, Post = fun e w' => Below w.heap.size w w' ∧ ∃ a c, e = .returned (.slice a ([] : List Int).length c) ∧ Bytes w' a ([] : List Int).length [] := ⟨_, rfl⟩
    rw [← hPost]
    have R : Post (.returned (.slice none 0 0)) w := by rw [hPost]; exact ⟨Below.refl _ _, none, 0, rfl, ⟨rfl, .inl rfl, fun z hz => by simp at hz⟩⟩
    clear hPost
    go_enter Try.func22, Try.ntmps22
    go_wp2_with (go_at_call 37; refine (gknown_c i w).mono ?_; rw [decide_eq_false hi]; rintro _ w1 ⟨rfl, rfl⟩)
    exact R
end
end Go.Proofs.Ytdjhlpllffakpaa
