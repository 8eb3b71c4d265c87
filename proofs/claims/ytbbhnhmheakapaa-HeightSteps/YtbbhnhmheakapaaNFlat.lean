/-
  What Flat answers, for every number: what lies between the four corners of the plane; it makes new blocks and turns nothing that was there.
-/
import Derived.Test.YtbbhnhmheakapaaNAround
namespace Go.Proofs.Ytbbhnhmheakapaa.N
open Go.RowKit

/-- The corners of a plane: beyond the greatest number comes the least one. -/
def plane (S : Nat) (stage : Int) (x z : Int) : Int := latN S stage (wrap64 x) (wrap64 z)
theorem plane_bd (S : Nat) (stage x z : Int) : 0 ≤ plane S stage x z ∧ plane S stage x z ≤ 65535 := lat_bd _ _ _ _
/-- Block B is an array of two numbers. -/
def Two (w : World) (B : Nat) (p q : Int) : Prop := w.heap[B]? = some (.cells #[.int .i64 p, .int .i64 q] 41 (0, 0))

def wide (shift : Int) : Int := 2 ^ shift.toNat
theorem wide_bd {shift : Int} (h0 : 0 ≤ shift) (h1 : shift ≤ 20) : 1 ≤ wide shift ∧ wide shift ≤ 1048576 := by
  have h : shift = 0 ∨ shift = 1 ∨ shift = 2 ∨ shift = 3 ∨ shift = 4 ∨ shift = 5 ∨ shift = 6 ∨ shift = 7 ∨ shift = 8 ∨ shift = 9 ∨ shift = 10 ∨ shift = 11 ∨ shift = 12 ∨ shift = 13 ∨ shift = 14 ∨ shift = 15 ∨ shift = 16 ∨ shift = 17 ∨ shift = 18 ∨ shift = 19 ∨ shift = 20 := by omega
  rcases h with rfl | rfl | rfl | rfl | rfl | rfl | rfl | rfl | rfl | rfl | rfl | rfl | rfl | rfl | rfl | rfl | rfl | rfl | rfl | rfl | rfl <;> decide +kernel
theorem div_in {x a : Int} (hx : -9223372036854775808 ≤ x ∧ x ≤ 9223372036854775807) (ha : 1 ≤ a) : -9223372036854775808 ≤ x / a ∧ x / a ≤ 9223372036854775807 := by
  have d := div_bd x a ha
  rcases Int.lt_or_le x 0 with k | k
  · have := d.2 k; omega
  · have := d.1 k; omega
theorem w64_in {n : Int} (h : -9223372036854775808 ≤ n ∧ n ≤ 9223372036854775807) : wrap64 n = n := by unfold wrap64; omega
theorem around_plane (S : Nat) (stage x z : Int) (w : World) (hS : S < 18446744073709551616) (hx : -9223372036854775808 ≤ x ∧ x ≤ 9223372036854775807) (hz : -9223372036854775808 ≤ z ∧ z ≤ 9223372036854775807) :
    Calls Try.prog 23 #[.int .u64 S, .int .i64 stage, .int .i64 x, .int .i64 z] w fun e w' => e = .returned (.agg #[.int .i64 (plane S stage x z), .int .i64 (plane S stage (x + 1) z), .int .i64 (plane S stage x (z + 1)), .int .i64 (plane S stage (x + 1) (z + 1))]) ∧ Below w.heap.size w w' := by
  have h := around_any S stage x z w hS hx hz
  unfold plane
  rw [w64_in hx, w64_in hz]
  exact h
theorem Two.c0 {w : World} {B : Nat} {p q : Int} (h : Two w B p q) : w.cell? ⟨B, 0, none⟩ = some (.int .i64 p) := by rw [cell_of_row w B 0 _ 41 (0, 0) h]; rfl
theorem Two.c1 {w : World} {B : Nat} {p q : Int} (h : Two w B p q) : w.cell? ⟨B, 1, none⟩ = some (.int .i64 q) := by rw [cell_of_row w B 1 _ 41 (0, 0) h]; rfl
theorem Two.free {w : World} {B : Nat} {p q : Int} (h : Two w B p q) (k : Nat) : w.frozen? ⟨B, k, none⟩ = false := frozen_of_row w B k _ 41 h
theorem Two.lt {w : World} {B : Nat} {p q : Int} (h : Two w B p q) : B < w.heap.size := (Array.getElem?_eq_some_iff.1 h).1
theorem Two.of_block {w w' : World} {B : Nat} {p q : Int} (h : Two w B p q) (e : w'.heap[B]? = w.heap[B]?) : Two w' B p q := by
  unfold Two; rw [e]; exact h
theorem Two.put {w : World} {B : Nat} {p q p' q' : Int} (h : Two w B p q) (k : Nat) (v : Int)
    (e : (#[.int .i64 p, .int .i64 q] : Array Value).setIfInBounds k (.int .i64 v) = #[.int .i64 p', .int .i64 q']) :
    Two (w.setCell ⟨B, k, none⟩ (.int .i64 v)) B p' q' := by
  unfold Two
  rw [heap_setCell_same w _ k _ 41 _ h]
  rw [← e]
/-- What Flat has made: the corners in one block, the sides in the next one. -/
structure Fl (w : World) (n : Nat) (a b c d : Int) (wr : World) (p q : Int) : Prop where
  le : w.heap.size ≤ n
  four : Four wr n a b c d
  two : Two wr (n + 1) p q
  bel : Below w.heap.size w wr
theorem Fl.start {w w1 : World} (a b c d : Int) (h : Below w.heap.size w w1) :
    Fl w w1.heap.size a b c d ((w1.alloc (.cells #[.int .i64 a, .int .i64 b, .int .i64 c, .int .i64 d] 42)).alloc (.cells #[.int .i64 0, .int .i64 0] 41)) 0 0 := by
  have b1 := h.alloc h.size (.cells #[.int .i64 a, .int .i64 b, .int .i64 c, .int .i64 d] 42)
  have e1 : (w1.alloc (.cells #[.int .i64 a, .int .i64 b, .int .i64 c, .int .i64 d] 42)).heap.size = w1.heap.size + 1 := by simp
  have h1 : Four (w1.alloc (.cells #[.int .i64 a, .int .i64 b, .int .i64 c, .int .i64 d] 42)) w1.heap.size a b c d := heap_alloc_new w1 _
  have h2 := heap_alloc_new (w1.alloc (.cells #[.int .i64 a, .int .i64 b, .int .i64 c, .int .i64 d] 42)) (.cells #[.int .i64 0, .int .i64 0] 41)
  generalize (w1.alloc (.cells #[.int .i64 a, .int .i64 b, .int .i64 c, .int .i64 d] 42)) = W at *
  rw [e1] at h2
  refine ⟨h.size, h1.of_block ?_, h2, b1.alloc b1.size _⟩
  exact ((Below.refl W.heap.size W).alloc (Nat.le_refl _) _).block _ h1.lt
theorem Fl.on {w : World} {n : Nat} {a b c d : Int} {wr w' : World} {p q : Int} (f : Fl w n a b c d wr p q) (h : Below wr.heap.size wr w') : Fl w n a b c d w' p q :=
  ⟨f.le, f.four.of_block (h.block _ f.four.lt), f.two.of_block (h.block _ f.two.lt), f.bel.trans (h.mono f.bel.size)⟩
theorem Fl.put {w : World} {n : Nat} {a b c d : Int} {wr : World} {p q p' q' : Int} (f : Fl w n a b c d wr p q) (k : Nat) (v : Int)
    (e : (#[.int .i64 p, .int .i64 q] : Array Value).setIfInBounds k (.int .i64 v) = #[.int .i64 p', .int .i64 q']) : Fl w n a b c d (wr.setCell ⟨n + 1, k, none⟩ (.int .i64 v)) p' q' :=
  ⟨f.le, f.four.of_block (Below.heap_setCell wr ⟨n + 1, k, none⟩ _ _ (by simp)), f.two.put k v e, f.bel.setCell (p := ⟨n + 1, k, none⟩) (Nat.le_succ_of_le f.le) _⟩
theorem btw_bd {a b t : Int} (ha : 0 ≤ a ∧ a ≤ 65535) (hb : 0 ≤ b ∧ b ≤ 65535) (ht : 0 ≤ t ∧ t ≤ 65536) : 0 ≤ btw a b t ∧ btw a b t ≤ 65535 :=
  ⟨btw_low ht.1 ht.2 ha.1 hb.1, btw_high ht.1 ht.2 ha.2 hb.2⟩
set_option maxHeartbeats 1000000 in
theorem flat_in (S : Nat) (stage x z shift : Int) (w : World) (hS : S < 18446744073709551616) (hx : -9223372036854775808 ≤ x ∧ x ≤ 9223372036854775807) (hz : -9223372036854775808 ≤ z ∧ z ≤ 9223372036854775807) (h0 : 0 ≤ shift) (h1 : shift ≤ 20) :
    Calls Try.prog 19 #[.int .u64 S, .int .i64 stage, .int .i64 x, .int .i64 z, .int .i64 shift] w fun e w' => e = .returned (.int .i64 (flat (plane S stage) x z (wide shift))) ∧ Below w.heap.size w w' := by
  have hw := wide_bd h0 h1
  have hp : wrap64 (2 ^ shift.toNat) = wide shift := w64_in ⟨by have := hw.1; unfold wide at this; omega, by have := hw.2; unfold wide at this; omega⟩
  generalize wide shift = P at *
  have hcx := div_in hx hw.1
  have hcz := div_in hz hw.1
  have HE : Hid (flat (plane S stage) x z P = btw (btw (plane S stage (x / P) (z / P)) (plane S stage (x / P + 1) (z / P)) (frac x P)) (btw (plane S stage (x / P) (z / P + 1)) (plane S stage (x / P + 1) (z / P + 1)) (frac x P)) (frac z P)) := rfl
  have ha : Hid _ := plane_bd S stage (x / P) (z / P)
  have hb : Hid _ := plane_bd S stage (x / P + 1) (z / P)
  have hc : Hid _ := plane_bd S stage (x / P) (z / P + 1)
  have hd : Hid _ := plane_bd S stage (x / P + 1) (z / P + 1)
  have htx : Hid _ := frac_bd x P
  have htz : Hid _ := frac_bd z P
  go_enter Try.func19, Try.ntmps19
  go_wp2_with fail
  refine (split_any x P _ hx hw.1 hw.2).mono ?_
  rintro e w' ⟨rfl, hw'⟩
  subst w'
  go_wp2_with fail
  refine (split_any z P _ hz hw.1 hw.2).mono ?_
  rintro e w' ⟨rfl, hw'⟩
  subst w'
  go_wp2_with fail
  refine (around_plane S stage (x / P) (z / P) _ hS hcx hcz).mono ?_
  rintro e w1 ⟨rfl, hw1⟩
  have HF : Hid _ := Fl.start (plane S stage (x / P) (z / P)) (plane S stage (x / P + 1) (z / P)) (plane S stage (x / P) (z / P + 1)) (plane S stage (x / P + 1) (z / P + 1)) hw1
  clear hw1
  generalize plane S stage (x / P) (z / P) = a at *
  generalize plane S stage (x / P + 1) (z / P) = b at *
  generalize plane S stage (x / P) (z / P + 1) = c at *
  generalize plane S stage (x / P + 1) (z / P + 1) = d at *
  generalize frac x P = tx at *
  generalize frac z P = tz at *
  go_wp2_with fail
  generalize ((w1.alloc (.cells #[.int .i64 a, .int .i64 b, .int .i64 c, .int .i64 d] 42)).alloc (.cells #[.int .i64 0, .int .i64 0] 41)) = W0 at *
  generalize w1.heap.size = n at *
  clear hp h0 h1 hcx hcz hx hz
  refine wp_loop_rounds 3 ?_
  rw [rounds_succ]
  have c0 := HF.out.four.c0
  have c1 := HF.out.four.c1
  go_wp2_with fail
  refine (between_any a b tx _ ha.out hb.out htx.out).mono ?_
  rintro e w2 ⟨rfl, hw2⟩
  clear c0 c1
  have HX : Hid _ := HF.out.on hw2
  clear hw2 HF
  have d0 := HX.out.two.c0
  have f0 := HX.out.two.free 0
  go_wp2_with fail
  clear d0 f0
  have HF : Hid _ := HX.out.put 0 (btw a b tx) rfl
  clear HX
  generalize (w2.setCell ⟨n + 1, 0, none⟩ (.int .i64 (btw a b tx))) = W1 at *
  rw [rounds_succ]
  have c0 := HF.out.four.c2
  have c1 := HF.out.four.c3
  go_wp2_with fail
  refine (between_any c d tx _ hc.out hd.out htx.out).mono ?_
  rintro e w3 ⟨rfl, hw2⟩
  clear c0 c1
  have HX : Hid _ := HF.out.on hw2
  clear hw2 HF
  have d0 := HX.out.two.c1
  have f0 := HX.out.two.free 1
  go_wp2_with fail
  clear d0 f0
  have HF : Hid _ := HX.out.put 1 (btw c d tx) rfl
  clear HX
  generalize (w3.setCell ⟨n + 1, 1, none⟩ (.int .i64 (btw c d tx))) = W2 at *
  rw [rounds_succ]
  have c0 := HF.out.two.c0
  have c1 := HF.out.two.c1
  have hp : Hid _ := btw_bd ha.out hb.out htx.out
  have hq : Hid _ := btw_bd hc.out hd.out htx.out
  generalize btw a b tx = p at *
  generalize btw c d tx = q at *
  go_wp2_with fail
  refine (between_any p q tz _ hp.out hq.out htz.out).mono ?_
  rintro e w4 ⟨rfl, hw2⟩
  clear c0 c1
  have HX : Hid _ := HF.out.on hw2
  clear hw2 HF
  go_wp2
  go_ret
  exact ⟨ret_int HE.out.symm, HX.out.bel⟩
set_option maxHeartbeats 400000 in
theorem flat_out (S : Nat) (stage x z shift : Int) (w : World) (h : shift < 0 ∨ 20 < shift) :
    Calls Try.prog 19 #[.int .u64 S, .int .i64 stage, .int .i64 x, .int .i64 z, .int .i64 shift] w fun e w' => e = .returned (.int .i64 0) ∧ Below w.heap.size w w' := by
  by_cases h1 : shift < 0
  · go_enter Try.func19, Try.ntmps19
    go_wp2
    go_ret
    exact ⟨rfl, Below.refl _ _⟩
  · have h2 : 20 < shift := by omega
    go_enter Try.func19, Try.ntmps19
    go_wp2
    go_ret
    exact ⟨rfl, Below.refl _ _⟩
/-- What Flat answers. -/
def flatN (S : Nat) (stage x z shift : Int) : Int := if shift < 0 ∨ 20 < shift then 0 else flat (plane S stage) x z (wide shift)
theorem flatN_out (S : Nat) (stage x z : Int) {shift : Int} (h : shift < 0 ∨ 20 < shift) : flatN S stage x z shift = 0 := by unfold flatN; rw [if_pos h]
theorem flatN_in (S : Nat) (stage x z : Int) {shift : Int} (h0 : 0 ≤ shift) (h1 : shift ≤ 20) : flatN S stage x z shift = flat (plane S stage) x z (wide shift) := by unfold flatN; rw [if_neg (by omega)]
theorem flatN_bd (S : Nat) (stage x z shift : Int) : 0 ≤ flatN S stage x z shift ∧ flatN S stage x z shift ≤ 65535 := by
  unfold flatN
  split
  · omega
  · exact flat_bd _ (plane_bd S stage) _ _ _
theorem flat_any (S : Nat) (stage x z shift : Int) (w : World) (hS : S < 18446744073709551616) (hx : -9223372036854775808 ≤ x ∧ x ≤ 9223372036854775807) (hz : -9223372036854775808 ≤ z ∧ z ≤ 9223372036854775807) :
    Calls Try.prog 19 #[.int .u64 S, .int .i64 stage, .int .i64 x, .int .i64 z, .int .i64 shift] w fun e w' => e = .returned (.int .i64 (flatN S stage x z shift)) ∧ Below w.heap.size w w' := by
  by_cases h : shift < 0 ∨ 20 < shift
  · rw [flatN_out S stage x z h]
    exact flat_out S stage x z shift w h
  · rw [flatN_in S stage x z (by omega) (by omega)]
    exact flat_in S stage x z shift w hS hx hz (by omega) (by omega)
end Go.Proofs.Ytbbhnhmheakapaa.N
