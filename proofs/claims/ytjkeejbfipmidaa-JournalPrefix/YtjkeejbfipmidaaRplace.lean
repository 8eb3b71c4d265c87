/-
  The document's disk: the place of a block.
-/
import Derived.Test.YtjkeejbfipmidaaRdisk
namespace Go.Proofs.Ytjkeejbfipmidaa
open Go.RowKit

/-- No block ahead of j is that one. -/
def NoneTo (l : List Bk) (f : Fl) (i : Int) (j : Nat) : Prop := ∀ m (hm : m < l.length), m < j → ¬ (l[m].f = f ∧ l[m].i = i)
theorem put_new : ∀ (l : List Bk) (f : Fl) (i : Int) (bs : List Int), NoneTo l f i l.length → put l f i bs = l ++ [⟨f, i, bs⟩] ∧ has l f i = none
  | [], _, _, _, _ => ⟨rfl, rfl⟩
  | b :: r, f, i, bs, h => by
    have h0 : ¬ (b.f = f ∧ b.i = i) := h 0 (by simp) (by simp)
    have ih := put_new r f i bs (fun m hm hj => h (m + 1) (by simpa using hm) (by simp; exact hm))
    rw [put, has, if_neg h0, if_neg h0, ih.1]
    exact ⟨rfl, ih.2⟩
theorem put_at : ∀ (l : List Bk) (f : Fl) (i : Int) (bs : List Int) (j : Nat) (hj : j < l.length), NoneTo l f i j → l[j].f = f ∧ l[j].i = i → put l f i bs = l.set j ⟨f, i, bs⟩ ∧ has l f i = some l[j].b
  | b :: r, f, i, bs, 0, _, _, e => by
    have e' : b.f = f ∧ b.i = i := e
    rw [put, has, if_pos e', if_pos e']
    exact ⟨rfl, rfl⟩
  | b :: r, f, i, bs, j + 1, hj, h, e => by
    have h0 : ¬ (b.f = f ∧ b.i = i) := h 0 (by simp) (by simp)
    have ih := put_at r f i bs j (by simpa using hj) (fun m hm hm2 => h (m + 1) (by simpa using hm) (by omega)) (by simpa using e)
    rw [put, has, if_neg h0, if_neg h0, ih.1]
    exact ⟨rfl, by simpa using ih.2⟩
theorem RD.cells {F : Nat → Prop} {w : World} {g : Nat} {S : St} {a : Option Addr} {c : Nat} {q : List (Nat × Nat)} (h : RD F w g S a c q) {j : Nat} (hj : j < S.l.length) :
    ∃ (b : Nat) (hq : j < q.length), a = some ⟨b, 0, none⟩ ∧ w.cell? ⟨b, j * 5, none⟩ = some (.int .i64 S.l[j].f.1) ∧ w.cell? ⟨b, j * 5 + 1, none⟩ = some (.int .i64 S.l[j].f.2.1) ∧ w.cell? ⟨b, j * 5 + 2, none⟩ = some (.int .i64 S.l[j].f.2.2) ∧
      w.cell? ⟨b, j * 5 + 3, none⟩ = some (.int .i64 S.l[j].i) ∧ w.cell? ⟨b, j * 5 + 4, none⟩ = some (.slice (some ⟨q[j].1, 0, none⟩) 32 q[j].2) ∧ b < w.heap.size := by
  have hq : j < q.length := by rw [← h.len]; exact hj
  rcases h.row.2 with ⟨hv, h0⟩ | ⟨b, cap, cur, hv, _, hb, _, _, _, ht⟩
  · rw [h0] at hj; exact absurd hj (Nat.not_lt_zero _)
  · simp only [Value.slice.injEq] at hv
    have hcell : ∀ m v, (rowOf S.l q)[m]? = some v → w.cell? ⟨b, m, none⟩ = some v := fun m v hm => by
      rw [cell_of_row w b m cur 72 (0, 0) hb]
      rw [← ht] at hm
      rw [List.getElem?_take] at hm
      split at hm
      · simpa using hm
      · cases hm
    obtain ⟨r0, r1, r2, r3, r4⟩ := rowOf_at S.l q j hj hq h.len
    exact ⟨b, hq, hv.1, hcell _ _ r0, hcell _ _ r1, hcell _ _ r2, hcell _ _ r3, hcell _ _ r4, (Array.getElem?_eq_some_iff.1 hb).1⟩
theorem RD.head0 {F : Nat → Prop} {w : World} {g : Nat} {S : St} {a : Option Addr} {c : Nat} {q : List (Nat × Nat)} (h : RD F w g S a c q) : w.cell? ⟨g, 0, none⟩ = some (.slice a S.l.length c) := by
  rw [cell_of_row w g 0 _ 62 (0, 0) h.head]; rfl
theorem RD.glt {F : Nat → Prop} {w : World} {g : Nat} {S : St} {a : Option Addr} {c : Nat} {q : List (Nat × Nat)} (h : RD F w g S a c q) : g < w.heap.size := (Array.getElem?_eq_some_iff.1 h.head).1
/-- What place answers. -/
def PlaceSay (l : List Bk) (f : Fl) (i : Int) (w : World) (e : Ending) (w' : World) : Prop :=
  Below w.heap.size w w' ∧ ((NoneTo l f i l.length ∧ e = .returned (.int .i64 (-1))) ∨ ∃ (j : Nat) (hj : j < l.length), NoneTo l f i j ∧ (l[j].f = f ∧ l[j].i = i) ∧ e = .returned (.int .i64 (j : Int)))

set_option maxHeartbeats 2000000 in
theorem rplace_c (F : Nat → Prop) (g : Nat) (S : St) (a : Option Addr) (c : Nat) (q : List (Nat × Nat)) (f1 f2 f3 i : Int) (w : World) (hD : RD F w g S a c q) :
    Calls Try.prog 48 #[.pointer (some ⟨g, 0, none⟩), .agg #[.int .i64 f1, .int .i64 f2, .int .i64 f3], .int .i64 i] w (PlaceSay S.l (f1, f2, f3) i w) := by
  have HN : Hid (∀ w', Below w.heap.size w w' → NoneTo S.l (f1, f2, f3) i S.l.length → PlaceSay S.l (f1, f2, f3) i w (.returned (.int .i64 (-1))) w') := fun w' h1 h2 => ⟨h1, Or.inl ⟨h2, rfl⟩⟩
  have HY : Hid (∀ w' (j : Nat) (hj : j < S.l.length), Below w.heap.size w w' → NoneTo S.l (f1, f2, f3) i j → (S.l[j].f = (f1, f2, f3) ∧ S.l[j].i = i) → PlaceSay S.l (f1, f2, f3) i w (.returned (.int .i64 (j : Int))) w') := fun w' j hj h1 h2 h3 => ⟨h1, Or.inr ⟨j, hj, h2, h3, rfl⟩⟩
  generalize PlaceSay S.l (f1, f2, f3) i w = Post at *
  have HD : Hid (RD F w g S a c q) := hD
  have hg := hD.glt
  have hlen := hD.bds.2.2.2.2
  have hw0 : Below w.heap.size w (w.alloc (.cells #[.int .i64 f1, .int .i64 f2, .int .i64 f3] 38)) := (Below.refl _ _).alloc (Nat.le_refl _) _
  have Hw0 : Hid (Below w.heap.size w (w.alloc (.cells #[.int .i64 f1, .int .i64 f2, .int .i64 f3] 38))) := hw0
  have HX0 : Hid ((w.alloc (.cells #[.int .i64 f1, .int .i64 f2, .int .i64 f3] 38)).heap[w.heap.size]? = some (.cells #[.int .i64 f1, .int .i64 f2, .int .i64 f3] 38 (0, 0))) := heap_alloc_new w _
  clear hD hw0
  go_enter Try.func48, Try.ntmps48
  go_wp2
  generalize w.alloc (.cells #[.int .i64 f1, .int .i64 f2, .int .i64 f3] 38) = w0 at *
  obtain ⟨n, hn⟩ : ∃ n, n = S.l.length := ⟨_, rfl⟩
  have Hn : Hid (S.l.length = n) := hn.symm
  rw [← hn] at hlen
  clear hn
  go_loopw [7] (fun v wr => ∃ (j : Nat), j ≤ n ∧ v = .int .i64 (j : Int) ∧ Hid (NoneTo S.l (f1, f2, f3) i j) ∧ Hid (Below w.heap.size w wr) ∧ Hid (wr.heap[w.heap.size]? = some (.cells #[.int .i64 f1, .int .i64 f2, .int .i64 f3] 38 (0, 0)))) (fun v _ => n - (intOf v).toNat)
  case atStart => exact ⟨0, Nat.zero_le _, rfl, fun m _ h => absurd h (Nat.not_lt_zero _), Hw0, HX0⟩
  case round =>
    obtain ⟨j, hj, rfl, HJ, Hb, HX⟩ := hrel
    clear Hw0 HX0
    have keep : ∀ b m v, b < w.heap.size → w.cell? ⟨b, m, none⟩ = some v → wr.cell? ⟨b, m, none⟩ = some v := fun b m v hbl hv => by
      unfold World.cell? at hv ⊢
      rw [Hb.out.block b hbl]
      exact hv
    have hh := keep g 0 _ hg HD.out.head0
    rw [Hn.out] at hh
    by_cases hlt : j < n
    · have hlt' : (j : Int) < n := by omega
      obtain ⟨b, hq, rfl, k0, k1, k2, k3, k4, hbl⟩ := HD.out.cells (j := j) (by rw [Hn.out]; exact hlt)
      have c0 := keep b _ _ hbl k0
      have c1 := keep b _ _ hbl k1
      have c2 := keep b _ _ hbl k2
      have c3 := keep b _ _ hbl k3
      have x0 : wr.cell? ⟨w.heap.size, 0, none⟩ = some (.int .i64 f1) := by rw [cell_of_row wr w.heap.size 0 _ 38 (0, 0) HX.out]; rfl
      have x1 : wr.cell? ⟨w.heap.size, 1, none⟩ = some (.int .i64 f2) := by rw [cell_of_row wr w.heap.size 1 _ 38 (0, 0) HX.out]; rfl
      have x2 : wr.cell? ⟨w.heap.size, 2, none⟩ = some (.int .i64 f3) := by rw [cell_of_row wr w.heap.size 2 _ 38 (0, 0) HX.out]; rfl
      have hjl : j < S.l.length := by rw [Hn.out]; exact hlt
      have HL0 : Hid (¬ (S.l[j].f.1 = f1 ∧ S.l[j].f.2.1 = f2 ∧ S.l[j].f.2.2 = f3 ∧ S.l[j].i = i) → NoneTo S.l (f1, f2, f3) i (j + 1)) := fun hno m hm hmj => by
        by_cases em : m = j
        · subst em
          intro ⟨h5, h6⟩
          exact hno ⟨by rw [h5], by rw [h5], by rw [h5], h6⟩
        · exact HJ.out m hm (by omega)
      have HM0 : Hid (S.l[j].f.1 = f1 → S.l[j].f.2.1 = f2 → S.l[j].f.2.2 = f3 → S.l[j].i = i → ∀ k, Post (.returned (.int .i64 (j : Int))) (wr.drewN k)) := fun h1 h2 h3 h4 k => HY.out (wr.drewN k) j hjl ⟨Hb.out.os, Hb.out.tape, Hb.out.output, Hb.out.size, Hb.out.block⟩ HJ.out ⟨by rw [← h1, ← h2, ← h3], h4⟩
      clear keep k0 k1 k2 k3 k4 hq
      generalize S.l[j].f.1 = y1 at *
      generalize S.l[j].f.2.1 = y2 at *
      generalize S.l[j].f.2.2 = y3 at *
      generalize S.l[j].i = y4 at *
      have HL : Hid (¬ (y1 = f1 ∧ y2 = f2 ∧ y3 = f3 ∧ y4 = i) → NoneTo S.l (f1, f2, f3) i (j + 1)) := HL0.out
      have HM : Hid (y1 = f1 → y2 = f2 → y3 = f3 → y4 = i → ∀ k, Post (.returned (.int .i64 (j : Int))) (wr.drewN k)) := HM0.out
      clear HL0 HM0
      by_cases e : y1 = f1
      · have q1 : (y1 == f1) = true := by simp [e]
        have E1 := e
        clear e
        by_cases e : y2 = f2
        · have q2 : (y2 == f2) = true := by simp [e]
          have E2 := e
          clear e
          by_cases e : y3 = f3
          · have q3 : (y3 == f3) = true := by simp [e]
            have E3 := e
            clear e
            by_cases e : y4 = i
            · have q4 : (y4 == i) = true := by simp [e]
              have R := HM.out E1 E2 E3 e
              subst E1 E2 E3 e
              clear HL HM HN HY HJ HD
              go_wp2_with fail
              go_big_quiet (fail)
              go_wp2
              exact R _
            · have e' : (y4 == i) = false := by simp [e]
              have HJ2 : Hid (NoneTo S.l (f1, f2, f3) i (j + 1)) := HL.out fun h => e h.2.2.2
              subst E1 E2 E3
              clear HL HM HN HY HJ HD e
              go_wp2_with fail
              go_big_quiet (fail)
              go_wp2
              go_roundw
              case rel => exact ⟨j + 1, by omega, by go_num, HJ2, ⟨Hb.out.os, Hb.out.tape, Hb.out.output, Hb.out.size, Hb.out.block⟩, HX⟩
              case measure => simp [intOf]; omega
          · have e' : (y3 == f3) = false := by simp [e]
            have HJ2 : Hid (NoneTo S.l (f1, f2, f3) i (j + 1)) := HL.out fun h => e h.2.2.1
            subst E1 E2
            clear HL HM HN HY HJ HD e
            go_wp2_with fail
            go_big_quiet (fail)
            go_wp2
            go_roundw
            case rel => exact ⟨j + 1, by omega, by go_num, HJ2, ⟨Hb.out.os, Hb.out.tape, Hb.out.output, Hb.out.size, Hb.out.block⟩, HX⟩
            case measure => simp [intOf]; omega
        · have e' : (y2 == f2) = false := by simp [e]
          have HJ2 : Hid (NoneTo S.l (f1, f2, f3) i (j + 1)) := HL.out fun h => e h.2.1
          subst E1
          clear HL HM HN HY HJ HD e
          go_wp2_with fail
          go_big_quiet (fail)
          go_wp2
          go_roundw
          case rel => exact ⟨j + 1, by omega, by go_num, HJ2, ⟨Hb.out.os, Hb.out.tape, Hb.out.output, Hb.out.size, Hb.out.block⟩, HX⟩
          case measure => simp [intOf]; omega
      · have e' : (y1 == f1) = false := by simp [e]
        have HJ2 : Hid (NoneTo S.l (f1, f2, f3) i (j + 1)) := HL.out fun h => e h.1
        clear HL HM HN HY HJ HD e
        go_wp2_with fail
        go_big_quiet (fail)
        go_wp2
        go_roundw
        case rel => exact ⟨j + 1, by omega, by go_num, HJ2, ⟨Hb.out.os, Hb.out.tape, Hb.out.output, Hb.out.size, Hb.out.block⟩, HX⟩
        case measure => simp [intOf]; omega
    · obtain rfl : j = n := by omega
      have hlt' : ¬ (j : Int) < j := by omega
      have R := HN.out wr Hb.out (by rw [Hn.out]; exact HJ.out)
      clear HN HY HD keep HJ Hb HX
      go_wp2
      exact R
end Go.Proofs.Ytjkeejbfipmidaa
