/-
  The document's space: Mark and Free.
-/
import Derived.Test.YtffhnecdmdmmkaaSmay
set_option maxRecDepth 20000
namespace Go.Proofs.Ytffhnecdmdmmkaa
open Go.RowKit

/-- Behind Mark (b false, c true) and Free (b true, c false). -/
def doS (h : Nat) (T : List Bool) (f m : Int) (b c : Bool) : List Bool := if mayB h T f m b then setS T f.toNat m.toNat c else T
def erS (h : Nat) (T : List Bool) (f m : Int) (b : Bool) : Int := if mayB h T f m b then 0 else 1
theorem doS_len (h : Nat) (T : List Bool) (f m : Int) (b c : Bool) : (doS h T f m b c).length = T.length := by
  unfold doS
  split
  · rename_i hx
    unfold mayB at hx
    rw [Bool.and_eq_true, decide_eq_true_iff] at hx
    exact setS_len (by omega) c
  · rfl
/-- What Mark and Free of the document answer. -/
def RDoSay (g tb h : Nat) (T : List Bool) (f m : Int) (b c : Bool) (w : World) (e : Ending) (w' : World) : Prop := e = .returned (.int .i64 (erS h T f m b)) ∧ RS w' g tb h (doS h T f m b c) ∧ Chg (fun k => k = tb) w w'
set_option maxHeartbeats 1000000 in
theorem rmark_c (g tb h : Nat) (T : List Bool) (f m : Int) (hf : I64 f) (hm : I64 m) (w : World) (H : RS w g tb h T) :
    Calls Try.prog 17 #[.pointer (some ⟨g, 0, none⟩), .agg #[.int .i64 f, .int .i64 m]] w (RDoSay g tb h T f m false true w) := by
  obtain ⟨Post, hPost⟩ : ∃ Post, Post = RDoSay g tb h T f m false true w := ⟨_, rfl⟩
  rw [← hPost]
  have HP : Hid (∀ e w', RDoSay g tb h T f m false true w e w' → Post e w') := fun e w' h => by rw [hPost]; exact h
  clear hPost
  have hb1 : Below w.heap.size w (w.alloc (.cells #[.int .i64 f, .int .i64 m] 34)) := (Below.refl _ _).alloc (Nat.le_refl _) _
  have Hb1 : Hid (Below w.heap.size w (w.alloc (.cells #[.int .i64 f, .int .i64 m] 34))) := hb1
  have HR1 : Hid (RS (w.alloc (.cells #[.int .i64 f, .int .i64 m] 34)) g tb h T) := H.on hb1
  have HX : Hid ((w.alloc (.cells #[.int .i64 f, .int .i64 m] 34)).heap[w.heap.size]? = some (.cells #[.int .i64 f, .int .i64 m] 34 (0, 0))) := heap_alloc_new w _
  have Htb : Hid (tb < w.heap.size ∧ g < w.heap.size) := ⟨(Array.getElem?_eq_some_iff.1 H.row).1, (Array.getElem?_eq_some_iff.1 H.head).1⟩
  have Hle : Hid (h ≤ T.length ∧ T.length ≤ 4096) := ⟨H.le, H.few⟩
  clear H hb1
  go_enter Try.func17, Try.ntmps17
  go_wp2_with fail
  generalize w.alloc (.cells #[.int .i64 f, .int .i64 m] 34) = w1 at *
  refine (rmay_c g tb h T f m hf hm false w1 HR1.out).mono ?_
  rintro _ w2 ⟨rfl, hb2⟩
  have HR2 : Hid (RS w2 g tb h T) := HR1.out.on hb2
  have Hb2 : Hid (Below w.heap.size w w2) := Hb1.out.trans (hb2.mono Hb1.out.size)
  have HX2 : Hid (w2.heap[w.heap.size]? = some (.cells #[.int .i64 f, .int .i64 m] 34 (0, 0))) := (hb2.block w.heap.size (Array.getElem?_eq_some_iff.1 HX.out).1).trans HX.out
  clear hb2 HR1 Hb1 HX
  cases hmay : mayB h T f m false with
  | false =>
    have R := HP.out (.returned (.int .i64 1)) w2 ⟨by unfold erS; rw [hmay]; rfl, by unfold doS; rw [hmay]; exact HR2.out, Chg.of_below Hb2.out⟩
    clear HP HR2 Hb2 HX2
    go_wp2
    exact R
  | true =>
    have hx := hmay
    unfold mayB at hx
    rw [Bool.and_eq_true, decide_eq_true_iff] at hx
    obtain ⟨⟨hx1, hx2, hx3, hx4⟩, _⟩ := hx
    have hfew := Hle.out.2
    obtain ⟨f, rfl⟩ := Int.eq_ofNat_of_zero_le (show 0 ≤ f by omega)
    obtain ⟨m, rfl⟩ := Int.eq_ofNat_of_zero_le (show 0 ≤ m by omega)
    have Hr : Hid (∀ w', RS w' g tb h (setS T f m true) → Chg (fun k => k = tb) w w' → Post (.returned (.int .i64 0)) w') := fun w' h1 h2 => HP.out _ w' ⟨by unfold erS; rw [hmay]; rfl, by unfold doS; rw [hmay]; exact h1, h2⟩
    have hfm : f + m ≤ T.length := by omega
    clear hmay hx1 hx2 hx3 hx4 HP
    have x0 : w2.cell? ⟨w.heap.size, 0, none⟩ = some (.int .i64 (f : Int)) := by rw [cell_of_row _ _ _ _ 34 (0, 0) HX2.out]; rfl
    go_wp2_with fail
    go_loopw [6] (fun v wr => ∃ (j : Nat), j ≤ m ∧ v = .int .i64 ((f : Int) + j) ∧ Hid (RS wr g tb h (setS T f j true)) ∧ Hid (wr.heap[w.heap.size]? = some (.cells #[.int .i64 (f : Int), .int .i64 (m : Int)] 34 (0, 0))) ∧ Hid (Chg (fun k => k = tb) w wr)) (fun v _ => f + m - (intOf v).toNat)
    case atStart => exact ⟨0, Nat.zero_le _, by go_num, by rw [setS_zero]; exact HR2.out, HX2.out, Chg.of_below Hb2.out⟩
    case round =>
      clear HR2 HX2 Hb2 x0
      obtain ⟨j, hj, rfl, HR, HX, HC⟩ := hrel
      have x0 : wr.cell? ⟨w.heap.size, 0, none⟩ = some (.int .i64 (f : Int)) := by rw [cell_of_row _ _ _ _ 34 (0, 0) HX.out]; rfl
      have x1 : wr.cell? ⟨w.heap.size, 1, none⟩ = some (.int .i64 (m : Int)) := by rw [cell_of_row _ _ _ _ 34 (0, 0) HX.out]; rfl
      by_cases hlt : j < m
      · have hlt' : (f : Int) + j < (f : Int) + m := by omega
        have hlen : (setS T f j true).length = T.length := setS_len (by omega) _
        have c1 := HR.out.cells.2
        have hat := HR.out.at (i := f + j) (by rw [hlen]; omega)
        have hfr : wr.frozen? ⟨tb, f + j, none⟩ = false := frozen_of_row wr _ _ _ 4 HR.out.row
        rw [hlen] at c1
        have HR' : Hid (RS (wr.setCell ⟨tb, f + j, none⟩ (.bool true)) g tb h (setS T f (j + 1) true)) := by
          have := HR.out.set (f + j) true
          rw [setS_next (by omega)] at this
          exact this
        have HX' : Hid ((wr.setCell ⟨tb, f + j, none⟩ (.bool true)).heap[w.heap.size]? = some (.cells #[.int .i64 (f : Int), .int .i64 (m : Int)] 34 (0, 0))) := (Below.heap_setCell wr ⟨tb, f + j, none⟩ _ w.heap.size (by have := Htb.out; simp only; omega)).trans HX.out
        have HC' : Hid (Chg (fun k => k = tb) w (wr.setCell ⟨tb, f + j, none⟩ (.bool true))) := by
          have hO : Only tb wr (wr.setCell ⟨tb, f + j, none⟩ (.bool true)) := (Only.refl _ _).set _ _
          exact ⟨hO.os.trans HC.out.os, hO.tape.trans HC.out.tape, hO.output.trans HC.out.output, by rw [hO.size]; exact HC.out.size, fun k hk hf => (hO.block k hf).trans (HC.out.block k hk hf)⟩
        have hlt3 : (f : Int) + j < T.length := by omega
        clear Hr HR HX HC hlen
        generalize T.length = n at *
        generalize (setS T f j true).getD (f + j) false = t at *
        go_wp2
        go_roundw
        case rel => exact ⟨j + 1, by omega, by go_num, HR', HX', HC'⟩
        case measure => simp [intOf]; omega
      · obtain rfl : j = m := by omega
        have hge : ¬ (f : Int) + j < (f : Int) + j := by omega
        have R := Hr.out wr HR.out HC.out
        clear Hr HR HX HC
        go_wp2
        exact R
set_option maxHeartbeats 1000000 in
theorem rfree_c (g tb h : Nat) (T : List Bool) (f m : Int) (hf : I64 f) (hm : I64 m) (w : World) (H : RS w g tb h T) :
    Calls Try.prog 19 #[.pointer (some ⟨g, 0, none⟩), .agg #[.int .i64 f, .int .i64 m]] w (RDoSay g tb h T f m true false w) := by
  obtain ⟨Post, hPost⟩ : ∃ Post, Post = RDoSay g tb h T f m true false w := ⟨_, rfl⟩
  rw [← hPost]
  have HP : Hid (∀ e w', RDoSay g tb h T f m true false w e w' → Post e w') := fun e w' h => by rw [hPost]; exact h
  clear hPost
  have hb1 : Below w.heap.size w (w.alloc (.cells #[.int .i64 f, .int .i64 m] 34)) := (Below.refl _ _).alloc (Nat.le_refl _) _
  have Hb1 : Hid (Below w.heap.size w (w.alloc (.cells #[.int .i64 f, .int .i64 m] 34))) := hb1
  have HR1 : Hid (RS (w.alloc (.cells #[.int .i64 f, .int .i64 m] 34)) g tb h T) := H.on hb1
  have HX : Hid ((w.alloc (.cells #[.int .i64 f, .int .i64 m] 34)).heap[w.heap.size]? = some (.cells #[.int .i64 f, .int .i64 m] 34 (0, 0))) := heap_alloc_new w _
  have Htb : Hid (tb < w.heap.size ∧ g < w.heap.size) := ⟨(Array.getElem?_eq_some_iff.1 H.row).1, (Array.getElem?_eq_some_iff.1 H.head).1⟩
  have Hle : Hid (h ≤ T.length ∧ T.length ≤ 4096) := ⟨H.le, H.few⟩
  clear H hb1
  go_enter Try.func19, Try.ntmps19
  go_wp2_with fail
  generalize w.alloc (.cells #[.int .i64 f, .int .i64 m] 34) = w1 at *
  refine (rmay_c g tb h T f m hf hm true w1 HR1.out).mono ?_
  rintro _ w2 ⟨rfl, hb2⟩
  have HR2 : Hid (RS w2 g tb h T) := HR1.out.on hb2
  have Hb2 : Hid (Below w.heap.size w w2) := Hb1.out.trans (hb2.mono Hb1.out.size)
  have HX2 : Hid (w2.heap[w.heap.size]? = some (.cells #[.int .i64 f, .int .i64 m] 34 (0, 0))) := (hb2.block w.heap.size (Array.getElem?_eq_some_iff.1 HX.out).1).trans HX.out
  clear hb2 HR1 Hb1 HX
  cases hmay : mayB h T f m true with
  | false =>
    have R := HP.out (.returned (.int .i64 1)) w2 ⟨by unfold erS; rw [hmay]; rfl, by unfold doS; rw [hmay]; exact HR2.out, Chg.of_below Hb2.out⟩
    clear HP HR2 Hb2 HX2
    go_wp2
    exact R
  | true =>
    have hx := hmay
    unfold mayB at hx
    rw [Bool.and_eq_true, decide_eq_true_iff] at hx
    obtain ⟨⟨hx1, hx2, hx3, hx4⟩, _⟩ := hx
    have hfew := Hle.out.2
    obtain ⟨f, rfl⟩ := Int.eq_ofNat_of_zero_le (show 0 ≤ f by omega)
    obtain ⟨m, rfl⟩ := Int.eq_ofNat_of_zero_le (show 0 ≤ m by omega)
    have Hr : Hid (∀ w', RS w' g tb h (setS T f m false) → Chg (fun k => k = tb) w w' → Post (.returned (.int .i64 0)) w') := fun w' h1 h2 => HP.out _ w' ⟨by unfold erS; rw [hmay]; rfl, by unfold doS; rw [hmay]; exact h1, h2⟩
    have hfm : f + m ≤ T.length := by omega
    clear hmay hx1 hx2 hx3 hx4 HP
    have x0 : w2.cell? ⟨w.heap.size, 0, none⟩ = some (.int .i64 (f : Int)) := by rw [cell_of_row _ _ _ _ 34 (0, 0) HX2.out]; rfl
    go_wp2_with fail
    go_loopw [6] (fun v wr => ∃ (j : Nat), j ≤ m ∧ v = .int .i64 ((f : Int) + j) ∧ Hid (RS wr g tb h (setS T f j false)) ∧ Hid (wr.heap[w.heap.size]? = some (.cells #[.int .i64 (f : Int), .int .i64 (m : Int)] 34 (0, 0))) ∧ Hid (Chg (fun k => k = tb) w wr)) (fun v _ => f + m - (intOf v).toNat)
    case atStart => exact ⟨0, Nat.zero_le _, by go_num, by rw [setS_zero]; exact HR2.out, HX2.out, Chg.of_below Hb2.out⟩
    case round =>
      clear HR2 HX2 Hb2 x0
      obtain ⟨j, hj, rfl, HR, HX, HC⟩ := hrel
      have x0 : wr.cell? ⟨w.heap.size, 0, none⟩ = some (.int .i64 (f : Int)) := by rw [cell_of_row _ _ _ _ 34 (0, 0) HX.out]; rfl
      have x1 : wr.cell? ⟨w.heap.size, 1, none⟩ = some (.int .i64 (m : Int)) := by rw [cell_of_row _ _ _ _ 34 (0, 0) HX.out]; rfl
      by_cases hlt : j < m
      · have hlt' : (f : Int) + j < (f : Int) + m := by omega
        have hlen : (setS T f j false).length = T.length := setS_len (by omega) _
        have c1 := HR.out.cells.2
        have hat := HR.out.at (i := f + j) (by rw [hlen]; omega)
        have hfr : wr.frozen? ⟨tb, f + j, none⟩ = false := frozen_of_row wr _ _ _ 4 HR.out.row
        rw [hlen] at c1
        have HR' : Hid (RS (wr.setCell ⟨tb, f + j, none⟩ (.bool false)) g tb h (setS T f (j + 1) false)) := by
          have := HR.out.set (f + j) false
          rw [setS_next (by omega)] at this
          exact this
        have HX' : Hid ((wr.setCell ⟨tb, f + j, none⟩ (.bool false)).heap[w.heap.size]? = some (.cells #[.int .i64 (f : Int), .int .i64 (m : Int)] 34 (0, 0))) := (Below.heap_setCell wr ⟨tb, f + j, none⟩ _ w.heap.size (by have := Htb.out; simp only; omega)).trans HX.out
        have HC' : Hid (Chg (fun k => k = tb) w (wr.setCell ⟨tb, f + j, none⟩ (.bool false))) := by
          have hO : Only tb wr (wr.setCell ⟨tb, f + j, none⟩ (.bool false)) := (Only.refl _ _).set _ _
          exact ⟨hO.os.trans HC.out.os, hO.tape.trans HC.out.tape, hO.output.trans HC.out.output, by rw [hO.size]; exact HC.out.size, fun k hk hf => (hO.block k hf).trans (HC.out.block k hk hf)⟩
        have hlt3 : (f : Int) + j < T.length := by omega
        clear Hr HR HX HC hlen
        generalize T.length = n at *
        generalize (setS T f j false).getD (f + j) false = t at *
        go_wp2
        go_roundw
        case rel => exact ⟨j + 1, by omega, by go_num, HR', HX', HC'⟩
        case measure => simp [intOf]; omega
      · obtain rfl : j = m := by omega
        have hge : ¬ (f : Int) + j < (f : Int) + j := by omega
        have R := Hr.out wr HR.out HC.out
        clear Hr HR HX HC
        go_wp2
        exact R
end Go.Proofs.Ytffhnecdmdmmkaa
