/-
  The document's space: may, Mark, Free.
-/
import Derived.Test.YtffhnecdmdmmkaaSbase
set_option maxRecDepth 20000
namespace Go.Proofs.Ytffhnecdmdmmkaa
open Go.RowKit

theorem mayB_no {h : Nat} {T : List Bool} {f m : Int} {b : Bool} (H : ¬ (1 ≤ m ∧ (h : Int) ≤ f ∧ f < (T.length : Int) ∧ m ≤ (T.length : Int) - f)) : mayB h T f m b = false := by unfold mayB; rw [decide_eq_false H]; rfl
set_option maxHeartbeats 1000000 in
theorem rmay_c (g tb h : Nat) (T : List Bool) (f m : Int) (hf : I64 f) (hm : I64 m) (b : Bool) (w : World) (H : RS w g tb h T) :
    Calls Try.prog 25 #[.pointer (some ⟨g, 0, none⟩), .agg #[.int .i64 f, .int .i64 m], .bool b] w fun e w' => e = .returned (.bool (mayB h T f m b)) ∧ Below w.heap.size w w' := by
  obtain ⟨Post, hPost⟩ : ∃ Post : Ending → World → Prop, Post = fun e w' => e = .returned (.bool (mayB h T f m b)) ∧ Below w.heap.size w w' := ⟨_, rfl⟩
  rw [← hPost]
  have HP : Hid (∀ r w', mayB h T f m b = r → Below w.heap.size w w' → Post (.returned (.bool r)) w') := fun r w' h1 h2 => by rw [hPost, h1]; exact ⟨rfl, h2⟩
  clear hPost
  have HR : Hid (RS w g tb h T) := H
  have hb1 : Below w.heap.size w (w.alloc (.cells #[.int .i64 f, .int .i64 m] 34)) := (Below.refl _ _).alloc (Nat.le_refl _) _
  have Hb1 : Hid (Below w.heap.size w (w.alloc (.cells #[.int .i64 f, .int .i64 m] 34))) := hb1
  obtain ⟨c0, c1⟩ := (H.on hb1).cells
  have x0 : (w.alloc (.cells #[.int .i64 f, .int .i64 m] 34)).cell? ⟨w.heap.size, 0, none⟩ = some (.int .i64 f) := by rw [cell_of_row _ _ _ _ 34 (0, 0) (heap_alloc_new w _)]; rfl
  have x1 : (w.alloc (.cells #[.int .i64 f, .int .i64 m] 34)).cell? ⟨w.heap.size, 1, none⟩ = some (.int .i64 m) := by rw [cell_of_row _ _ _ _ 34 (0, 0) (heap_alloc_new w _)]; rfl
  have hl := H.le
  have hfew := H.few
  obtain ⟨hf1, hf2⟩ := hf
  obtain ⟨hm1, hm2⟩ := hm
  obtain ⟨n, hn⟩ : ∃ n, n = T.length := ⟨_, rfl⟩
  rw [← hn] at hl hfew c1
  have Hn : Hid (T.length = n) := hn.symm
  clear H hb1 hn
  go_enter Try.func25, Try.ntmps25
  go_wp2_with fail
  generalize w.alloc (.cells #[.int .i64 f, .int .i64 m] 34) = w1 at *
  by_cases h1 : m < 1
  · have R := fun k => HP.out false (w1.drewN k) (mayB_no (by omega)) ⟨Hb1.out.os, Hb1.out.tape, Hb1.out.output, Hb1.out.size, Hb1.out.block⟩
    have d1 : decide (m < 1) = true := decide_eq_true h1
    clear HP HR Hb1
    go_big_quiet (fail)
    go_wp2
    exact R _
  · have d1 : decide (m < 1) = false := decide_eq_false h1
    by_cases h2 : f < (h : Int)
    · have R := fun k => HP.out false (w1.drewN k) (mayB_no (by omega)) ⟨Hb1.out.os, Hb1.out.tape, Hb1.out.output, Hb1.out.size, Hb1.out.block⟩
      have d2 : decide (f < (h : Int)) = true := decide_eq_true h2
      clear HP HR Hb1
      go_big_quiet (fail)
      go_wp2
      exact R _
    · have d2 : decide (f < (h : Int)) = false := decide_eq_false h2
      by_cases h3 : (n : Int) ≤ f
      · have R := fun k => HP.out false (w1.drewN k) (mayB_no (by rw [Hn.out]; omega)) ⟨Hb1.out.os, Hb1.out.tape, Hb1.out.output, Hb1.out.size, Hb1.out.block⟩
        have d3 : decide ((n : Int) ≤ f) = true := decide_eq_true h3
        clear HP HR Hb1
        go_big_quiet (fail)
        go_wp2
        exact R _
      · have d3 : decide ((n : Int) ≤ f) = false := decide_eq_false h3
        by_cases h4 : (n : Int) - f < m
        · have R := fun k => HP.out false (w1.drewN k) (mayB_no (by rw [Hn.out]; omega)) ⟨Hb1.out.os, Hb1.out.tape, Hb1.out.output, Hb1.out.size, Hb1.out.block⟩
          have d4 : decide ((n : Int) - f < m) = true := decide_eq_true h4
          clear HP HR Hb1
          go_big_quiet (fail)
          go_wp2
          exact R _
        · have d4 : decide ((n : Int) - f < m) = false := decide_eq_false h4
          obtain ⟨f, rfl⟩ := Int.eq_ofNat_of_zero_le (show 0 ≤ f by omega)
          obtain ⟨m, rfl⟩ := Int.eq_ofNat_of_zero_le (show 0 ≤ m by omega)
          have Hfm : Hid (f + m ≤ n) := by show _ ≤ _; omega
          have Hval : Hid (mayB h T (f : Int) (m : Int) b = allS T f m b) := by
            show _ = _
            unfold mayB
            rw [decide_eq_true (by rw [Hn.out]; omega), Bool.true_and]
            rfl
          go_big_quiet (fail)
          have HR1 : Hid (RS (w1.drewN nq) g tb h T) := by have := HR.out.on Hb1.out; exact ⟨this.head, this.row, this.ne, this.le, this.few⟩
          have Hb2 : Hid (Below w.heap.size w (w1.drewN nq)) := ⟨Hb1.out.os, Hb1.out.tape, Hb1.out.output, Hb1.out.size, Hb1.out.block⟩
          have y0 : (w1.drewN nq).cell? ⟨w.heap.size, 0, none⟩ = some (.int .i64 (f : Int)) := x0
          have y1 : (w1.drewN nq).cell? ⟨w.heap.size, 1, none⟩ = some (.int .i64 (m : Int)) := x1
          have z1 : (w1.drewN nq).cell? ⟨g, 1, none⟩ = some (.slice (some ⟨tb, 0, none⟩) n n) := c1
          clear x0 x1 c0 c1 Hb1 HR
          generalize w1.drewN nq = w2 at *
          go_wp2_with fail
          go_loopw [7] (fun v wr => ∃ (j : Nat), j ≤ m ∧ v = .int .i64 ((f : Int) + j) ∧ wr = w2 ∧ Hid (allS T f j b = true)) (fun v _ => f + m - (intOf v).toNat)
          case atStart => exact ⟨0, Nat.zero_le _, by go_num, rfl, allS_zero _ _ _⟩
          case round =>
            obtain ⟨j, hj, rfl, rfl, HA⟩ := hrel
            by_cases hlt : j < m
            · have hlt' : (f : Int) + j < (f : Int) + m := by omega
              have hlt2 : (f : Int) + j < n := by have := Hfm.out; omega
              have hat := HR1.out.at (i := f + j) (by rw [Hn.out]; have := Hfm.out; omega)
              have Hnext : Hid (allS T f (j + 1) b = (allS T f j b && (T.getD (f + j) false == b))) := allS_next (by rw [Hn.out]; have := Hfm.out; omega) b
              have Hno : Hid ((T.getD (f + j) false == b) = false → allS T f m b = false) := fun hne => by
                cases hx : allS T f m b with
                | false => rfl
                | true =>
                  have h5 := (allS_iff (by rw [Hn.out]; exact Hfm.out) b).1 hx (f + j) (by omega) (by omega)
                  rw [getD_of h5] at hne
                  simp at hne
              generalize T.getD (f + j) false = t at *
              by_cases ht : t = b
              · subst ht
                have HA2 : Hid (allS T f (j + 1) t = true) := by show _ = _; rw [Hnext.out, HA.out]; simp
                clear HP Hnext Hno HA
                have ebb : (t == t) = true := by simp
                go_wp2
                go_roundw
                case rel => exact ⟨j + 1, by omega, by go_num, trivial, HA2⟩
                case measure => simp [intOf]; omega
              · have R := HP.out false wr (by rw [Hval.out]; exact Hno.out (by simpa using ht)) Hb2.out
                have ebb : (t == b) = false := by simpa using ht
                clear HP Hnext Hno HA
                go_wp2
                exact R
            · obtain rfl : j = m := by omega
              have hge : ¬ (f : Int) + j < (f : Int) + j := by omega
              have R := HP.out true wr (by rw [Hval.out]; exact HA.out) Hb2.out
              clear HP HA HR1
              go_wp2
              exact R
end Go.Proofs.Ytffhnecdmdmmkaa
