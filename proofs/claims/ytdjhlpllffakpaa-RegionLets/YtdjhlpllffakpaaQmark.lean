/-
  The program's space: turn, Mark, Free, New.
-/
import Derived.Test.YtdjhlpllffakpaaQturn
set_option maxRecDepth 20000
namespace Go.Proofs.Ytdjhlpllffakpaa.Q
open Go.RowKit

/-- What turn answers. -/
def TurnSay (g tb h : Nat) (T : List Bool) (f m : Int) (c : Bool) (w : World) (e : Ending) (w' : World) : Prop := e = .returned (.int .i64 (erS h T f m (!c))) ∧ PS w' g tb h (doS h T f m (!c) c) ∧ Chg (fun k => k = tb) w w'
set_option maxHeartbeats 1000000 in
theorem turn_c (g tb h : Nat) (T : List Bool) (f m : Int) (hf : I64 f) (hm : I64 m) (c : Bool) (w : World) (H : PS w g tb h T) :
    Calls Try.prog 48 #[.pointer (some ⟨g, 0, none⟩), .agg #[.int .i64 f, .int .i64 m], .bool c] w (TurnSay g tb h T f m c w) := by
  obtain ⟨Post, hPost⟩ : ∃ Post, Post = TurnSay g tb h T f m c w := ⟨_, rfl⟩
  rw [← hPost]
  have HP : Hid (∀ e w', TurnSay g tb h T f m c w e w' → Post e w') := fun e w' h => by rw [hPost]; exact h
  clear hPost
  have hb1 : Below w.heap.size w (w.alloc (.cells #[.int .i64 f, .int .i64 m] 41)) := (Below.refl _ _).alloc (Nat.le_refl _) _
  have Hb1 : Hid (Below w.heap.size w (w.alloc (.cells #[.int .i64 f, .int .i64 m] 41))) := hb1
  have HR1 : Hid (PS (w.alloc (.cells #[.int .i64 f, .int .i64 m] 41)) g tb h T) := H.on hb1
  have HX : Hid ((w.alloc (.cells #[.int .i64 f, .int .i64 m] 41)).heap[w.heap.size]? = some (.cells #[.int .i64 f, .int .i64 m] 41 (0, 0))) := heap_alloc_new w _
  have Htb : Hid (tb < w.heap.size ∧ g < w.heap.size) := ⟨(Array.getElem?_eq_some_iff.1 H.row).1, (Array.getElem?_eq_some_iff.1 H.head).1⟩
  have Hle : Hid (h ≤ T.length ∧ T.length ≤ 4096) := ⟨H.le, H.few⟩
  clear H hb1
  go_enter Try.func48, Try.ntmps48
  go_wp2_with fail
  generalize w.alloc (.cells #[.int .i64 f, .int .i64 m] 41) = w1 at *
  refine (may_c g tb h T f m hf hm w1 HR1.out).mono ?_
  rintro _ w2 ⟨rfl, hb2⟩
  have HR2 : Hid (PS w2 g tb h T) := HR1.out.on hb2
  have Hb2 : Hid (Below w.heap.size w w2) := Hb1.out.trans (hb2.mono Hb1.out.size)
  have HX2 : Hid (w2.heap[w.heap.size]? = some (.cells #[.int .i64 f, .int .i64 m] 41 (0, 0))) := (hb2.block w.heap.size (Array.getElem?_eq_some_iff.1 HX.out).1).trans HX.out
  clear hb2 HR1 Hb1 HX
  cases hfit : fitB h T.length f m with
  | false =>
    have hmay : mayB h T f m (!c) = false := by rw [mayB_fit, hfit]; rfl
    have R := HP.out (.returned (.int .i64 1)) w2 ⟨by unfold erS; rw [hmay]; rfl, by unfold doS; rw [hmay]; exact HR2.out, Chg.of_below Hb2.out⟩
    clear HP HR2 Hb2 HX2 hmay
    go_wp2
    exact R
  | true =>
    have hx := hfit
    unfold fitB at hx
    rw [decide_eq_true_iff] at hx
    obtain ⟨hx1, hx2, hx3⟩ := hx
    have hfew := Hle.out.2
    obtain ⟨f, rfl⟩ := Int.eq_ofNat_of_zero_le (show 0 ≤ f by omega)
    obtain ⟨m, rfl⟩ := Int.eq_ofNat_of_zero_le (show 0 ≤ m by omega)
    have hfm : f + m ≤ T.length := by omega
    have hm1 : 1 ≤ m := by omega
    have Hmay : Hid (mayB h T (f : Int) (m : Int) (!c) = allS T f m (!c)) := by show _ = _; rw [mayB_fit, hfit, Bool.true_and]; rfl
    clear hfit hx1 hx2 hx3 hf hm
    have x0 : w2.cell? ⟨w.heap.size, 0, none⟩ = some (.int .i64 (f : Int)) := by rw [cell_of_row _ _ _ _ 41 (0, 0) HX2.out]; rfl
    have x1 : w2.cell? ⟨w.heap.size, 1, none⟩ = some (.int .i64 (m : Int)) := by rw [cell_of_row _ _ _ _ 41 (0, 0) HX2.out]; rfl
    have c0 := HR2.out.cells.1
    have hcut := cut_both tb T.length f m hm1 hfm
    obtain ⟨n, hn⟩ : ∃ n, n = T.length := ⟨_, rfl⟩
    rw [← hn] at c0 hcut
    have Hn : Hid (n = T.length) := hn
    have hfm' : f + m ≤ n := by omega
    have hn4 : n ≤ 4096 := by omega
    have HB : Hid (∀ k, Below w.heap.size w (w2.drewN k)) := fun k => ⟨Hb2.out.os, Hb2.out.tape, Hb2.out.output, Hb2.out.size, Hb2.out.block⟩
    have HR3 : Hid (∀ k, PS (w2.drewN k) g tb h T) := fun k => ⟨HR2.out.head, HR2.out.row, HR2.out.ne, HR2.out.le, HR2.out.few⟩
    clear hn hfm hfew HR2 Hb2 HX2
    go_wp2_with fail
    go_big_quiet (fail)
    have HB' : Hid (Below w.heap.size w (w2.drewN nq)) := HB.out nq
    have HR' : Hid (PS (w2.drewN nq) g tb h T) := HR3.out nq
    clear HB HR3 c0 x0 x1 hcut
    generalize w2.drewN nq = w3 at *
    go_wp2_with fail
    refine (contains_c tb f m (n - f) T c w3 HR'.out.row (by have := Hn.out; omega) HR'.out.few).mono ?_
    rintro _ w4 ⟨rfl, rfl⟩
    cases hall : allS T f m (!c) with
    | false =>
      have hmay : mayB h T (f : Int) (m : Int) (!c) = false := by rw [Hmay.out, hall]
      have R := HP.out (.returned (.int .i64 1)) w4 ⟨by unfold erS; rw [hmay]; rfl, by unfold doS; rw [hmay]; exact HR'.out, Chg.of_below HB'.out⟩
      clear HP HR' HB' hmay hall Hmay
      go_wp2
      exact R
    | true =>
      have hmay : mayB h T (f : Int) (m : Int) (!c) = true := by rw [Hmay.out, hall]
      have Hr : Hid (∀ w', PS w' g tb h (setS T f m c) → Chg (fun k => k = tb) w w' → Post (.returned (.int .i64 0)) w') := fun w' h1 h2 => HP.out _ w' ⟨by unfold erS; rw [hmay]; rfl, by unfold doS; rw [hmay]; exact h1, h2⟩
      clear hmay hall Hmay HP
      go_wp2_with fail
      go_loopw [30] (fun v wr => ∃ (j : Nat), j ≤ m ∧ v = .int .i64 (j : Int) ∧ Hid (PS wr g tb h (setS T f j c)) ∧ Hid (Chg (fun k => k = tb) w wr)) (fun v _ => m - (intOf v).toNat)
      case atStart => exact ⟨0, Nat.zero_le _, by go_num, by rw [setS_zero]; exact HR'.out, Chg.of_below HB'.out⟩
      case round =>
        clear HR' HB'
        obtain ⟨j, hj, rfl, HR, HC⟩ := hrel
        by_cases hlt : j < m
        · have hlt' : (j : Int) < (m : Int) := by omega
          have hlen : (setS T f j c).length = T.length := setS_len (by have := Hn.out; omega) _
          have hat := row_at HR.out.row (i := f + j) (by rw [hlen]; have := Hn.out; omega)
          have hfr : wr.frozen? ⟨tb, f + j, none⟩ = false := frozen_of_row wr _ _ _ 4 HR.out.row
          have HR' : Hid (PS (wr.setCell ⟨tb, f + j, none⟩ (.bool c)) g tb h (setS T f (j + 1) c)) := by
            have := HR.out.set (f + j) c
            rw [setS_next (by have := Hn.out; omega)] at this
            exact this
          have HC' : Hid (Chg (fun k => k = tb) w (wr.setCell ⟨tb, f + j, none⟩ (.bool c))) := by
            have hO : Only tb wr (wr.setCell ⟨tb, f + j, none⟩ (.bool c)) := (Only.refl _ _).set _ _
            exact ⟨hO.os.trans HC.out.os, hO.tape.trans HC.out.tape, hO.output.trans HC.out.output, by rw [hO.size]; exact HC.out.size, fun k hk hf => (hO.block k hf).trans (HC.out.block k hk hf)⟩
          clear Hr HR HC hlen
          generalize (setS T f j c).getD (f + j) false = t at *
          go_wp2
          go_roundw
          case rel => exact ⟨j + 1, by omega, by go_num, HR', HC'⟩
          case measure => simp [intOf]; omega
        · obtain rfl : j = m := by omega
          have hge : ¬ (j : Int) < (j : Int) := by omega
          have R := Hr.out wr HR.out HC.out
          clear Hr HR HC
          go_wp2
          exact R
set_option maxHeartbeats 1000000 in
theorem mark_c (g tb h : Nat) (T : List Bool) (f m : Int) (hf : I64 f) (hm : I64 m) (w : World) (H : PS w g tb h T) :
    Calls Try.prog 43 #[.pointer (some ⟨g, 0, none⟩), .agg #[.int .i64 f, .int .i64 m]] w fun e w' => e = .returned (.int .i64 (erS h T f m false)) ∧ PS w' g tb h (doS h T f m false true) ∧ Chg (fun k => k = tb) w w' := by
  obtain ⟨Post, hPost⟩ : ∃ Post : Ending → World → Prop, Post = fun e w' => e = .returned (.int .i64 (erS h T f m false)) ∧ PS w' g tb h (doS h T f m false true) ∧ Chg (fun k => k = tb) w w' := ⟨_, rfl⟩
  rw [← hPost]
  have HP : Hid (∀ e w', e = .returned (.int .i64 (erS h T f m false)) → PS w' g tb h (doS h T f m false true) → Chg (fun k => k = tb) w w' → Post e w') := fun e w' h1 h2 h3 => by rw [hPost]; exact ⟨h1, h2, h3⟩
  clear hPost
  have hb1 : Below w.heap.size w (w.alloc (.cells #[.int .i64 f, .int .i64 m] 41)) := (Below.refl _ _).alloc (Nat.le_refl _) _
  have Hb1 : Hid (Below w.heap.size w (w.alloc (.cells #[.int .i64 f, .int .i64 m] 41))) := hb1
  have HR1 : Hid (PS (w.alloc (.cells #[.int .i64 f, .int .i64 m] 41)) g tb h T) := H.on hb1
  clear H hb1
  go_enter Try.func43, Try.ntmps43
  go_wp2_with fail
  generalize w.alloc (.cells #[.int .i64 f, .int .i64 m] 41) = w1 at *
  refine (turn_c g tb h T f m hf hm true w1 HR1.out).mono ?_
  rintro e w2 ⟨he, hS, hC⟩
  have R := HP.out e w2 he hS ((Chg.of_below Hb1.out).trans hC (fun j hj => .inl hj))
  subst he
  clear hS hC HR1 Hb1 HP
  generalize erS h T f m (!true) = x at *
  go_wp2
  exact R
/-- What New answers. -/
def NewSay (n h : Int) (w : World) (e : Ending) (w' : World) : Prop := Below w.heap.size w w' ∧ (badNew n h ∧ e = .returned (.tuple #[.pointer none, .int .i64 1]) ∨ ¬ badNew n h ∧ ∃ g tb, w.heap.size ≤ g ∧ w.heap.size ≤ tb ∧ e = .returned (.tuple #[.pointer (some ⟨g, 0, none⟩), .int .i64 0]) ∧ PS w' g tb h.toNat (List.replicate n.toNat false))
set_option maxHeartbeats 1000000 in
theorem new_c (n h : Int) (hn : I64 n) (hh : I64 h) (w : World) : Calls Try.prog 46 #[.int .i64 n, .int .i64 h] w (NewSay n h w) := by
  obtain ⟨Post, hPost⟩ : ∃ Post, Post = NewSay n h w := ⟨_, rfl⟩
  rw [← hPost]
  have HP : Hid (∀ e w', NewSay n h w e w' → Post e w') := fun e w' h => by rw [hPost]; exact h
  clear hPost
  by_cases hbad : h < 0 ∨ n < h ∨ 4096 < n
  · have R := HP.out _ w ⟨Below.refl _ _, Or.inl ⟨hbad, rfl⟩⟩
    clear HP
    have d1 : (decide (h < 0) || decide (n < h) || decide (4096 < n)) = true := by
      simp only [Bool.or_eq_true, decide_eq_true_iff]
      omega
    by_cases h1 : h < 0
    · go_enter Try.func46, Try.ntmps46
      go_wp2
      exact R
    · by_cases h2 : n < h
      · go_enter Try.func46, Try.ntmps46
        go_wp2
        exact R
      · have h3 : 4096 < n := by omega
        go_enter Try.func46, Try.ntmps46
        go_wp2
        exact R
  · have h1 : ¬ h < 0 := by omega
    have h2 : ¬ n < h := by omega
    have h3 : ¬ 4096 < n := by omega
    obtain ⟨i4, hi4, hz0, hz1, hz2⟩ := info_parts info4
    obtain ⟨N, rfl⟩ := Int.eq_ofNat_of_zero_le (show 0 ≤ n by omega)
    obtain ⟨Hd, rfl⟩ := Int.eq_ofNat_of_zero_le (show 0 ≤ h by omega)
    have Hbad : Hid (¬ ((Hd : Int) < 0 ∨ (N : Int) < Hd ∨ 4096 < (N : Int))) := hbad
    clear hbad
    go_enter Try.func46, Try.ntmps46
    go_wp2_with (at_make; refine wpList_make_full _ rfl _ _ 68 rfl w.heap.size 4 i4 _ 1 Try.underlying68 hi4 hz0 hz1 .i64 .i64 (N : Int) (N : Int) N rfl rfl rfl rfl (by rw [hz2]; omega) (by unfold maxLen; omega) (Nat.le_refl _) ?_; intro w1 hrow1 hg1)
    have hrow := own_full hrow1
    have hb1 : Below w.heap.size w w1 := (Below.refl _ _).grown hg1 (Nat.le_refl _) (by simp)
    have hlt1 : w.heap.size < w1.heap.size := (Array.getElem?_eq_some_iff.1 hrow).1
    refine HP.out _ _ ⟨hb1.alloc hb1.size _, Or.inr ⟨Hbad.out, w1.heap.size, w.heap.size, hb1.size, Nat.le_refl _, rfl, ?_⟩⟩
    refine ⟨?_, ?_, by omega, by rw [List.length_replicate]; omega, by rw [List.length_replicate]; omega⟩
    · rw [List.length_replicate]
      exact heap_alloc_new w1 _
    · rw [heap_alloc_old _ _ hlt1, hrow]
      congr 2
      simp [bvals, madeCells, Value.cells, Nat.mod_one]
      rw [List.map_const', List.length_range, List.toArray_replicate]
end Go.Proofs.Ytdjhlpllffakpaa.Q
