/-
  The document's disk: less, Len.
-/
import Derived.Test.YtfpcfgfpebdplaaRcut
namespace Go.Proofs.Ytfpcfgfpebdplaa
open Go.RowKit

theorem rless_c (f1 f2 f3 g1 g2 g3 : Int) (w : World) : Calls Try.prog 31 #[.agg #[.int .i64 f1, .int .i64 f2, .int .i64 f3], .agg #[.int .i64 g1, .int .i64 g2, .int .i64 g3]] w fun e w' => e = .returned (.bool (ltF (f1, f2, f3) (g1, g2, g3))) ∧ Below w.heap.size w w' := by
  have HB : Hid (Below w.heap.size w ((w.alloc (.cells #[.int .i64 f1, .int .i64 f2, .int .i64 f3] 30)).alloc (.cells #[.int .i64 g1, .int .i64 g2, .int .i64 g3] 30))) := ((Below.refl _ _).alloc (Nat.le_refl _) _).alloc (by rw [World.size_alloc]; omega) _
  go_enter Try.func31, Try.ntmps31
  go_wp2
  · rename_i h
    go_ret
    refine ⟨?_, HB.out⟩
    have e : f1 ≠ g1 := by simpa using h
    have : ltF (f1, f2, f3) (g1, g2, g3) = decide (f1 < g1) := by unfold ltF; simp [e]
    rw [this]; rfl
  · rename_i h1 _ _ h2
    go_ret
    refine ⟨?_, HB.out⟩
    have e1 : f1 = g1 := by simpa using h1
    have e2 : f2 ≠ g2 := by simpa using h2
    have : ltF (f1, f2, f3) (g1, g2, g3) = decide (f2 < g2) := by unfold ltF; simp [e1, e2]
    rw [this]; rfl
  · rename_i h1 h2
    go_ret
    refine ⟨?_, HB.out⟩
    have e1 : f1 = g1 := by simpa using h1
    have e2 : f2 = g2 := by simpa using h2
    have : ltF (f1, f2, f3) (g1, g2, g3) = decide (f3 < g3) := by unfold ltF; simp [e1, e2]
    rw [this]; rfl

theorem lenOf_last (p : List (Fl × Int)) (q : Fl × Int) (f : Fl) : lenOf (p ++ [q]) f = if q.1 = f then max (q.2 + 1) (lenOf p f) else lenOf p f := by
  induction p with
  | nil => rfl
  | cons a r ih =>
    rw [List.cons_append, lenOf, ih, lenOf]
    split <;> split <;> omega
/-- One more than the greatest of the file's blocks among the first j. -/
def lenTo (l : List Bk) (f : Fl) (j : Nat) : Int := lenOf (at_ (l.take j)) f
theorem lenTo_succ (l : List Bk) (f : Fl) (j : Nat) (hj : j < l.length) : lenTo l f (j + 1) = if l[j].f = f then max (l[j].i + 1) (lenTo l f j) else lenTo l f j := by
  unfold lenTo
  rw [List.take_add_one, List.getElem?_eq_getElem hj]
  unfold at_
  rw [List.map_append]
  exact lenOf_last _ (l[j].f, l[j].i) f

set_option maxHeartbeats 2000000 in
theorem rlen_c (F : Nat → Prop) (g : Nat) (S : St) (f1 f2 f3 : Int) (w : World) (hD : RDisk F w g S) :
    Calls Try.prog 17 #[.pointer (some ⟨g, 0, none⟩), .agg #[.int .i64 f1, .int .i64 f2, .int .i64 f3]] w fun e w' => e = .returned (.int .i64 (lenOf (at_ S.l) (f1, f2, f3))) ∧ Below w.heap.size w w' := by
  obtain ⟨a, c, q, hD⟩ := hD
  obtain ⟨Post, hPost⟩ : ∃ Post : Ending → World → Prop, Post = fun e w' => e = .returned (.int .i64 (lenOf (at_ S.l) (f1, f2, f3))) ∧ Below w.heap.size w w' := ⟨_, rfl⟩
  rw [← hPost]
  have HP : Hid (∀ m w', m = lenTo S.l (f1, f2, f3) S.l.length → Below w.heap.size w w' → Post (.returned (.int .i64 m)) w') := fun m w' h1 h2 => by
    rw [hPost]
    refine ⟨?_, h2⟩
    rw [h1, lenTo, List.take_length]
  clear hPost
  have HD : Hid (RD F w g S a c q) := hD
  have hg := hD.glt
  have hlen := hD.bds.2.2.2.2
  have HI : Hid (∀ j (h : j < S.l.length), 0 ≤ S.l[j].i ∧ S.l[j].i < 4096) := fun j h => ⟨(hD.ok _ (List.getElem_mem h)).1, (hD.ok _ (List.getElem_mem h)).2.1⟩
  have hw0 : Below w.heap.size w (w.alloc (.cells #[.int .i64 f1, .int .i64 f2, .int .i64 f3] 30)) := (Below.refl _ _).alloc (Nat.le_refl _) _
  have Hw0 : Hid (Below w.heap.size w (w.alloc (.cells #[.int .i64 f1, .int .i64 f2, .int .i64 f3] 30))) := hw0
  have HX0 : Hid ((w.alloc (.cells #[.int .i64 f1, .int .i64 f2, .int .i64 f3] 30)).heap[w.heap.size]? = some (.cells #[.int .i64 f1, .int .i64 f2, .int .i64 f3] 30 (0, 0))) := heap_alloc_new w _
  clear hD hw0
  go_enter Try.func17, Try.ntmps17
  go_wp2
  generalize w.alloc (.cells #[.int .i64 f1, .int .i64 f2, .int .i64 f3] 30) = w0 at *
  obtain ⟨n, hn⟩ : ∃ n, n = S.l.length := ⟨_, rfl⟩
  have Hn : Hid (S.l.length = n) := hn.symm
  rw [← hn] at hlen
  clear hn
  go_loopw [5, 6] (fun u v wr => ∃ (j : Nat) (m : Int), j ≤ n ∧ v = .int .i64 (j : Int) ∧ u = .int .i64 m ∧ (0 ≤ m ∧ m ≤ 4096) ∧ Hid (m = lenTo S.l (f1, f2, f3) j) ∧ Hid (Below w.heap.size w wr) ∧ Hid (wr.heap[w.heap.size]? = some (.cells #[.int .i64 f1, .int .i64 f2, .int .i64 f3] 30 (0, 0)))) (fun _ v _ => n - (intOf v).toNat)
  case atStart => exact ⟨0, 0, Nat.zero_le _, rfl, rfl, by decide, rfl, Hw0, HX0⟩
  case round =>
    obtain ⟨j, m, hj, rfl, rfl, hm, HJ, Hb, HX⟩ := hrel
    clear Hw0 HX0
    have keep : ∀ b m v, b < w.heap.size → w.cell? ⟨b, m, none⟩ = some v → wr.cell? ⟨b, m, none⟩ = some v := fun b m v hbl hv => by
      unfold World.cell? at hv ⊢
      rw [Hb.out.block b hbl]
      exact hv
    have hh := keep g 0 _ hg HD.out.head0
    rw [Hn.out] at hh
    by_cases hlt : j < n
    · have hlt' : (j : Int) < n := by omega
      obtain ⟨b, hq, rfl, k0, k1, k2, k3, k4, hbl⟩ := HD.out.cells (j := j) (by rw [Hn.out]; exact hlt)
      have c0 := keep b _ _ hbl k0
      have c1 := keep b _ _ hbl k1
      have c2 := keep b _ _ hbl k2
      have c3 := keep b _ _ hbl k3
      have x0 : wr.cell? ⟨w.heap.size, 0, none⟩ = some (.int .i64 f1) := by rw [cell_of_row wr w.heap.size 0 _ 30 (0, 0) HX.out]; rfl
      have x1 : wr.cell? ⟨w.heap.size, 1, none⟩ = some (.int .i64 f2) := by rw [cell_of_row wr w.heap.size 1 _ 30 (0, 0) HX.out]; rfl
      have x2 : wr.cell? ⟨w.heap.size, 2, none⟩ = some (.int .i64 f3) := by rw [cell_of_row wr w.heap.size 2 _ 30 (0, 0) HX.out]; rfl
      have hjl : j < S.l.length := by rw [Hn.out]; exact hlt
      have HL0 : Hid (∀ m', (¬ (S.l[j].f.1 = f1 ∧ S.l[j].f.2.1 = f2 ∧ S.l[j].f.2.2 = f3) → m' = m) → (S.l[j].f.1 = f1 → S.l[j].f.2.1 = f2 → S.l[j].f.2.2 = f3 → m' = max (S.l[j].i + 1) m) → m' = lenTo S.l (f1, f2, f3) (j + 1)) := fun m' h1 h2 => by
        rw [lenTo_succ _ _ _ hjl, ← HJ.out]
        split
        · rename_i e
          exact h2 (by rw [e]) (by rw [e]) (by rw [e])
        · rename_i e
          exact h1 (fun ⟨e1, e2, e3⟩ => e (by rw [← e1, ← e2, ← e3]))
      have hy0 := HI.out j hjl
      clear keep k0 k1 k2 k3 k4 hq HJ
      generalize S.l[j].f.1 = y1 at *
      generalize S.l[j].f.2.1 = y2 at *
      generalize S.l[j].f.2.2 = y3 at *
      generalize S.l[j].i = y4 at *
      have HL : Hid (∀ m', (¬ (y1 = f1 ∧ y2 = f2 ∧ y3 = f3) → m' = m) → (y1 = f1 → y2 = f2 → y3 = f3 → m' = max (y4 + 1) m) → m' = lenTo S.l (f1, f2, f3) (j + 1)) := HL0.out
      clear HL0
      by_cases e : y1 = f1
      · have q1 : (y1 == f1) = true := by simp [e]
        have E1 := e
        clear e
        by_cases e : y2 = f2
        · have q2 : (y2 == f2) = true := by simp [e]
          have E2 := e
          clear e
          by_cases e : y3 = f3
          · have q3 : (y3 == f3) = true := by simp [e]
            have E3 := e
            clear e
            by_cases e : m ≤ y4
            · have q4 : m ≤ y4 := e
              have HJ2 : Hid (y4 + 1 = lenTo S.l (f1, f2, f3) (j + 1)) := HL.out _ (fun h => absurd ⟨E1, E2, E3⟩ h) (fun _ _ _ => by omega)
              subst E1 E2 E3
              clear HL HP HD HI
              go_wp2_with fail
              go_big_quiet (fail)
              go_wp2
              go_roundw
              case rel => exact ⟨j + 1, y4 + 1, by omega, by go_num, by go_num, by omega, HJ2, ⟨Hb.out.os, Hb.out.tape, Hb.out.output, Hb.out.size, Hb.out.block⟩, HX⟩
              case measure => simp [intOf]; omega
            · have HJ2 : Hid (m = lenTo S.l (f1, f2, f3) (j + 1)) := HL.out _ (fun h => absurd ⟨E1, E2, E3⟩ h) (fun _ _ _ => by omega)
              subst E1 E2 E3
              clear HL HP HD HI
              go_wp2_with fail
              go_big_quiet (fail)
              go_wp2
              go_roundw
              case rel => exact ⟨j + 1, m, by omega, by go_num, rfl, hm, HJ2, ⟨Hb.out.os, Hb.out.tape, Hb.out.output, Hb.out.size, Hb.out.block⟩, HX⟩
              case measure => simp [intOf]; omega
          · have e' : (y3 == f3) = false := by simp [e]
            have HJ2 : Hid (m = lenTo S.l (f1, f2, f3) (j + 1)) := HL.out _ (fun _ => rfl) (fun _ _ h => absurd h e)
            subst E1 E2
            clear HL HP HD HI e
            go_wp2_with fail
            go_big_quiet (fail)
            go_wp2
            go_roundw
            case rel => exact ⟨j + 1, m, by omega, by go_num, rfl, hm, HJ2, ⟨Hb.out.os, Hb.out.tape, Hb.out.output, Hb.out.size, Hb.out.block⟩, HX⟩
            case measure => simp [intOf]; omega
        · have e' : (y2 == f2) = false := by simp [e]
          have HJ2 : Hid (m = lenTo S.l (f1, f2, f3) (j + 1)) := HL.out _ (fun _ => rfl) (fun _ h _ => absurd h e)
          subst E1
          clear HL HP HD HI e
          go_wp2_with fail
          go_big_quiet (fail)
          go_wp2
          go_roundw
          case rel => exact ⟨j + 1, m, by omega, by go_num, rfl, hm, HJ2, ⟨Hb.out.os, Hb.out.tape, Hb.out.output, Hb.out.size, Hb.out.block⟩, HX⟩
          case measure => simp [intOf]; omega
      · have e' : (y1 == f1) = false := by simp [e]
        have HJ2 : Hid (m = lenTo S.l (f1, f2, f3) (j + 1)) := HL.out _ (fun _ => rfl) (fun h _ _ => absurd h e)
        clear HL HP HD HI e
        go_wp2_with fail
        go_big_quiet (fail)
        go_wp2
        go_roundw
        case rel => exact ⟨j + 1, m, by omega, by go_num, rfl, hm, HJ2, ⟨Hb.out.os, Hb.out.tape, Hb.out.output, Hb.out.size, Hb.out.block⟩, HX⟩
        case measure => simp [intOf]; omega
    · obtain rfl : j = n := by omega
      have hlt' : ¬ (j : Int) < j := by omega
      have R := HP.out m wr (by rw [Hn.out]; exact HJ.out) Hb.out
      clear HP HD keep HJ Hb HX HI
      go_wp2
      exact R
end Go.Proofs.Ytfpcfgfpebdplaa
