/-
  Lists of files: the same?
-/
import Derived.Test.YtfpcfgfpebdplaaRread
namespace Go.Proofs.Ytfpcfgfpebdplaa
open Go.RowKit

/-- A slice of files. -/
structure Fls (w : World) (a : Option Addr) (n : Nat) (fs : List Fl) : Prop where
  n : fs.length = n
  cells : ∀ k (h : k < fs.length), ∃ b off, a = some ⟨b, off, none⟩ ∧ w.cell? ⟨b, off + k * 3, none⟩ = some (.int .i64 fs[k].1) ∧ w.cell? ⟨b, off + k * 3 + 1, none⟩ = some (.int .i64 fs[k].2.1) ∧ w.cell? ⟨b, off + k * 3 + 2, none⟩ = some (.int .i64 fs[k].2.2)
theorem Fls.later {w w' : World} {a : Option Addr} {n : Nat} {fs : List Fl} (h : Fls w a n fs) (hb : Below w.heap.size w w') : Fls w' a n fs :=
  ⟨h.n, fun k hk => by
    obtain ⟨b, off, e, c0, c1, c2⟩ := h.cells k hk
    have keep : ∀ m v, w.cell? ⟨b, m, none⟩ = some v → w'.cell? ⟨b, m, none⟩ = some v := fun m v hv => by
      rw [← hv]; exact hb.cell (p := ⟨b, m, none⟩) (World.block_lt_of_cell? w _ hv)
    exact ⟨b, off, e, keep _ _ c0, keep _ _ c1, keep _ _ c2⟩⟩
theorem Fls.drew {w : World} {a : Option Addr} {n : Nat} {fs : List Fl} (h : Fls w a n fs) (k : Nat) : Fls (w.drewN k) a n fs := ⟨h.n, h.cells⟩
theorem drewN_drewN (w : World) (t k : Nat) : (w.drewN t).drewN k = w.drewN (t + k) := by simp [World.drewN, Nat.add_assoc]
/-- The first k are the same. -/
def SameTo (xs ys : List Fl) (k : Nat) : Prop := ∀ m, m < k → xs[m]? = ys[m]?
theorem same_all {xs ys : List Fl} {k : Nat} (h : SameTo xs ys k) (h1 : xs.length = k) (h2 : ys.length = k) : xs = ys := by
  apply List.ext_getElem?
  intro m
  rcases Nat.lt_or_ge m k with hm | hm
  · exact h m hm
  · rw [List.getElem?_eq_none (by omega), List.getElem?_eq_none (by omega)]
theorem same_not {xs ys : List Fl} {k : Nat} (hx : k < xs.length) (hy : k < ys.length) (h : xs[k] ≠ ys[k]) : xs ≠ ys := fun e => by subst e; exact h rfl
theorem same_next {xs ys : List Fl} {k : Nat} (h : SameTo xs ys k) (hx : k < xs.length) (hy : k < ys.length) (e : xs[k] = ys[k]) : SameTo xs ys (k + 1) := fun m hm => by
  rcases Nat.lt_or_ge m k with h1 | h1
  · exact h m h1
  · obtain rfl : m = k := by omega
    rw [List.getElem?_eq_getElem hx, List.getElem?_eq_getElem hy, e]

set_option maxHeartbeats 1000000 in
theorem files_c (a b : Option Addr) (n m c d : Nat) (xs ys : List Fl) (w : World) (hx : Fls w a n xs) (hy : Fls w b m ys) (hn : n < 1000000) (hm : m < 1000000) :
    Calls Try.prog 11 #[.slice a n c, .slice b m d] w fun e w' => e = .returned (.bool (decide (xs = ys))) ∧ ∃ k, w' = w.drewN k := by
  obtain ⟨Post, hPost⟩ : ∃ Post : Ending → World → Prop, Post = fun e w' => e = .returned (.bool (decide (xs = ys))) ∧ ∃ k, w' = w.drewN k := ⟨_, rfl⟩
  rw [← hPost]
  have HN : Hid (∀ k, xs ≠ ys → Post (.returned (.bool false)) (w.drewN k)) := fun k h => by rw [hPost]; exact ⟨by simp [h], k, rfl⟩
  have HY : Hid (∀ k, xs = ys → Post (.returned (.bool true)) (w.drewN k)) := fun k h => by rw [hPost]; exact ⟨by simp [h], k, rfl⟩
  clear hPost
  have hx0 := hx.n
  have hy0 := hy.n
  have Hx : Hid (Fls w a n xs) := hx
  have Hy : Hid (Fls w b m ys) := hy
  clear hx hy
  by_cases hnm : n = m
  · subst hnm
    go_enter Try.func11, Try.ntmps11
    go_wp2
    go_loopw [5] (fun v wr => ∃ (j : Nat), j ≤ n ∧ v = .int .i64 (j : Int) ∧ Hid (SameTo xs ys j) ∧ Hid (∃ t, wr = w.drewN t)) (fun v _ => n - (intOf v).toNat)
    case atStart => exact ⟨0, Nat.zero_le _, rfl, fun m h => absurd h (Nat.not_lt_zero _), ⟨0, rfl⟩⟩
    case round =>
      obtain ⟨j, hj, rfl, HJ, HW⟩ := hrel
      by_cases hlt : j < n
      · have hlt' : (j : Int) < n := by omega
        have hjx : j < xs.length := by omega
        have hjy : j < ys.length := by omega
        have HxW : Fls wr a n xs := by obtain ⟨t, rfl⟩ := HW.out; exact Hx.out.drew t
        have HyW : Fls wr b n ys := by obtain ⟨t, rfl⟩ := HW.out; exact Hy.out.drew t
        have HD : Hid (∀ k, ∃ t, wr.drewN k = w.drewN t) := fun k => by obtain ⟨t, rfl⟩ := HW.out; exact ⟨t + k, drewN_drewN w t k⟩
        obtain ⟨b1, o1, rfl, x0, x1, x2⟩ := HxW.cells j hjx
        obtain ⟨b2, o2, rfl, y0, y1, y2⟩ := HyW.cells j hjy
        have HQ : Hid (xs[j] = ys[j] ↔ (xs[j].1 = ys[j].1 ∧ xs[j].2.1 = ys[j].2.1 ∧ xs[j].2.2 = ys[j].2.2)) := by
          show _ ↔ _
          rw [Prod.ext_iff, Prod.ext_iff]
        have HNo : Hid (¬ (xs[j].1 = ys[j].1 ∧ xs[j].2.1 = ys[j].2.1 ∧ xs[j].2.2 = ys[j].2.2) → ∀ k, Post (.returned (.bool false)) (wr.drewN k)) := fun h k => by obtain ⟨t, e⟩ := HD.out k; rw [e]; exact HN.out t (same_not hjx hjy (fun e => h (HQ.out.1 e)))
        have HYe : Hid (xs[j].1 = ys[j].1 → xs[j].2.1 = ys[j].2.1 → xs[j].2.2 = ys[j].2.2 → SameTo xs ys (j + 1)) := fun e1 e2 e3 => same_next HJ.out hjx hjy (HQ.out.2 ⟨e1, e2, e3⟩)
        clear HQ HJ HN HY Hx Hy HxW HyW HW
        generalize xs[j].1 = p1 at *
        generalize xs[j].2.1 = p2 at *
        generalize xs[j].2.2 = p3 at *
        generalize ys[j].1 = q1 at *
        generalize ys[j].2.1 = q2 at *
        generalize ys[j].2.2 = q3 at *
        by_cases e : p1 = q1
        · have E1 := e
          clear e
          by_cases e : p2 = q2
          · have E2 := e
            clear e
            by_cases e : p3 = q3
            · have HJ2 : Hid (SameTo xs ys (j + 1)) := HYe.out E1 E2 e
              subst E1 E2 e
              clear HNo HYe
              go_wp2_with fail
              go_big_quiet (fail)
              go_wp2
              go_roundw
              case rel => exact ⟨j + 1, by omega, by go_num, HJ2, HD.out _⟩
              case measure => simp [intOf]; omega
            · have e' : (p3 == q3) = false := by simp [e]
              have R := HNo.out (fun h => e h.2.2)
              subst E1 E2
              clear HNo HYe e
              go_wp2_with fail
              go_big_quiet (fail)
              go_wp2
              exact R _
          · have e' : (p2 == q2) = false := by simp [e]
            have R := HNo.out (fun h => e h.2.1)
            subst E1
            clear HNo HYe e
            go_wp2_with fail
            go_big_quiet (fail)
            go_wp2
            exact R _
        · have e' : (p1 == q1) = false := by simp [e]
          have R := HNo.out (fun h => e h.1)
          clear HNo HYe e
          go_wp2_with fail
          go_big_quiet (fail)
          go_wp2
          exact R _
      · obtain rfl : j = n := by omega
        have hlt' : ¬ (j : Int) < j := by omega
        have R : Post (.returned (.bool true)) wr := by obtain ⟨t, rfl⟩ := HW.out; exact HY.out t (same_all HJ.out hx0 hy0)
        clear HN HY Hx Hy HJ HW
        go_wp2
        exact R
  · have hnm' : ¬ (n : Int) = m := by omega
    have R := HN.out 0 (fun e => hnm (by rw [← hx0, ← hy0, e]))
    clear HN HY Hx Hy
    go_enter Try.func11, Try.ntmps11
    go_wp2
    exact R
end Go.Proofs.Ytfpcfgfpebdplaa
