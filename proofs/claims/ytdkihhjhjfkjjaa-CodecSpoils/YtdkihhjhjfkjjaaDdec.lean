/-
  The program's Decode: what gives up is caught.
-/
import Derived.Test.YtdkihhjhjfkjjaaDchunk
import Derived.Recover
namespace Go.Proofs.Ytdkihhjhjfkjjaa
open Go.RowKit

theorem regs_c (a b v : Value) : #[a, b] ++ ((Array.replicate 13 undef).setIfInBounds 3 v).setIfInBounds 0 v = #[a, b, v, undef, undef, v, undef, undef, undef, undef, undef, undef, undef, undef, undef] := rfl
theorem catch_panicking (g h : Nat) (E x : Int) (pv : Option Addr) (older : List PanicEntry) (w : World) (hgh : g ≠ h) (hc : w.cell? ⟨g, 0, none⟩ = some (.pointer pv)) (hf : w.frozen? ⟨g, 0, none⟩ = false) (hc2 : w.cell? ⟨h, 0, none⟩ = some (.int .i64 x)) (hf2 : w.frozen? ⟨h, 0, none⟩ = false) :
    CallsD Try.prog 33 #[.pointer (some ⟨g, 0, none⟩), .pointer (some ⟨h, 0, none⟩)] (.panicking ({ v := .iface 33 (.int .i64 E), recovered := false } :: older)) w fun e u' w' =>
      e = .returned (.tuple #[]) ∧ u' = .panicking ({ v := .iface 33 (.int .i64 E), recovered := true } :: older) ∧ w' = ((w.setCell ⟨g, 0, none⟩ (.pointer none)).setCell ⟨h, 0, none⟩ (.int .i64 4)).setCell ⟨h, 0, none⟩ (.int .i64 E) := by
  refine callsD_of_wpS Try.func33 rfl fun c₀ cs hu => ?_
  apply wpS_seq
  apply wpS_region
  simp [wpOpsS, go_sem, recoverD, hu, Try.ntmps33, Exit.thenS]
  refine wpS_of_wp ?_
  rw [regs_c]
  have hne : (⟨h, 0, none⟩ : Addr) ≠ ⟨g, 0, none⟩ := by intro e; cases e; exact hgh rfl
  have hc3 : (w.setCell ⟨g, 0, none⟩ (.pointer none)).cell? ⟨h, 0, none⟩ = some (.int .i64 x) := by rw [World.cell?_setCell_other _ _ _ _ (fun e => hne e.symm)]; exact hc2
  have hta : ∀ w, (Instr.typeAssert (.iface 33 (.int .i64 E)) 20 33 true).run Try.prog w = .ok (.tuple #[.int .i64 E, .bool true]) w := fun w => by rfl
  go_wp2
  refine ⟨rfl, _, rfl, .tuple #[], results_none rfl _ _ _, rfl, rfl, rfl⟩

theorem catch_idle (p r : Addr) (w : World) :
    CallsD Try.prog 33 #[.pointer (some p), .pointer (some r)] .returning w fun e u' w' => e = .returned (.tuple #[]) ∧ u' = .returning ∧ w' = w := by
  refine callsD_of_wpS Try.func33 rfl fun c₀ cs hu => ?_
  apply wpS_seq
  apply wpS_region
  simp [wpOpsS, go_sem, recoverD, hu, Try.ntmps33, Exit.thenS]
  refine wpS_of_wp ?_
  rw [regs_c]
  go_wp2
  refine ⟨rfl, _, rfl, .tuple #[], results_none rfl _ _ _, rfl, hu, rfl⟩

/-- The blocks that Decode lays: the two results, and the reader. -/
theorem three_new (w : World) (o1 o2 o3 : Obj) : (((w.alloc o1).alloc o2).alloc o3).heap[w.heap.size]? = some o1 ∧ (((w.alloc o1).alloc o2).alloc o3).heap[w.heap.size + 1]? = some o2 ∧ (((w.alloc o1).alloc o2).alloc o3).heap[w.heap.size + 1 + 1]? = some o3 ∧
    Below w.heap.size w (((w.alloc o1).alloc o2).alloc o3) := by
  have h3 := heap_new_two (w.alloc o1) o2 o3
  have h2 := heap_new_one (w.alloc o1) o2 o3
  rw [World.size_alloc] at h2 h3
  have hb : Below w.heap.size w (w.alloc o1) := (Below.refl _ _).alloc (Nat.le_refl _) _
  have hb2 : Below (w.heap.size + 1) (w.alloc o1) ((w.alloc o1).alloc o2) := (Below.refl _ _).alloc (by rw [World.size_alloc]; omega) _
  have hb3 : Below (w.heap.size + 1) (w.alloc o1) (((w.alloc o1).alloc o2).alloc o3) := hb2.alloc (by rw [World.size_alloc, World.size_alloc]; omega) _
  refine ⟨?_, h2, h3, hb.trans (hb3.mono (by omega))⟩
  rw [hb3.block _ (by omega)]
  exact heap_alloc_new w o1

/-- What Decode answers. -/
def DecSay (D : Int × List Int) (w : World) (e : Ending) (w' : World) : Prop := Below w.heap.size w w' ∧ ((D.1 = 0 ∧ ∃ g, w.heap.size ≤ g ∧ e = .returned (.tuple #[.pointer (some ⟨g, 0, none⟩), .int .i64 0]) ∧ Blk w' g 61 D.2) ∨ (D.1 ≠ 0 ∧ e = .returned (.tuple #[.pointer none, .int .i64 D.1])))

set_option maxHeartbeats 1000000 in
theorem decode_of (a : Option Addr) (n c : Nat) (D : Int × List Int) (w : World)
    (hc : Calls Try.prog 34 #[.pointer (some ⟨w.heap.size + 1 + 1, 0, none⟩)] (((w.alloc (.cells #[.pointer none] 27)).alloc (.cells #[.int .i64 0] 33)).alloc (.cells #[.slice a n c] 57))
      (ChunkSay D (w.heap.size + 1 + 1) (((w.alloc (.cells #[.pointer none] 27)).alloc (.cells #[.int .i64 0] 33)).alloc (.cells #[.slice a n c] 57)))) :
    Calls Try.prog 15 #[.slice a n c] w (DecSay D w) := by
  have hmf : ∀ (fn : Fn) (first cap : Array Value) (w : World), (Instr.makeFunc fn first cap).run Try.prog w = .ok (.func fn first cap) w := fun _ _ _ _ => rfl
  obtain ⟨Post, hPost⟩ : ∃ Post, Post = DecSay D w := ⟨_, rfl⟩
  rw [← hPost]
  have HP : Hid (Post = DecSay D w) := hPost
  clear hPost
  go_enter_defers Try.func15, Try.ntmps15
  go_wp2_with fail
  refine hc.mono ?_
  clear hc
  obtain ⟨h1, h2, h3, hb⟩ := three_new w (.cells #[.pointer none] 27) (.cells #[.int .i64 0] 33) (.cells #[.slice a n c] 57)
  generalize ((w.alloc (.cells #[.pointer none] 27)).alloc (.cells #[.int .i64 0] 33)).alloc (.cells #[.slice a n c] 57) = w3 at *
  rintro e w4 ⟨hb4, ⟨hD, rfl⟩ | ⟨hD, g, hg, rfl, hG⟩⟩
  · have k1 : w4.heap[w.heap.size]? = some (.cells #[.pointer none] 27 (0, 0)) := (hb4.block _ (by omega)).trans h1
    have k2 : w4.heap[w.heap.size + 1]? = some (.cells #[.int .i64 0] 33 (0, 0)) := (hb4.block _ (by omega)).trans h2
    have hB : Below w.heap.size w w4 := hb.trans (hb4.mono (by omega))
    have R : Post (.returned (.tuple #[.pointer none, .int .i64 D.1])) (((w4.setCell ⟨w.heap.size, 0, none⟩ (.pointer none)).setCell ⟨w.heap.size + 1, 0, none⟩ (.int .i64 4)).setCell ⟨w.heap.size + 1, 0, none⟩ (.int .i64 D.1)) := by
      rw [HP.out]
      exact ⟨((hB.setCell (p := ⟨w.heap.size, 0, none⟩) (by simp) _).setCell (p := ⟨w.heap.size + 1, 0, none⟩) (by simp) _).setCell (p := ⟨w.heap.size + 1, 0, none⟩) (by simp) _, Or.inr ⟨hD, rfl⟩⟩
    have c1 : w4.cell? ⟨w.heap.size, 0, none⟩ = some (.pointer none) := by rw [cell_of_row w4 _ 0 _ 27 (0, 0) k1]; rfl
    have c2 : w4.cell? ⟨w.heap.size + 1, 0, none⟩ = some (.int .i64 0) := by rw [cell_of_row w4 _ 0 _ 33 (0, 0) k2]; rfl
    have z1 := frozen_of_row w4 w.heap.size 0 _ 27 k1
    have z2 := frozen_of_row w4 (w.heap.size + 1) 0 _ 33 k2
    clear hb4 h1 h2 h3 hb hB HP hD
    generalize D.1 = E at *
    go_wp2
    refine leaves_cons (f := 33) (args := #[.pointer (some ⟨w.heap.size, 0, none⟩), .pointer (some ⟨w.heap.size + 1, 0, none⟩)]) (by simp) (by simp [go_sem]) ?_
    refine (catch_panicking w.heap.size (w.heap.size + 1) E 0 none [] w4 (by omega) c1 z1 c2 z2).mono ?_
    have f1 : (((w4.setCell ⟨w.heap.size, 0, none⟩ (.pointer none)).setCell ⟨w.heap.size + 1, 0, none⟩ (.int .i64 4)).setCell ⟨w.heap.size + 1, 0, none⟩ (.int .i64 E)).cell? ⟨w.heap.size, 0, none⟩ = some (.pointer none) := by
      have h1 := heap_setCell_same w4 w.heap.size 0 _ 27 (.pointer none) k1
      have h2 := Below.heap_setCell (w4.setCell ⟨w.heap.size, 0, none⟩ (.pointer none)) ⟨w.heap.size + 1, 0, none⟩ (.int .i64 4) w.heap.size (by simp)
      have h3 := Below.heap_setCell ((w4.setCell ⟨w.heap.size, 0, none⟩ (.pointer none)).setCell ⟨w.heap.size + 1, 0, none⟩ (.int .i64 4)) ⟨w.heap.size + 1, 0, none⟩ (.int .i64 E) w.heap.size (by simp)
      rw [cell_of_row _ w.heap.size 0 _ 27 (0, 0) (h3.trans (h2.trans h1))]
      rfl
    have f2 : (((w4.setCell ⟨w.heap.size, 0, none⟩ (.pointer none)).setCell ⟨w.heap.size + 1, 0, none⟩ (.int .i64 4)).setCell ⟨w.heap.size + 1, 0, none⟩ (.int .i64 E)).cell? ⟨w.heap.size + 1, 0, none⟩ = some (.int .i64 E) := by
      have h1 := (Below.heap_setCell w4 ⟨w.heap.size, 0, none⟩ (.pointer none) (w.heap.size + 1) (by simp)).trans k2
      have h2 := heap_setCell_same (w4.setCell ⟨w.heap.size, 0, none⟩ (.pointer none)) (w.heap.size + 1) 0 _ 33 (.int .i64 4) h1
      have h3 := heap_setCell_same _ (w.heap.size + 1) 0 _ 33 (.int .i64 E) h2
      rw [cell_of_row _ (w.heap.size + 1) 0 _ 33 (0, 0) h3]
      rfl
    rintro e u' w5 ⟨rfl, rfl, e5⟩
    rw [← e5] at f1 f2 R
    clear e5 k1 k2 c1 c2 z1 z2
    simp [Leaves, settle, results, Try.results15, go_sem, f1, f2]
    exact R
  · have k1 : w4.heap[w.heap.size]? = some (.cells #[.pointer none] 27 (0, 0)) := (hb4.block _ (by omega)).trans h1
    have k2 : w4.heap[w.heap.size + 1]? = some (.cells #[.int .i64 0] 33 (0, 0)) := (hb4.block _ (by omega)).trans h2
    have hB : Below w.heap.size w w4 := hb.trans (hb4.mono (by omega))
    have R : Post (.returned (.tuple #[.pointer (some ⟨g, 0, none⟩), .int .i64 0])) ((w4.setCell ⟨w.heap.size, 0, none⟩ (.pointer (some ⟨g, 0, none⟩))).setCell ⟨w.heap.size + 1, 0, none⟩ (.int .i64 0)) := by
      rw [HP.out]
      refine ⟨(hB.setCell (p := ⟨w.heap.size, 0, none⟩) (by simp) _).setCell (p := ⟨w.heap.size + 1, 0, none⟩) (by simp) _, Or.inl ⟨hD, g, by omega, rfl, (hG.other (by omega)).other (by omega)⟩⟩
    have c1 : w4.cell? ⟨w.heap.size, 0, none⟩ = some (.pointer none) := by rw [cell_of_row w4 _ 0 _ 27 (0, 0) k1]; rfl
    have z1 := frozen_of_row w4 w.heap.size 0 _ 27 k1
    have q2 : (w4.setCell ⟨w.heap.size, 0, none⟩ (.pointer (some ⟨g, 0, none⟩))).heap[w.heap.size + 1]? = some (.cells #[.int .i64 0] 33 (0, 0)) := (Below.heap_setCell w4 ⟨w.heap.size, 0, none⟩ _ (w.heap.size + 1) (by simp)).trans k2
    have c2 : (w4.setCell ⟨w.heap.size, 0, none⟩ (.pointer (some ⟨g, 0, none⟩))).cell? ⟨w.heap.size + 1, 0, none⟩ = some (.int .i64 0) := by rw [cell_of_row _ _ 0 _ 33 (0, 0) q2]; rfl
    have z2 := frozen_of_row _ (w.heap.size + 1) 0 _ 33 q2
    have q1 := heap_setCell_same w4 w.heap.size 0 _ 27 (.pointer (some ⟨g, 0, none⟩)) k1
    have f1 : ((w4.setCell ⟨w.heap.size, 0, none⟩ (.pointer (some ⟨g, 0, none⟩))).setCell ⟨w.heap.size + 1, 0, none⟩ (.int .i64 0)).cell? ⟨w.heap.size, 0, none⟩ = some (.pointer (some ⟨g, 0, none⟩)) := by
      rw [cell_of_row _ w.heap.size 0 _ 27 (0, 0) ((Below.heap_setCell _ ⟨w.heap.size + 1, 0, none⟩ (.int .i64 0) w.heap.size (by simp)).trans q1)]
      rfl
    have f2 : ((w4.setCell ⟨w.heap.size, 0, none⟩ (.pointer (some ⟨g, 0, none⟩))).setCell ⟨w.heap.size + 1, 0, none⟩ (.int .i64 0)).cell? ⟨w.heap.size + 1, 0, none⟩ = some (.int .i64 0) := by
      rw [cell_of_row _ (w.heap.size + 1) 0 _ 33 (0, 0) (heap_setCell_same _ (w.heap.size + 1) 0 _ 33 (.int .i64 0) q2)]
      rfl
    clear hb4 h1 h2 h3 hb hB HP hD hG k1 k2 q1 q2
    go_wp2
    refine leaves_cons (f := 33) (args := #[.pointer (some ⟨w.heap.size, 0, none⟩), .pointer (some ⟨w.heap.size + 1, 0, none⟩)]) (by simp) (by simp [go_sem]) ?_
    refine (catch_idle ⟨w.heap.size, 0, none⟩ ⟨w.heap.size + 1, 0, none⟩ _).mono ?_
    rintro e u' w5 ⟨rfl, rfl, e5⟩
    rw [← e5] at f1 f2 R
    clear e5 c1 c2 z1 z2
    simp [Leaves, settle, results, Try.results15, go_sem, f1, f2]
    exact R
theorem decode_c (a : Option Addr) (n c : Nat) (bs : List Int) (w : World) (hB : Bytes w a n bs) (hn : n ≤ c) (h6 : n ≤ 1000000) : Calls Try.prog 15 #[.slice a n c] w (DecSay (decL bs) w) := by
  refine decode_of a n c (decL bs) w ?_
  obtain ⟨h1, h2, h3, hb⟩ := three_new w (.cells #[.pointer none] 27) (.cells #[.int .i64 0] 33) (.cells #[.slice a n c] 57)
  generalize ((w.alloc (.cells #[.pointer none] 27)).alloc (.cells #[.int .i64 0] 33)).alloc (.cells #[.slice a n c] 57) = w3 at *
  have hR : Rdr w3 (w.heap.size + 1 + 1) a n c := h3
  have hB3 : Bytes w3 a n bs := hB.later hb
  by_cases h : n < 2
  · exact dchunk_short _ a n c bs w3 hR hB3 h
  · obtain ⟨b, off, z, rfl, hc, _⟩ := hB.get 0 (by omega)
    have hbl := World.block_lt_of_cell? w _ hc
    exact dchunk_c _ b bs w3 ⟨off, n, c, hR, hB3, hn, by simp at hbl; omega, h6⟩ (by have := hB.n; omega)
end Go.Proofs.Ytdkihhjhjfkjjaa
