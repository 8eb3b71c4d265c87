/-
  The program's disk: what its memory holds; New, On, Writes, Cut, Up, known.
-/
import Derived.Test.YtdjhlpllffakpaaPkeys
set_option maxRecDepth 20000
namespace Go.Proofs.Ytdjhlpllffakpaa
open Go.RowKit Go.Maps

/-- The program's count of writes till the power goes out. -/
def St.lf (S : St) : Int := if S.armed then S.left else 0
/-- The two maps: none yet, or each in a block of its own. -/
def PMaps (F : Nat → Prop) (w : World) (g : Nat) (S : St) (mb ml : Option Nat) : Prop :=
  (mb = none ∧ ml = none ∧ S.l = []) ∨ ∃ b l Db Dl, mb = some b ∧ ml = some l ∧ w.ownsMap Try.prog 90 blkElem b (2 * S.writes).toNat Db ∧ w.ownsMap Try.prog 29 (plainElem Try.prog 3) l (2 * S.writes).toNat Dl ∧ Holds2 S.l Db Dl ∧ F b ∧ F l ∧ b ≠ g ∧ l ≠ g ∧ b ≠ l
/-- The program's disk in memory; all of it within F. -/
structure PD (F : Nat → Prop) (w : World) (g : Nat) (S : St) (mb ml : Option Nat) : Prop where
  head : w.heap[g]? = some (.cells #[.map mb, .map ml, .int .i64 S.writes, .int .i64 S.lf, .bool S.out] 66 (0, 0))
  maps : PMaps F w g S mb ml
  inF : F g
  ok : Good S.l
  fit : ∀ b ∈ S.l, ∀ z ∈ b.b, 0 ≤ z ∧ z ≤ 255
  fil : ∀ b ∈ S.l, I64F b.f
  arm : S.armed = true → S.out = false → 1 ≤ S.left
  bds : -9223372036854775808 ≤ S.left ∧ S.left ≤ 9223372036854775807 ∧ 0 ≤ S.writes ∧ S.writes ≤ 1000000
/-- A disk. -/
def PDisk (F : Nat → Prop) (w : World) (g : Nat) (S : St) : Prop := ∃ mb ml, PD F w g S mb ml

theorem ownsMap_same {k : TypeId} {R : Value → Option (DataW Unit × List MemPlace)} {w w' : World} {b n : Nat} {D : DataW Unit} (h : w.ownsMap Try.prog k R b n D) (e : w'.heap[b]? = w.heap[b]?) : w'.ownsMap Try.prog k R b n D := by
  obtain ⟨es, clock, hb, r⟩ := h
  exact ⟨es, clock, e.trans hb, r⟩
/-- Nothing of the disk is another one. -/
theorem PMaps.keep {F : Nat → Prop} {w w' : World} {g : Nat} {S : St} {mb ml : Option Nat} (h : PMaps F w g S mb ml) (he : ∀ k, F k → k ≠ g → w'.heap[k]? = w.heap[k]?) : PMaps F w' g S mb ml := by
  rcases h with h | ⟨b, l, Db, Dl, h1, h2, h3, h4, h5, h6, h7, h8, h9, h10⟩
  · exact Or.inl h
  · exact Or.inr ⟨b, l, Db, Dl, h1, h2, ownsMap_same h3 (he b h6 h8), ownsMap_same h4 (he l h7 h9), h5, h6, h7, h8, h9, h10⟩
theorem PMaps.more {F F' : Nat → Prop} {w : World} {g : Nat} {S : St} {mb ml : Option Nat} (h : PMaps F w g S mb ml) (hF : ∀ k, F k → F' k) : PMaps F' w g S mb ml := by
  rcases h with h | ⟨b, l, Db, Dl, h1, h2, h3, h4, h5, h6, h7, h8⟩
  · exact Or.inl h
  · exact Or.inr ⟨b, l, Db, Dl, h1, h2, h3, h4, h5, hF _ h6, hF _ h7, h8⟩
theorem PD.keep {F : Nat → Prop} {w w' : World} {g : Nat} {S : St} {mb ml : Option Nat} (h : PD F w g S mb ml) (he : ∀ k, F k → w'.heap[k]? = w.heap[k]?) : PD F w' g S mb ml :=
  ⟨(he g h.inF).trans h.head, h.maps.keep (fun k hk _ => he k hk), h.inF, h.ok, h.fit, h.fil, h.arm, h.bds⟩
theorem PDisk.keep {F : Nat → Prop} {w w' : World} {g : Nat} {S : St} (h : PDisk F w g S) (he : ∀ k, F k → w'.heap[k]? = w.heap[k]?) : PDisk F w' g S := by
  obtain ⟨mb, ml, h⟩ := h
  exact ⟨mb, ml, h.keep he⟩
theorem PD.more {F F' : Nat → Prop} {w : World} {g : Nat} {S : St} {mb ml : Option Nat} (h : PD F w g S mb ml) (hF : ∀ k, F k → F' k) : PD F' w g S mb ml :=
  ⟨h.head, h.maps.more hF, hF _ h.inF, h.ok, h.fit, h.fil, h.arm, h.bds⟩
theorem PDisk.more {F F' : Nat → Prop} {w : World} {g : Nat} {S : St} (h : PDisk F w g S) (hF : ∀ k, F k → F' k) : PDisk F' w g S := by
  obtain ⟨mb, ml, h⟩ := h
  exact ⟨mb, ml, h.more hF⟩
theorem PD.glt {F : Nat → Prop} {w : World} {g : Nat} {S : St} {mb ml : Option Nat} (h : PD F w g S mb ml) : g < w.heap.size := (Array.getElem?_eq_some_iff.1 h.head).1
/-- What was there is as it was: so is the disk. -/
theorem PD.inside {F : Nat → Prop} {w w' : World} {g : Nat} {S : St} {mb ml : Option Nat} (h : PD F w g S mb ml) (hb : Below w.heap.size w w') : PD F w' g S mb ml := by
  refine ⟨(hb.block g h.glt).trans h.head, ?_, h.inF, h.ok, h.fit, h.fil, h.arm, h.bds⟩
  rcases h.maps with h | ⟨b, l, Db, Dl, h1, h2, h3, h4, h5⟩
  · exact Or.inl h
  · exact Or.inr ⟨b, l, Db, Dl, h1, h2, ownsMap_same h3 (hb.block b h3.lt), ownsMap_same h4 (hb.block l h4.lt), h5⟩
theorem PD.cells {F : Nat → Prop} {w : World} {g : Nat} {S : St} {mb ml : Option Nat} (h : PD F w g S mb ml) : w.cell? ⟨g, 0, none⟩ = some (.map mb) ∧ w.cell? ⟨g, 1, none⟩ = some (.map ml) ∧ w.cell? ⟨g, 2, none⟩ = some (.int .i64 S.writes) ∧ w.cell? ⟨g, 3, none⟩ = some (.int .i64 S.lf) ∧ w.cell? ⟨g, 4, none⟩ = some (.bool S.out) := by
  refine ⟨?_, ?_, ?_, ?_, ?_⟩
  · rw [cell_of_row w g 0 _ 66 (0, 0) h.head]; rfl
  · rw [cell_of_row w g 1 _ 66 (0, 0) h.head]; rfl
  · rw [cell_of_row w g 2 _ 66 (0, 0) h.head]; rfl
  · rw [cell_of_row w g 3 _ 66 (0, 0) h.head]; rfl
  · rw [cell_of_row w g 4 _ 66 (0, 0) h.head]; rfl
/-- Just the head is another one. -/
theorem PD.reset {F : Nat → Prop} {w w' : World} {g : Nat} {S : St} {mb ml : Option Nat} (h : PD F w g S mb ml) (hO : Only g w w') {o m : Bool} {l : Int}
    (hh : w'.heap[g]? = some (.cells #[.map mb, .map ml, .int .i64 S.writes, .int .i64 (if m then l else 0), .bool o] 66 (0, 0))) (harm : m = true → o = false → 1 ≤ l) (hb : -9223372036854775808 ≤ l ∧ l ≤ 9223372036854775807) : PD F w' g ⟨S.l, o, m, l, S.writes⟩ mb ml := by
  refine ⟨hh, ?_, h.inF, h.ok, h.fit, h.fil, harm, ⟨hb.1, hb.2, h.bds.2.2⟩⟩
  exact h.maps.keep (fun k _ hk => hO.block k hk)

theorem new_c (w : World) : Calls Try.prog 12 #[] w fun e w' => (∃ g F, e = .returned (.pointer (some ⟨g, 0, none⟩)) ∧ PDisk F w' g St.new ∧ (∀ k, F k → w.heap.size ≤ k) ∧ ∀ k, F k → k < w'.heap.size) ∧ Below w.heap.size w w' := by
  go_enter Try.func12, Try.ntmps12
  go_wp2
  go_ret
  refine ⟨⟨w.heap.size, fun k => k = w.heap.size, rfl, ⟨none, none, heap_alloc_new w _, Or.inl ⟨rfl, rfl, rfl⟩, rfl, fun b hb => absurd hb (by simp [St.new]), fun b hb => absurd hb (by simp [St.new]), fun b hb => absurd hb (by simp [St.new]), fun h => (by cases h), by decide⟩, fun k hk => Nat.le_of_eq hk.symm, fun k hk => by rw [World.size_alloc]; omega⟩, (Below.refl _ _).alloc (Nat.le_refl _) _⟩
theorem known_c (i : Int) (w : World) : Calls Try.prog 26 #[.int .i64 i] w fun e w' => e = .returned (.bool (decide (0 ≤ i ∧ i < 4096))) ∧ w' = w := by
  go_enter Try.func26, Try.ntmps26
  by_cases h0 : 0 ≤ i
  · by_cases h1 : i < 4096
    · go_wp2
      go_ret
      exact ⟨ret_bool (by simp [h0, h1]), rfl⟩
    · go_wp2
      go_ret
      exact ⟨ret_bool (by simp [h1]), rfl⟩
  · go_wp2
    go_ret
    exact ⟨ret_bool (by simp; omega), rfl⟩
theorem on_c (F : Nat → Prop) (g : Nat) (S : St) (w : World) (hD : PDisk F w g S) : Calls Try.prog 27 #[.pointer (some ⟨g, 0, none⟩)] w fun e w' => e = .returned (.bool (!S.out)) ∧ w' = w := by
  obtain ⟨mb, ml, hD⟩ := hD
  obtain ⟨_, _, _, _, c4⟩ := hD.cells
  clear hD
  go_enter Try.func27, Try.ntmps27
  go_wp2
  go_ret
  exact ⟨rfl, rfl⟩
theorem cut_c (F : Nat → Prop) (g : Nat) (S : St) (n : Int) (hn : -9223372036854775808 ≤ n ∧ n ≤ 9223372036854775807) (w : World) (hD : PDisk F w g S) : Calls Try.prog 16 #[.pointer (some ⟨g, 0, none⟩), .int .i64 n] w fun e w' => e = .returned (.tuple #[]) ∧ PDisk F w' g (S.cut n) ∧ Only g w w' := by
  obtain ⟨mb, ml, hD⟩ := hD
  obtain ⟨c0, c1, c2, c3, c4⟩ := hD.cells
  have f3 : w.frozen? ⟨g, 3, none⟩ = false := frozen_of_row w g 3 _ 66 hD.head
  have h3 := heap_setCell_same w g 3 _ 66 (.int .i64 n) hD.head
  have f4 : (w.setCell ⟨g, 3, none⟩ (.int .i64 n)).frozen? ⟨g, 4, none⟩ = false := frozen_of_row _ g 4 _ 66 h3
  have h4 := heap_setCell_same _ g 4 _ 66 (.bool true) h3
  have HO3 : Hid (Only g w (w.setCell ⟨g, 3, none⟩ (.int .i64 n))) := (Only.refl g w).set 3 _
  have HO4 : Hid (Only g w ((w.setCell ⟨g, 3, none⟩ (.int .i64 n)).setCell ⟨g, 4, none⟩ (.bool true))) := ((Only.refl g w).set 3 _).set 4 _
  by_cases hlt : n < 1
  · have HR : Hid (PDisk F ((w.setCell ⟨g, 3, none⟩ (.int .i64 n)).setCell ⟨g, 4, none⟩ (.bool true)) g (S.cut n)) := ⟨mb, ml, by
      have e : S.cut n = ⟨S.l, true, true, n, S.writes⟩ := by unfold St.cut; simp [hlt]
      rw [e]
      exact hD.reset HO4.out (o := true) (m := true) (l := n) h4 (fun _ h => by cases h) hn⟩
    clear hD h3 h4
    go_enter Try.func16, Try.ntmps16
    go_wp2
    go_end0
    exact ⟨rfl, HR.out, HO4.out⟩
  · have HR : Hid (PDisk F (w.setCell ⟨g, 3, none⟩ (.int .i64 n)) g (S.cut n)) := ⟨mb, ml, by
      have e : S.cut n = ⟨S.l, S.out, true, n, S.writes⟩ := by unfold St.cut; simp [hlt]
      rw [e]
      exact hD.reset HO3.out (o := S.out) (m := true) (l := n) h3 (fun _ _ => by omega) hn⟩
    clear hD h3 h4
    go_enter Try.func16, Try.ntmps16
    go_wp2
    go_end0
    exact ⟨rfl, HR.out, HO3.out⟩
end Go.Proofs.Ytdjhlpllffakpaa
