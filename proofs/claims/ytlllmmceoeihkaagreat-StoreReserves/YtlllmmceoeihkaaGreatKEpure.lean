/-
  The program's Decode: what gives up is caught.
  Places are packed one by one.
-/
import Derived.Test.YtlllmmceoeihkaaGreatKDchunk
import Derived.Recover
import Derived.Test.YtlllmmceoeihkaaGreatSr
import Derived.Laws.BitsAllLaws
namespace Go.Proofs.YtlllmmceoeihkaaGreat.K
open Go.RowKit
theorem regs_c (a b v : Value) : #[a, b] ++ ((Array.replicate 13 undef).setIfInBounds 3 v).setIfInBounds 0 v = #[a, b, v, undef, undef, v, undef, undef, undef, undef, undef, undef, undef, undef, undef] := rfl
theorem catch_panicking (g h : Nat) (E x : Int) (pv : Option Addr) (older : List PanicEntry) (w : World) (hgh : g ≠ h) (hc : w.cell? ⟨g, 0, none⟩ = some (.pointer pv)) (hf : w.frozen? ⟨g, 0, none⟩ = false) (hc2 : w.cell? ⟨h, 0, none⟩ = some (.int .i64 x)) (hf2 : w.frozen? ⟨h, 0, none⟩ = false) :
  CallsD Tryz.prog 83 #[.pointer (some ⟨g, 0, none⟩), .pointer (some ⟨h, 0, none⟩)] (.panicking ({ v := .iface 28 (.int .i64 E), recovered := false } :: older)) w fun e u' w' =>
   e = .returned (.tuple #[]) ∧ u' = .panicking ({ v := .iface 28 (.int .i64 E), recovered := true } :: older) ∧ w' = ((w.setCell ⟨g, 0, none⟩ (.pointer none)).setCell ⟨h, 0, none⟩ (.int .i64 4)).setCell ⟨h, 0, none⟩ (.int .i64 E) := by
 refine callsD_of_wpS Tryz.func83 rfl fun c₀ cs hu => ?_
 apply wpS_seq
 apply wpS_region
 simp [wpOpsS, go_sem, recoverD, hu, Tryz.ntmps83, Exit.thenS]
 refine wpS_of_wp ?_
 rw [regs_c]
 have hne : (⟨h, 0, none⟩ : Addr) ≠ ⟨g, 0, none⟩ := by intro e; cases e; exact hgh rfl
 have hc3 : (w.setCell ⟨g, 0, none⟩ (.pointer none)).cell? ⟨h, 0, none⟩ = some (.int .i64 x) := by rw [World.cell?_setCell_other _ _ _ _ (fun e => hne e.symm)]; exact hc2
 have hta : ∀ w, (Instr.typeAssert (.iface 28 (.int .i64 E)) 20 28 true).run Tryz.prog w = .ok (.tuple #[.int .i64 E, .bool true]) w := fun w => by kernel_rfl
 go_wp2
 refine ⟨rfl, _, rfl, .tuple #[], results_none rfl _ _ _, rfl, rfl, rfl⟩
theorem catch_idle (p r : Addr) (w : World) :
  CallsD Tryz.prog 83 #[.pointer (some p), .pointer (some r)] .returning w fun e u' w' => e = .returned (.tuple #[]) ∧ u' = .returning ∧ w' = w := by
 refine callsD_of_wpS Tryz.func83 rfl fun c₀ cs hu => ?_
 apply wpS_seq
 apply wpS_region
 simp [wpOpsS, go_sem, recoverD, hu, Tryz.ntmps83, Exit.thenS]
 refine wpS_of_wp ?_
 rw [regs_c]
 go_wp2
 refine ⟨rfl, _, rfl, .tuple #[], results_none rfl _ _ _, rfl, hu, rfl⟩
theorem three_new (w : World) (o1 o2 o3 : Obj) : (((w.alloc o1).alloc o2).alloc o3).heap[w.heap.size]? = some o1 ∧ (((w.alloc o1).alloc o2).alloc o3).heap[w.heap.size + 1]? = some o2 ∧ (((w.alloc o1).alloc o2).alloc o3).heap[w.heap.size + 1 + 1]? = some o3 ∧
  Below w.heap.size w (((w.alloc o1).alloc o2).alloc o3) := by
 have h3 := heap_new_two (w.alloc o1) o2 o3
 have h2 := heap_new_one (w.alloc o1) o2 o3
 rw [World.size_alloc] at h2 h3
 have hb : Below w.heap.size w (w.alloc o1) := (Below.refl _ _).alloc (Nat.le_refl _) _
 have hb2 : Below (w.heap.size + 1) (w.alloc o1) ((w.alloc o1).alloc o2) := (Below.refl _ _).alloc (by rw [World.size_alloc]; omega) _
 have hb3 : Below (w.heap.size + 1) (w.alloc o1) (((w.alloc o1).alloc o2).alloc o3) := hb2.alloc (by rw [World.size_alloc, World.size_alloc]; omega) _
 refine ⟨?_, h2, h3, hb.trans (hb3.mono (by omega))⟩
 rw [hb3.block _ (by omega)]
 exact heap_alloc_new w o1
def DecSay (D : Int × List Int) (w : World) (e : Ending) (w' : World) : Prop := Below w.heap.size w w' ∧ ((D.1 = 0 ∧ ∃ g, w.heap.size ≤ g ∧ e = .returned (.tuple #[.pointer (some ⟨g, 0, none⟩), .int .i64 0]) ∧ Blk w' g 122 D.2) ∨ (D.1 ≠ 0 ∧ e = .returned (.tuple #[.pointer none, .int .i64 D.1])))
set_option maxHeartbeats 1000000 in
theorem decode_of (a : Option Addr) (n c : Nat) (D : Int × List Int) (w : World)
  (hc : Calls Tryz.prog 84 #[.pointer (some ⟨w.heap.size + 1 + 1, 0, none⟩)] (((w.alloc (.cells #[.pointer none] 63)).alloc (.cells #[.int .i64 0] 28)).alloc (.cells #[.slice a n c] 157))
   (ChunkSay D (w.heap.size + 1 + 1) (((w.alloc (.cells #[.pointer none] 63)).alloc (.cells #[.int .i64 0] 28)).alloc (.cells #[.slice a n c] 157)))) :
  Calls Tryz.prog 53 #[.slice a n c] w (DecSay D w) := by
 have hmf : ∀ (fn : Fn) (first cap : Array Value) (w : World), (Instr.makeFunc fn first cap).run Tryz.prog w = .ok (.func fn first cap) w := fun _ _ _ _ => rfl
 obtain ⟨Post, hPost⟩ : ∃ Post, Post = DecSay D w := ⟨_, rfl⟩
 rw [← hPost]
 have HP : Hid (Post = DecSay D w) := hPost
 clear hPost
 go_enter_defers Tryz.func53, Tryz.ntmps53
 go_wp2_with fail
 refine hc.mono ?_
 clear hc
 obtain ⟨h1, h2, h3, hb⟩ := three_new w (.cells #[.pointer none] 63) (.cells #[.int .i64 0] 28) (.cells #[.slice a n c] 157)
 generalize ((w.alloc (.cells #[.pointer none] 63)).alloc (.cells #[.int .i64 0] 28)).alloc (.cells #[.slice a n c] 157) = w3 at *
 rintro e w4 ⟨hb4, ⟨hD, rfl⟩ | ⟨hD, g, hg, rfl, hG⟩⟩
 ·have k1 : w4.heap[w.heap.size]? = some (.cells #[.pointer none] 63 (0, 0)) := (hb4.block _ (by omega)).trans h1
  have k2 : w4.heap[w.heap.size + 1]? = some (.cells #[.int .i64 0] 28 (0, 0)) := (hb4.block _ (by omega)).trans h2
  have hB : Below w.heap.size w w4 := hb.trans (hb4.mono (by omega))
  have R : Post (.returned (.tuple #[.pointer none, .int .i64 D.1])) (((w4.setCell ⟨w.heap.size, 0, none⟩ (.pointer none)).setCell ⟨w.heap.size + 1, 0, none⟩ (.int .i64 4)).setCell ⟨w.heap.size + 1, 0, none⟩ (.int .i64 D.1)) := by
   rw [HP.out]
   exact ⟨((hB.setCell (p := ⟨w.heap.size, 0, none⟩) (by simp) _).setCell (p := ⟨w.heap.size + 1, 0, none⟩) (by simp) _).setCell (p := ⟨w.heap.size + 1, 0, none⟩) (by simp) _, Or.inr ⟨hD, rfl⟩⟩
  have c1 : w4.cell? ⟨w.heap.size, 0, none⟩ = some (.pointer none) := by rw [cell_of_row w4 _ 0 _ 63 (0, 0) k1]; rfl
  have c2 : w4.cell? ⟨w.heap.size + 1, 0, none⟩ = some (.int .i64 0) := by rw [cell_of_row w4 _ 0 _ 28 (0, 0) k2]; rfl
  have z1 := frozen_of_row w4 w.heap.size 0 _ 63 k1
  have z2 := frozen_of_row w4 (w.heap.size + 1) 0 _ 28 k2
  clear hb4 h1 h2 h3 hb hB HP hD
  generalize D.1 = E at *
  go_wp2
  refine leaves_cons (f := 83) (args := #[.pointer (some ⟨w.heap.size, 0, none⟩), .pointer (some ⟨w.heap.size + 1, 0, none⟩)]) (by simp) (by simp [go_sem]) ?_
  refine (catch_panicking w.heap.size (w.heap.size + 1) E 0 none [] w4 (by omega) c1 z1 c2 z2).mono ?_
  have f1 : (((w4.setCell ⟨w.heap.size, 0, none⟩ (.pointer none)).setCell ⟨w.heap.size + 1, 0, none⟩ (.int .i64 4)).setCell ⟨w.heap.size + 1, 0, none⟩ (.int .i64 E)).cell? ⟨w.heap.size, 0, none⟩ = some (.pointer none) := by
   have h1 := heap_setCell_same w4 w.heap.size 0 _ 63 (.pointer none) k1
   have h2 := Below.heap_setCell (w4.setCell ⟨w.heap.size, 0, none⟩ (.pointer none)) ⟨w.heap.size + 1, 0, none⟩ (.int .i64 4) w.heap.size (by simp)
   have h3 := Below.heap_setCell ((w4.setCell ⟨w.heap.size, 0, none⟩ (.pointer none)).setCell ⟨w.heap.size + 1, 0, none⟩ (.int .i64 4)) ⟨w.heap.size + 1, 0, none⟩ (.int .i64 E) w.heap.size (by simp)
   rw [cell_of_row _ w.heap.size 0 _ 63 (0, 0) (h3.trans (h2.trans h1))]
   rfl
  have f2 : (((w4.setCell ⟨w.heap.size, 0, none⟩ (.pointer none)).setCell ⟨w.heap.size + 1, 0, none⟩ (.int .i64 4)).setCell ⟨w.heap.size + 1, 0, none⟩ (.int .i64 E)).cell? ⟨w.heap.size + 1, 0, none⟩ = some (.int .i64 E) := by
   have h1 := (Below.heap_setCell w4 ⟨w.heap.size, 0, none⟩ (.pointer none) (w.heap.size + 1) (by simp)).trans k2
   have h2 := heap_setCell_same (w4.setCell ⟨w.heap.size, 0, none⟩ (.pointer none)) (w.heap.size + 1) 0 _ 28 (.int .i64 4) h1
   have h3 := heap_setCell_same _ (w.heap.size + 1) 0 _ 28 (.int .i64 E) h2
   rw [cell_of_row _ (w.heap.size + 1) 0 _ 28 (0, 0) h3]
   rfl
  rintro e u' w5 ⟨rfl, rfl, e5⟩
  rw [← e5] at f1 f2 R
  clear e5 k1 k2 c1 c2 z1 z2
  simp [Leaves, settle, results, Tryz.results53, go_sem, f1, f2]
  exact R
 ·have k1 : w4.heap[w.heap.size]? = some (.cells #[.pointer none] 63 (0, 0)) := (hb4.block _ (by omega)).trans h1
  have k2 : w4.heap[w.heap.size + 1]? = some (.cells #[.int .i64 0] 28 (0, 0)) := (hb4.block _ (by omega)).trans h2
  have hB : Below w.heap.size w w4 := hb.trans (hb4.mono (by omega))
  have R : Post (.returned (.tuple #[.pointer (some ⟨g, 0, none⟩), .int .i64 0])) ((w4.setCell ⟨w.heap.size, 0, none⟩ (.pointer (some ⟨g, 0, none⟩))).setCell ⟨w.heap.size + 1, 0, none⟩ (.int .i64 0)) := by
   rw [HP.out]
   refine ⟨(hB.setCell (p := ⟨w.heap.size, 0, none⟩) (by simp) _).setCell (p := ⟨w.heap.size + 1, 0, none⟩) (by simp) _, Or.inl ⟨hD, g, by omega, rfl, (hG.other (by omega)).other (by omega)⟩⟩
  have c1 : w4.cell? ⟨w.heap.size, 0, none⟩ = some (.pointer none) := by rw [cell_of_row w4 _ 0 _ 63 (0, 0) k1]; rfl
  have z1 := frozen_of_row w4 w.heap.size 0 _ 63 k1
  have q2 : (w4.setCell ⟨w.heap.size, 0, none⟩ (.pointer (some ⟨g, 0, none⟩))).heap[w.heap.size + 1]? = some (.cells #[.int .i64 0] 28 (0, 0)) := (Below.heap_setCell w4 ⟨w.heap.size, 0, none⟩ _ (w.heap.size + 1) (by simp)).trans k2
  have c2 : (w4.setCell ⟨w.heap.size, 0, none⟩ (.pointer (some ⟨g, 0, none⟩))).cell? ⟨w.heap.size + 1, 0, none⟩ = some (.int .i64 0) := by rw [cell_of_row _ _ 0 _ 28 (0, 0) q2]; rfl
  have z2 := frozen_of_row _ (w.heap.size + 1) 0 _ 28 q2
  have q1 := heap_setCell_same w4 w.heap.size 0 _ 63 (.pointer (some ⟨g, 0, none⟩)) k1
  have f1 : ((w4.setCell ⟨w.heap.size, 0, none⟩ (.pointer (some ⟨g, 0, none⟩))).setCell ⟨w.heap.size + 1, 0, none⟩ (.int .i64 0)).cell? ⟨w.heap.size, 0, none⟩ = some (.pointer (some ⟨g, 0, none⟩)) := by
   rw [cell_of_row _ w.heap.size 0 _ 63 (0, 0) ((Below.heap_setCell _ ⟨w.heap.size + 1, 0, none⟩ (.int .i64 0) w.heap.size (by simp)).trans q1)]
   rfl
  have f2 : ((w4.setCell ⟨w.heap.size, 0, none⟩ (.pointer (some ⟨g, 0, none⟩))).setCell ⟨w.heap.size + 1, 0, none⟩ (.int .i64 0)).cell? ⟨w.heap.size + 1, 0, none⟩ = some (.int .i64 0) := by
   rw [cell_of_row _ (w.heap.size + 1) 0 _ 28 (0, 0) (heap_setCell_same _ (w.heap.size + 1) 0 _ 28 (.int .i64 0) q2)]
   rfl
  clear hb4 h1 h2 h3 hb hB HP hD hG k1 k2 q1 q2
  go_wp2
  refine leaves_cons (f := 83) (args := #[.pointer (some ⟨w.heap.size, 0, none⟩), .pointer (some ⟨w.heap.size + 1, 0, none⟩)]) (by simp) (by simp [go_sem]) ?_
  refine (catch_idle ⟨w.heap.size, 0, none⟩ ⟨w.heap.size + 1, 0, none⟩ _).mono ?_
  rintro e u' w5 ⟨rfl, rfl, e5⟩
  rw [← e5] at f1 f2 R
  clear e5 c1 c2 z1 z2
  simp [Leaves, settle, results, Tryz.results53, go_sem, f1, f2]
  exact R
theorem decode_c (a : Option Addr) (n c : Nat) (bs : List Int) (w : World) (hB : Bytes w a n bs) (hn : n ≤ c) (h6 : n ≤ 1000000) : Calls Tryz.prog 53 #[.slice a n c] w (DecSay (decL bs) w) := by
 refine decode_of a n c (decL bs) w ?_
 obtain ⟨h1, h2, h3, hb⟩ := three_new w (.cells #[.pointer none] 63) (.cells #[.int .i64 0] 28) (.cells #[.slice a n c] 157)
 generalize ((w.alloc (.cells #[.pointer none] 63)).alloc (.cells #[.int .i64 0] 28)).alloc (.cells #[.slice a n c] 157) = w3 at *
 have hR : Rdr w3 (w.heap.size + 1 + 1) a n c := h3
 have hB3 : Bytes w3 a n bs := hB.later hb
 by_cases h : n < 2
 ·exact dchunk_short _ a n c bs w3 hR hB3 h
 ·obtain ⟨b, off, z, rfl, hc, _⟩ := hB.get 0 (by omega)
  have hbl := World.block_lt_of_cell? w _ hc
  exact dchunk_c _ b bs w3 ⟨off, n, c, hR, hB3, hn, by simp at hbl; omega, h6⟩ (by have := hB.n; omega)
end Go.Proofs.YtlllmmceoeihkaaGreat.K
namespace Go.Proofs.YtlllmmceoeihkaaGreat.K
open Go.RowKit
theorem undig_snoc (w : Nat) : ∀ (ps : List Int) (p : Int), undig w (ps ++ [p]) = undig w ps + p * 2 ^ (w * ps.length)
 | [], p => by simp [undig]
 | q :: r, p => by
   have ih := undig_snoc w r p
   rw [List.cons_append, undig, undig, ih, List.length_cons, Nat.mul_add, Nat.mul_one, Int.pow_add, Int.mul_add]
   rw [show p * (2 ^ (w * r.length) * 2 ^ w) = 2 ^ w * (p * 2 ^ (w * r.length)) by rw [Int.mul_comm (2 ^ w) (p * _), Int.mul_assoc]]
   omega
theorem grpP_take (l cs : List Int) (m j I : Nat) : grpP l (cs.take I) m j = ((cs.drop (j * m)).take (min m (I - j * m))).map fun c => (plc l c : Int) := by
 unfold grpP
 rw [List.drop_take, List.take_take]
theorem packTo_get (l cs : List Int) (w m : Nat) : ∀ (n j : Nat), j < n → (packTo l cs w m n).getD j 0 = undig w (grpP l cs m j)
 | n + 1, j, h => by
   rw [packTo, List.getD_eq_getElem?_getD]
   by_cases e : j < n
   ·rw [List.getElem?_append_left (by rw [packTo_len]; exact e), ← List.getD_eq_getElem?_getD, packTo_get l cs w m n j e]
   ·obtain rfl : j = n := by omega
    rw [List.getElem?_append_right (by rw [packTo_len]; exact Nat.le_refl _), packTo_len, Nat.sub_self]
    rfl
theorem grp_now (l cs : List Int) (m j I : Nat) (hI : I < cs.length) (h1 : j * m ≤ I) (h2 : I < j * m + m) :
  grpP l (cs.take (I + 1)) m j = grpP l (cs.take I) m j ++ [(plc l cs[I] : Int)] ∧ (grpP l (cs.take I) m j).length = I - j * m := by
 rw [grpP_take, grpP_take, show min m (I + 1 - j * m) = (I - j * m) + 1 by omega, show min m (I - j * m) = I - j * m by omega]
 constructor
 ·rw [List.take_add_one, List.map_append, List.getElem?_drop, show j * m + (I - j * m) = I by omega, List.getElem?_eq_getElem hI]
  rfl
 ·rw [List.length_map, List.length_take, List.length_drop]
  omega
theorem pack_step (l cs : List Int) (w m n I j : Nat) (hI : I < cs.length) (hj : j < n) (h1 : j * m ≤ I) (h2 : I < j * m + m) :
  packTo l (cs.take (I + 1)) w m n = (packTo l (cs.take I) w m n).set j ((packTo l (cs.take I) w m n).getD j 0 + (plc l cs[I] : Int) * 2 ^ (w * (I - j * m))) := by
 refine getD_ext (by rw [List.length_set, packTo_len, packTo_len]) fun i hi => ?_
 rw [packTo_len] at hi
 obtain ⟨g1, g2⟩ := grp_now l cs m j I hI h1 h2
 rw [packTo_get _ _ _ _ _ _ hi]
 by_cases e : i = j
 ·subst e
  rw [List.getD_eq_getElem?_getD (l := List.set _ _ _), List.getElem?_set_self (by rw [packTo_len]; exact hi), Option.getD_some, packTo_get _ _ _ _ _ _ hi, g1, undig_snoc, g2]
 ·rw [List.getD_eq_getElem?_getD, List.getElem?_set_ne (fun h => e h.symm), ← List.getD_eq_getElem?_getD, packTo_get _ _ _ _ _ _ hi, grpP_take, grpP_take]
  have : min m (I + 1 - i * m) = min m (I - i * m) := by
   rcases Nat.lt_or_gt_of_ne e with h | h
   ·have := Nat.mul_le_mul_right m (show i + 1 ≤ j from h)
    rw [Nat.add_mul, Nat.one_mul] at this
    omega
   ·have := Nat.mul_le_mul_right m (show j + 1 ≤ i from h)
    rw [Nat.add_mul, Nat.one_mul] at this
    omega
  rw [this]
theorem byte_now (l cs : List Int) (w m n I j : Nat) (hI : I < cs.length) (hj : j < n) (h1 : j * m ≤ I) (h2 : I < j * m + m) (hm : ∀ x ∈ cs, x ∈ l) (hw : l.length ≤ 2 ^ w) :
  0 ≤ (packTo l (cs.take I) w m n).getD j 0 ∧ (packTo l (cs.take I) w m n).getD j 0 < 2 ^ (w * (I - j * m)) ∧ (plc l cs[I] : Int) < 2 ^ w := by
 obtain ⟨_, g2⟩ := grp_now l cs m j I hI h1 h2
 have hp : ∀ x ∈ cs, (plc l x : Int) < 2 ^ w := fun x hx => by
  have := plc_lt (hm x hx)
  have h3 : plc l x < 2 ^ w := by omega
  exact_mod_cast h3
 rw [packTo_get _ _ _ _ _ _ hj]
 have := undig_fit w (grpP l (cs.take I) m j) (fun p hp' => by
  unfold grpP at hp'
  obtain ⟨x, hx, rfl⟩ := List.mem_map.1 hp'
  exact ⟨Int.natCast_nonneg _, hp x (List.mem_of_mem_take (List.mem_of_mem_drop (List.mem_of_mem_take hx)))⟩)
 rw [g2] at this
 exact ⟨this.1, this.2, hp _ (List.getElem_mem hI)⟩
theorem or8_join (a p : Int) (s : Nat) (h0 : 0 ≤ a) (h1 : a < 2 ^ s) (hp : 0 ≤ p) (hs : a + p * 2 ^ s < 256) : bits .or .u8 a (p * 2 ^ s) = a + p * 2 ^ s := by
 obtain ⟨A, rfl⟩ := Int.eq_ofNat_of_zero_le h0
 obtain ⟨P, rfl⟩ := Int.eq_ofNat_of_zero_le hp
 have e : (P : Int) * 2 ^ s = ((P * 2 ^ s : Nat) : Int) := by simp
 rw [e] at hs ⊢
 have hA : A < 2 ^ s := by exact_mod_cast h1
 rw [u8_or_nat A (P * 2 ^ s) (by omega) (by omega), Nat.or_comm, nat_join s (P * 2 ^ s) A (Nat.mul_mod_left _ _) hA]
 omega
theorem byte_fit {a p : Int} {w m r : Nat} (h8 : w * m = 8) (h1 : a < 2 ^ (w * r)) (hp : p < 2 ^ w) (hr : r < m) : a + p * 2 ^ (w * r) < 256 := by
 have hk : w * (r + 1) ≤ 8 := by rw [← h8]; exact Nat.mul_le_mul_left w hr
 have h2 : (2 : Int) ^ (w * (r + 1)) ≤ 256 := by
  have h : (2 : Nat) ^ (w * (r + 1)) ≤ 256 := Nat.pow_le_pow_right (n := 2) (by omega) hk
  have h' := Int.ofNat_le.2 h
  rw [Int.natCast_pow] at h'
  exact h'
 rw [Nat.mul_add, Nat.mul_one, Int.pow_add] at h2
 have hpos : (0 : Int) < 2 ^ (w * r) := Int.pow_pos (by omega)
 have h3 : (p + 1) * 2 ^ (w * r) ≤ 2 ^ w * 2 ^ (w * r) := Int.mul_le_mul_of_nonneg_right (by omega) (Int.le_of_lt hpos)
 rw [Int.add_mul, Int.one_mul] at h3
 rw [Int.mul_comm (2 ^ (w * r)) (2 ^ w)] at h2
 omega
theorem packTo_zero (l cs : List Int) (w m n : Nat) : packTo l (cs.take 0) w m n = List.replicate n 0 := by
 refine getD_ext (by rw [packTo_len, List.length_replicate]) fun i hi => ?_
 rw [packTo_len] at hi
 rw [packTo_get _ _ _ _ _ _ hi, List.take_zero]
 unfold grpP
 rw [List.drop_nil, List.take_nil, List.map_nil, List.getD_eq_getElem?_getD, List.getElem?_replicate, if_pos hi]
 rfl
end Go.Proofs.YtlllmmceoeihkaaGreat.K
