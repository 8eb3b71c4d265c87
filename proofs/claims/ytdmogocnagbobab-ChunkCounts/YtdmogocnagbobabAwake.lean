/-
  The chapter's examples, and what a text of bytes is.
-/
import Derived.Test.YtdmogocnagbobabPures
import Derived.Test.YtdmogocnagbobabFroms
import Derived.Lib.Walk
namespace Go.Proofs.Ytdmogocnagbobab
open Go.RowKit

theorem Blk.on {w w' : World} {b : Nat} {t : TypeId} {cs : List Int} (h : Blk w b t cs) (hb : Below w.heap.size w w') : Blk w' b t cs := h.below hb h.lt
theorem B64k.lt {w : World} {b : Nat} {t : TypeId} {l : List Int} (h : B64k w b t l) : b < w.heap.size := (Array.getElem?_eq_some_iff.1 h).1
theorem B64k.below {w w' : World} {b n : Nat} {t : TypeId} {l : List Int} (h : B64k w b t l) (hb : Below n w w') (hn : b < n) : B64k w' b t l := (hb.block b hn).trans h
theorem B64k.only {w w' : World} {b g : Nat} {t : TypeId} {l : List Int} (h : B64k w b t l) (o : Only g w w') (hb : b ≠ g) : B64k w' b t l := (o.block b hb).trans h

set_option maxRecDepth 100000 in
set_option maxHeartbeats 1000000 in
theorem awake_c (w : World) : Calls Try.prog 5 #[] w fun e w' => e = .returned (.bool true) ∧ Below w.heap.size w w' := by
  go_enter Try.func5, Try.ntmps5
  go_wp2_with fail
  refine (full_no 17 (by omega) w).mono ?_
  rintro _ w1 ⟨rfl, hb1⟩
  go_wp2_with fail
  have hS : Src (w1.alloc (.cells #[.int .u8 1] 5)) (some ⟨w1.heap.size, 0, none⟩) 1 [1] := by
    refine ⟨rfl, fun k hk => ⟨w1.heap.size, 0, rfl, by rw [World.size_alloc]; omega, ?_⟩, fun k => ?_⟩
    · obtain rfl : k = 0 := by omega
      rw [cell_of_row _ w1.heap.size (0 + 0) _ 5 (0, 0) (heap_alloc_new w1 _)]
      rfl
    · rcases k with _ | k
      · simp
      · simp
  refine (from_c (some ⟨w1.heap.size, 0, none⟩) 1 1 [1] _ hS (by omega)).mono ?_
  rintro _ w2 ⟨hb2, ⟨hm, _⟩ | ⟨_, rfl⟩⟩
  · exact absurd hm (by decide)
  rw [show mayC [1] = 3 from rfl]
  have HB2 : Below w.heap.size w w2 := (hb1.alloc hb1.size _).trans (hb2.mono (by rw [World.size_alloc]; have := hb1.size; omega))
  clear hb1 hb2 hS
  go_wp2_with fail
  refine (new_c w2).mono ?_
  rintro _ w3 ⟨rfl, e3⟩
  obtain ⟨Z, hZe⟩ : ∃ Z, Z = List.replicate 32768 (0 : Int) := ⟨_, rfl⟩
  rw [← hZe] at e3
  have hB3 : Blk w3 w2.heap.size 51 Z := by rw [e3]; exact Blk.new w2 51 _
  have HB3 : Below w.heap.size w w3 := by rw [e3]; exact HB2.alloc HB2.size _
  have hZ : Z.length = 32768 := by rw [hZe, List.length_replicate]
  have hZ1 : Hid (setC Z 256 3 = ex1) := by show _ = _; rw [(okSet_yes (by omega) Z).2, hZe]; rfl
  have hge : w.heap.size ≤ w2.heap.size := HB2.size
  have hs3 : w3.heap.size = w2.heap.size + 1 := by rw [e3, World.size_alloc]
  clear e3 hZe HB2
  go_wp2_with fail
  refine (set_c _ Z 256 3 _ hB3 hZ).mono ?_
  rw [hZ1.out, show okSet 256 3 = true from rfl]
  rintro _ w4 ⟨rfl, hB4, ho4⟩
  have HB4 : Below w.heap.size w w4 := HB3.trans (ho4.below hge)
  have hs4 : w4.heap.size = w2.heap.size + 1 := by rw [ho4.size, hs3]
  clear hB3 HB3 ho4 hs3 hZ1 hZ
  go_wp2_with fail
  refine (counts_c _ ex1 _ hB4 ex1_length ex1_kinds).mono ?_
  rintro _ w5 ⟨rfl, hN5, hb5⟩
  have hB5 := hB4.below hb5 hB4.lt
  have HB5 : Below w.heap.size w w5 := HB4.trans (hb5.mono (by omega))
  have hs5 := hb5.size
  clear hB4 HB4 hb5
  rw [hs4] at hN5 hs5 ⊢
  go_wp2_with fail
  refine (get_c _ ex1 256 _ hB5 ex1_length ex1_kinds).mono ?_
  rw [ex1_get]
  rintro _ w6 ⟨rfl, hw⟩
  rw [hw]
  clear hw w6
  go_wp2_with fail
  refine (top_c _ ex1 0 0 _ hB5 ex1_length).mono ?_
  rw [ex1_top]
  rintro _ w6 ⟨rfl, hw⟩
  rw [hw]
  clear hw w6
  go_wp2_with fail
  refine (fill_c _ ex1 0 1 1 _ hB5 ex1_length).mono ?_
  rw [show filC ex1 0 1 1 = ex2 from rfl, show okFill 0 1 1 = true from rfl]
  rintro _ w6 ⟨rfl, hB6, ho6⟩
  have hN6 := hN5.only ho6 (by omega)
  have HB6 : Below w.heap.size w w6 := HB5.trans (ho6.below hge)
  have c0 := hN6.cell (k := 0) (by rw [cntTo_length]; omega)
  have c3 := hN6.cell (k := 3) (by rw [cntTo_length]; omega)
  rw [ex1_cnt0] at c0
  rw [ex1_cnt3] at c3
  clear hB5 HB5 ho6 hN5 hN6
  go_wp2_with fail
  refine (top_c _ ex2 5 5 _ hB6 ex2_length).mono ?_
  rw [ex2_top]
  rintro _ w7 ⟨rfl, hw⟩
  rw [hw]
  clear hw w7
  go_wp2
  go_ret
  exact ⟨rfl, HB6⟩

theorem conv_c {w : World} {a : Option Addr} {n cap : Nat} {bs : List Int} (h : Src w a n bs) : (convert 25 9 (.slice a n cap)).run Try.prog w = .ok (.string (strOfNums bs)) w := by
  have hn := h.len
  rcases n with _ | n
  · obtain rfl := List.eq_nil_of_length_eq_zero hn
    cases a with
    | none => exact run_convert_bytes_nil w 25 5 Try.underlying25 Try.underlying5 0 cap 9 Try.underlying9
    | some x =>
      rw [run_convert_bytes_string w 25 9 5 _ 0 cap Try.underlying25 Try.underlying5 Try.underlying9, run_bytesToString w x 0 cap [] (by simpa using run_loadCells_list (P := Try.prog) w x [] (by simp))]
      rfl
  · obtain ⟨b, o, rfl, _, _⟩ := h.cells 0 (by omega)
    exact run_convert_bytes_arg w 25 5 Try.underlying25 Try.underlying5 b o (n + 1) cap bs hn (fun i hi => by
      obtain ⟨b', o', e, _, hc⟩ := h.cells i hi
      cases e
      exact hc) 9 Try.underlying9
end Go.Proofs.Ytdmogocnagbobab
