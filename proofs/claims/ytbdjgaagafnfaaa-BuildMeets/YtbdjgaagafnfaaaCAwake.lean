/-
  Bytes, Counts, From, Full and Copy of the program.
  From of the program, and what the statements make of it.
  The chapter's examples, and what a text of bytes is.
-/
import Derived.Test.YtbdjgaagafnfaaaCChunks
import Derived.Test.YtbdjgaagafnfaaaCLays
import Derived.Test.YtbdjgaagafnfaaaCPures
import Derived.Lib.Walk
namespace Go.Proofs.Ytbdjgaagafnfaaa.C
section
open Go.RowKit

set_option maxRecDepth 100000 in
theorem bytes_c (g : Nat) (cs : List Int) (w : World) (hB : Blk w g 74 cs) (hl : cs.length = 32768) :
    Calls Try.prog 14 #[.pointer (some ⟨g, 0, none⟩)] w fun e w' => e = .returned (.slice (some ⟨w.heap.size, 0, none⟩) 32768 32768) ∧ Blk w' w.heap.size 5 cs ∧ Below w.heap.size w w' := by
  have hmk := make_bytes
  obtain ⟨Z, hZe⟩ : ∃ Z, Z = List.replicate 32768 (0 : Int) := ⟨_, rfl⟩
  have hZ : Z.length = 32768 := by rw [hZe, List.length_replicate]
  rw [← hZe] at hmk
  clear hZe
  have hS : Blk (w.alloc (.cells (vals Z) 5)) g 74 cs := hB.below ((Below.refl _ _).alloc (Nat.le_refl _) _) hB.lt
  have hD := Blk.new w 5 Z
  have hcp := copy_row hS hD hl hZ
  have R1 : Blk ((w.alloc (.cells (vals Z) 5)).setRow w.heap.size (vals cs)) w.heap.size 5 cs := hD.copied
  have R2 : Below w.heap.size w ((w.alloc (.cells (vals Z) 5)).setRow w.heap.size (vals cs)) := ((Below.refl _ w).alloc (Nat.le_refl _) _).trans ((setRow_only _ _ _).below (Nat.le_refl _))
  clear hS hD
  go_enter Try.func14, Try.ntmps14
  go_wp2_with fail
  refine (all_c g _).mono ?_
  rintro _ _ ⟨rfl, rfl⟩
  go_wp2_with fail
  refine (all_c g _).mono ?_
  rintro _ _ ⟨rfl, rfl⟩
  go_wp2
  go_ret
  exact ⟨rfl, R1, R2⟩

set_option maxRecDepth 100000 in
theorem counts_c (g : Nat) (cs : List Int) (w : World) (hB : Blk w g 74 cs) (hl : cs.length = 32768) (hk : Kinds cs) :
    Calls Try.prog 21 #[.pointer (some ⟨g, 0, none⟩)] w fun e w' => e = .returned (.slice (some ⟨w.heap.size, 0, none⟩) 17 17) ∧ B64k w' w.heap.size 3 (cntTo cs 32768) ∧ Below w.heap.size w w' := by
  have hmk := make17
  have hb := B64k.new w 3 (cntTo cs 0)
  have hg := hB.lt
  rw [show List.replicate 17 (0 : Int) = cntTo cs 0 from rfl] at hmk
  generalize hL : cntTo cs 0 = L at hmk hb
  go_enter Try.func21, Try.ntmps21
  go_wp2_with fail
  refine (all_c g _).mono ?_
  rintro _ w1 ⟨rfl, hw⟩
  rw [hw]
  clear hw w1
  go_wp2
  subst hL
  go_loopw [10] (fun i wr => ∃ n : Nat, n ≤ 32768 ∧ i = .int .i64 n ∧ B64k wr w.heap.size 3 (cntTo cs n) ∧ Below w.heap.size w wr) (fun i _ => 32768 - (intOf i).toNat)
  case atStart => exact ⟨0, Nat.zero_le _, rfl, hb, (Below.refl _ _).alloc (Nat.le_refl _) _⟩
  case round =>
    obtain ⟨n, hn, rfl, hC, hb1⟩ := hrel
    by_cases hlt : n < 32768
    · have hc : wr.cell? ⟨g, n, none⟩ = some (.int .u8 (cs.getD n 0)) := (hB.below hb1 hg).cell (by omega)
      obtain ⟨v0, v1⟩ := hk.at n
      obtain ⟨V, hV⟩ := Int.eq_ofNat_of_zero_le v0
      have hV17 : V < 17 := by omega
      have hd := hC.cell (k := V) (by rw [cntTo_length]; exact hV17)
      have hf := hC.free V
      obtain ⟨c0, c1⟩ := cntTo_at cs n V hV17
      have R1 : B64k (wr.setCell ⟨w.heap.size, V, none⟩ (.int .i64 ((cntTo cs n).getD V 0 + 1))) w.heap.size 3 (cntTo cs (n + 1)) := by
        have := hC.set V ((cntTo cs n).getD V 0 + 1)
        rw [show cntTo cs (n + 1) = (cntTo cs n).set (cs.getD n 0).toNat ((cntTo cs n).getD (cs.getD n 0).toNat 0 + 1) from rfl, hV, Int.toNat_natCast]
        exact this
      have R2 : Below w.heap.size w (wr.setCell ⟨w.heap.size, V, none⟩ (.int .i64 ((cntTo cs n).getD V 0 + 1))) := hb1.setCell (p := ⟨w.heap.size, V, none⟩) (Nat.le_refl _) _
      rw [hV] at hc
      have hlt' : (n : Int) < 32768 := by omega
      have hg' : ¬ g = w.heap.size := by omega
      generalize (cntTo cs n).getD V 0 = c at *
      clear hC hb1 hV v0 v1
      go_wp2
      go_roundw
      case rel => exact ⟨n + 1, by omega, by go_num, R1, R2⟩
      case measure => simp [intOf]; omega
    · obtain rfl : n = 32768 := by omega
      go_wp2
      go_ret
      exact ⟨rfl, hC, hb1⟩

theorem size74 : (Try.prog.info? 74).map (·.size) = some 32768 := by kernel_rfl
theorem Blk.range {w : World} {g : Nat} {t : TypeId} {cs : List Int} (h : Blk w g t cs) : w.rangeAt g 0 (cs.map (Value.int .u8)) := fun j v hv => by
  rw [Nat.zero_add, cell_of_row w g j _ t (0, 0) h]
  simpa [vals] using hv
theorem vals_one (cs : List Int) : (vals cs).all (·.oneCell') = true := by
  unfold vals
  exact all_oneCell_toArray fun v hv => by obtain ⟨x, _, rfl⟩ := List.mem_map.1 hv; rfl
theorem copy_c (g : Nat) (cs : List Int) (w : World) (hB : Blk w g 74 cs) (hl : cs.length = 32768) :
    Calls Try.prog 23 #[.pointer (some ⟨g, 0, none⟩)] w fun e w' => e = .returned (.pointer (some ⟨w.heap.size, 0, none⟩)) ∧ w' = w.alloc (.cells (vals cs) 74) := by
  have hz := zero74
  have hr := hB.range
  have hlen : (Try.prog.info? 74).map (·.size) = some (cs.map (Value.int .u8)).length := by rw [size74, List.length_map, hl]
  have hst : (storeCells ⟨w.heap.size, 0, none⟩ (cs.map (Value.int .u8)) 0).run Try.prog (w.alloc (.cells (vals (List.replicate 32768 0)) 74)) = .ok () (w.alloc (.cells (vals cs) 74)) :=
    run_storeCells_new w 74 _ (vals cs) (by rw [size74, vals_size, hl]) (by rw [vals_size, vals_size, List.length_replicate, hl]) (vals_one cs)
  have hv : (cs.map (Value.int .u8)).toArray = vals cs := rfl
  have hL : (cs.map (Value.int .u8)).length = 32768 := by rw [List.length_map, hl]
  generalize hV : vals (List.replicate 32768 0) = V at hz hst
  have hs : V.size = 32768 := by rw [← hV, vals_size, List.length_replicate]
  clear hV hB
  generalize cs.map (Value.int .u8) = L at *
  generalize vals cs = C at *
  subst hv
  go_enter Try.func23, Try.ntmps23
  go_wp2_with (refine wpList_load_mid rfl 74 _ rfl g 0 rfl L _ hr Try.underlying74 rfl hlen ?_)
  go_ret
  exact ⟨rfl, rfl⟩
end
section
open Go.RowKit

/-- Bytes in a slice, wherever it lies. -/
structure Src (w : World) (a : Option Addr) (n : Nat) (bs : List Int) : Prop where
  len : bs.length = n
  cells : ∀ k, k < n → ∃ b o, a = some ⟨b, o, none⟩ ∧ b < w.heap.size ∧ w.cell? ⟨b, o + k, none⟩ = some (.int .u8 (bs.getD k 0))
  byte : ∀ k, 0 ≤ bs.getD k 0 ∧ bs.getD k 0 ≤ 255
theorem Src.on {w w' : World} {a : Option Addr} {n B : Nat} {bs : List Int} (h : Src w a n bs) (hb : Below B w w') (hB : w.heap.size ≤ B) : Src w' a n bs :=
  ⟨h.len, fun k hk => by
    obtain ⟨b, o, e, hlt, hc⟩ := h.cells k hk
    exact ⟨b, o, e, Nat.lt_of_lt_of_le hlt hb.size, (hb.cell (p := ⟨b, o + k, none⟩) (Nat.lt_of_lt_of_le hlt hB)).trans hc⟩, h.byte⟩
theorem Kinds.bytes {cs : List Int} (h : Kinds cs) (k : Nat) : 0 ≤ cs.getD k 0 ∧ cs.getD k 0 ≤ 255 := by
  have := h.at k
  omega
theorem Blk.src {w : World} {g : Nat} {t : TypeId} {cs : List Int} (h : Blk w g t cs) (hk : Kinds cs) : Src w (some ⟨g, 0, none⟩) cs.length cs :=
  ⟨rfl, fun k hk' => ⟨g, 0, rfl, h.lt, by rw [Nat.zero_add]; exact h.cell hk'⟩, hk.bytes⟩
theorem copy_src {w : World} {h b o cap : Nat} {t' : TypeId} {bs zs : List Int} (hS : ∀ k, k < 32768 → w.cell? ⟨b, o + k, none⟩ = some (.int .u8 (bs.getD k 0))) (hD : Blk w h t' zs) (lc : bs.length = 32768) (lz : zs.length = 32768) :
    (Builtin.copy_ #[37, 37] 3 #[.slice (some ⟨h, 0, none⟩) 32768 32768, .slice (some ⟨b, o, none⟩) 32768 cap]).run Try.prog w = .ok (.int .i64 32768) (w.setRow h (vals bs)) := by
  have := run_copy_row (P := Try.prog) w 37 37 3 5 h 0 32768 32768 ⟨b, o, none⟩ 32768 cap (vals zs) t' (bs.map (Value.int .u8)) Try.underlying37 size5 hD (by rw [List.length_map, lc]; rfl)
    (fun j v hv => by
      have hj : j < 32768 := by rw [← lc]; simpa using (List.getElem?_eq_some_iff.1 hv).1
      rw [Addr.add_mid, hS j hj]
      rw [← hv, List.getElem?_map, List.getElem?_eq_getElem (by omega), List.getD_eq_getElem?_getD, List.getElem?_eq_getElem (by omega)]
      rfl) (by rw [List.length_map, vals_size]; omega) (by intro v hv; obtain ⟨x, _, rfl⟩ := List.mem_map.1 hv; rfl)
  rw [this, List.length_map, lc]
  have e : ((vals zs).toList.take 0 ++ bs.map (Value.int .u8) ++ (vals zs).toList.drop (0 + 32768)).toArray = vals bs := by
    rw [List.drop_eq_nil_of_le (by rw [Array.length_toList, vals_size]; omega), List.take_zero, List.nil_append, List.append_nil]
    rfl
  rw [e]
  rfl

set_option maxRecDepth 100000 in
set_option maxHeartbeats 800000 in
theorem from_c (a : Option Addr) (n cap : Nat) (bs : List Int) (w : World) (hS : Src w a n bs) (hn : n ≤ 140737488355328) :
    Calls Try.prog 13 #[.slice a n cap] w fun e w' => Below w.heap.size w w' ∧ ((mayC bs = 0 ∧ e = .returned (.tuple #[.pointer (some ⟨w.heap.size, 0, none⟩), .int .i64 0]) ∧ Blk w' w.heap.size 74 bs) ∨ (mayC bs ≠ 0 ∧ e = .returned (.tuple #[.pointer none, .int .i64 (mayC bs)]))) := by
  obtain ⟨M, hM⟩ : ∃ M, M = mayC bs := ⟨_, rfl⟩
  rw [← hM]
  unfold mayC at hM
  have hl := hS.len
  rw [hl] at hM
  by_cases h1 : n < 32768
  · rw [if_pos h1] at hM
    subst hM
    have h1' : (n : Int) < 32768 := by omega
    go_enter Try.func13, Try.ntmps13
    go_wp2
    go_ret2
    exact ⟨Below.refl _ _, Or.inr ⟨by decide, rfl⟩⟩
  · rw [if_neg h1] at hM
    by_cases h2 : 32768 < n
    · rw [if_pos h2] at hM
      subst hM
      have h1' : ¬ (n : Int) < 32768 := by omega
      have h2' : (32768 : Int) < n := by omega
      go_enter Try.func13, Try.ntmps13
      go_wp2
      go_ret2
      first | exact ⟨Below.refl _ _, Or.inr ⟨by decide, rfl⟩⟩ | exact ⟨Below.refl _ _, rfl⟩
    · obtain rfl : n = 32768 := by omega
      rw [if_neg h2] at hM
      clear h1 h2 hn
      have HR : Hid (M = if badTo bs 32768 = true then 10 else 0) := hM
      clear hM
      obtain ⟨Z, hZe⟩ : ∃ Z, Z = List.replicate 32768 (0 : Int) := ⟨_, rfl⟩
      have hZ : Z.length = 32768 := by rw [hZe, List.length_replicate]
      have hnew := new_c w
      rw [← hZe] at hnew
      clear hZe
      have Hnew : Hid (Calls Try.prog 9 #[] w fun e w' => e = .returned (.pointer (some ⟨w.heap.size, 0, none⟩)) ∧ w' = w.alloc (.cells (vals Z) 74)) := hnew
      clear hnew
      have hc := hS.cells
      have hu := hS.byte
      go_enter Try.func13, Try.ntmps13
      go_wp2
      go_loop [15] (fun i => ∃ k : Nat, k ≤ 32768 ∧ i = .int .i64 k ∧ Hid (badTo bs k = false)) (fun i => 32768 - (intOf i).toNat)
      case atStart => exact ⟨0, Nat.zero_le _, rfl, rfl⟩
      case round =>
        obtain ⟨k, hk, rfl, HB⟩ := hrel
        by_cases hlt : k < 32768
        · obtain ⟨b, o, rfl, _, hcell⟩ := hc k hlt
          obtain ⟨u0, u1⟩ := hu k
          have hlt' : (k : Int) < 32768 := by omega
          have HS : Hid (badTo bs (k + 1) = decide (16 < bs.getD k 0)) := by show (badTo bs k || _) = _; rw [HB.out]; rfl
          have HX : Hid (16 < bs.getD k 0 → badTo bs 32768 = true) := fun hx => badTo_mono bs (n := k + 1) (by omega) (by rw [HS.out]; exact decide_eq_true hx)
          generalize bs.getD k 0 = v at *
          have hq := isKind_c v w
          by_cases hv : 16 < v
          · have e : M = 10 := by rw [HR.out, if_pos (HX.out hv)]
            subst e
            rw [decide_eq_false (by omega)] at hq
            clear HR HX HS HB hc hu Hnew
            go_wp2_with fail
            refine hq.mono ?_
            clear hq
            rintro _ w1 ⟨rfl, hw⟩
            rw [hw]
            clear hw w1
            go_wp2
            go_ret2
            exact ⟨Below.refl _ _, Or.inr ⟨by decide, rfl⟩⟩
          · have H1 : Hid (badTo bs (k + 1) = false) := by show _ = _; rw [HS.out]; exact decide_eq_false hv
            rw [decide_eq_true (by omega)] at hq
            clear HX HS HB hc hu
            go_wp2_with fail
            refine hq.mono ?_
            clear hq
            rintro _ w1 ⟨rfl, hw⟩
            rw [hw]
            clear hw w1
            go_wp2
            go_round
            case rel => exact ⟨k + 1, by omega, by go_num, H1⟩
            case measure => simp [intOf]; omega
        · obtain rfl : k = 32768 := by omega
          have e : M = 0 := by rw [HR.out, HB.out]; rfl
          subst e
          obtain ⟨b, o, rfl, hbw, _⟩ := hc 0 (by omega)
          have hS' : ∀ k, k < 32768 → (w.alloc (.cells (vals Z) 74)).cell? ⟨b, o + k, none⟩ = some (.int .u8 (bs.getD k 0)) := fun k hk => by
            obtain ⟨b', o', e', _, hcell⟩ := hc k hk
            cases e'
            exact (((Below.refl w.heap.size w).alloc (Nat.le_refl _) _).cell (p := ⟨b, o + k, none⟩) hbw).trans hcell
          have hD := Blk.new w 74 Z
          have hcp := copy_src (cap := cap) hS' hD hl hZ
          have R1 : Blk ((w.alloc (.cells (vals Z) 74)).setRow w.heap.size (vals bs)) w.heap.size 74 bs := hD.copied
          have R2 : Below w.heap.size w ((w.alloc (.cells (vals Z) 74)).setRow w.heap.size (vals bs)) := ((Below.refl _ w).alloc (Nat.le_refl _) _).trans ((setRow_only _ _ _).below (Nat.le_refl _))
          clear HR HB hc hu hS' hD
          go_wp2_with fail
          have hnew := Hnew.out
          refine hnew.mono ?_
          clear Hnew hnew
          rintro _ _ ⟨rfl, rfl⟩
          go_wp2
          go_ret2
          exact ⟨R2, rfl, R1⟩
end
section
open Go.RowKit

theorem Blk.on {w w' : World} {b : Nat} {t : TypeId} {cs : List Int} (h : Blk w b t cs) (hb : Below w.heap.size w w') : Blk w' b t cs := h.below hb h.lt
theorem B64k.lt {w : World} {b : Nat} {t : TypeId} {l : List Int} (h : B64k w b t l) : b < w.heap.size := (Array.getElem?_eq_some_iff.1 h).1
theorem B64k.below {w w' : World} {b n : Nat} {t : TypeId} {l : List Int} (h : B64k w b t l) (hb : Below n w w') (hn : b < n) : B64k w' b t l := (hb.block b hn).trans h
theorem B64k.only {w w' : World} {b g : Nat} {t : TypeId} {l : List Int} (h : B64k w b t l) (o : Only g w w') (hb : b ≠ g) : B64k w' b t l := (o.block b hb).trans h

theorem conv_c {w : World} {a : Option Addr} {n cap : Nat} {bs : List Int} (h : Src w a n bs) : (convert 37 9 (.slice a n cap)).run Try.prog w = .ok (.string (strOfNums bs)) w := by
  have hn := h.len
  rcases n with _ | n
  · obtain rfl := List.eq_nil_of_length_eq_zero hn
    cases a with
    | none => exact run_convert_bytes_nil w 37 5 Try.underlying37 Try.underlying5 0 cap 9 Try.underlying9
    | some x =>
      rw [run_convert_bytes_string w 37 9 5 _ 0 cap Try.underlying37 Try.underlying5 Try.underlying9, run_bytesToString w x 0 cap [] (by simpa using run_loadCells_list (P := Try.prog) w x [] (by simp))]
      rfl
  · obtain ⟨b, o, rfl, _, _⟩ := h.cells 0 (by omega)
    exact run_convert_bytes_arg w 37 5 Try.underlying37 Try.underlying5 b o (n + 1) cap bs hn (fun i hi => by
      obtain ⟨b', o', e, _, hc⟩ := h.cells i hi
      cases e
      exact hc) 9 Try.underlying9
end
end Go.Proofs.Ytbdjgaagafnfaaa.C
