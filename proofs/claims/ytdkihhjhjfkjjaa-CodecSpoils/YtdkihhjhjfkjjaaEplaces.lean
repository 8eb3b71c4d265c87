/-
  The program's palette of a chunk.
-/
import Derived.Test.YtdkihhjhjfkjjaaDpalc
namespace Go.Proofs.Ytdkihhjhjfkjjaa
open Go.RowKit

/-- One kind more. -/
theorem PalAt.push {w : World} {g : Nat} {l : List Int} {X : Array Value} {x : Int} (h : PalAt w g l l.length X) (hl : l.length < 17) :
    ∃ X', PalAt ((w.setCell ⟨g, l.length, none⟩ (.int .u8 x)).setCell ⟨g, 17, none⟩ (.int .i64 ((l.length : Int) + 1))) g (l ++ [x]) (l ++ [x]).length X' := by
  have h1 : PalAt (w.setCell ⟨g, l.length, none⟩ (.int .u8 x)) g (l ++ [x]) l.length (X.setIfInBounds l.length (.int .u8 x)) := h.set hl (fun j _ => by
    simp only [List.getD_eq_getElem?_getD]
    by_cases e : j = l.length
    · subst e; simp
    · rw [if_neg e]
      by_cases h2 : j < l.length
      · rw [List.getElem?_append_left h2]
      · rw [List.getElem?_eq_none (by simp; omega), List.getElem?_eq_none (by omega)])
  generalize X.setIfInBounds l.length (.int .u8 x) = Y at h1
  have hs := h1.size
  refine ⟨Y.setIfInBounds 17 (.int .i64 ((l.length : Int) + 1)), ?_, by rw [Array.size_setIfInBounds, hs], ?_, fun j hj => ?_, ?_⟩
  · rw [heap_setCell_same _ g 17 _ 48 _ h1.heap]
  · rw [Array.getElem?_setIfInBounds, if_pos rfl, if_pos (by omega), List.length_append, List.length_singleton]
    rfl
  · rw [Array.getElem?_setIfInBounds, if_neg (by omega)]; exact h1.kinds j hj
  · rw [Array.all_eq_true_iff_forall_mem]
    intro v hv
    rcases Array.mem_or_eq_of_mem_setIfInBounds hv with hv | hv
    · exact (Array.all_eq_true_iff_forall_mem.1 h1.one) v hv
    · subst hv; rfl

set_option maxHeartbeats 1000000 in
theorem paletteOf_c (g : Nat) (cs : List Int) (w : World) (hB : Blk w g 61 cs) (hl : cs.length = 32768) (hk : Kinds cs) :
    Calls Try.prog 22 #[.pointer (some ⟨g, 0, none⟩)] w fun e w' => (∃ X, e = .returned (.agg X) ∧ IsPal X (pal cs)) ∧ Below w.heap.size w w' := by
  obtain ⟨Post, hPost⟩ : ∃ Post : Ending → World → Prop, Post = fun e w' => (∃ X, e = .returned (.agg X) ∧ IsPal X (pal cs)) ∧ Below w.heap.size w w' := ⟨_, rfl⟩
  rw [← hPost]
  have HPost : Hid (∀ X w', IsPal X (pal cs) → Below w.heap.size w w' → Post (.returned (.agg X)) w') := fun X w' h1 h2 => by rw [hPost]; exact ⟨⟨X, rfl, h1⟩, h2⟩
  clear hPost
  have hgl := hB.lt
  go_enter Try.func22, Try.ntmps22
  go_wp2_with fail
  have hba : Below w.heap.size w ((w.alloc (.cells (palZ 0) 48)).alloc (.cells (palZ 0) 48)) := ((Below.refl _ _).alloc (Nat.le_refl _) _).alloc (by rw [World.size_alloc]; omega) _
  have hs2 : ((w.alloc (.cells (palZ 0) 48)).alloc (.cells (palZ 0) 48)).heap.size = w.heap.size + 2 := by rw [World.size_alloc, World.size_alloc]
  have hz1 : ((w.alloc (.cells (palZ 0) 48)).alloc (.cells (palZ 0) 48)).heap[w.heap.size]? = some (.cells (palZ 0) 48 (0, 0)) := heap_new_one w _ _
  have hz2 : ((w.alloc (.cells (palZ 0) 48)).alloc (.cells (palZ 0) 48)).heap[w.heap.size + 1]? = some (.cells (palZ 0) 48 (0, 0)) := heap_new_two w _ _
  refine (counts_c g cs ((w.alloc (.cells (palZ 0) 48)).alloc (.cells (palZ 0) 48)) (hB.below hba hgl) hl hk).mono ?_
  generalize (w.alloc (.cells (palZ 0) 48)).alloc (.cells (palZ 0) 48) = w0 at *
  rintro _ w1 ⟨rfl, hN1, hb1⟩
  rw [hs2] at hN1 hb1 ⊢
  have hlc := cntTo_length cs 32768
  have HC : Hid (∀ j : Nat, j < 17 → (0 < (cntTo cs 32768).getD j 0 ↔ (j : Int) ∈ cs)) := fun j hj => cntTo_pos hk hl j hj
  generalize cntTo cs 32768 = N at *
  have Hba : Hid (Below w.heap.size w w1) := hba.trans (hb1.mono (by omega))
  have HP1 : Hid (PalAt w1 (w.heap.size + 1) ([] : List Int) ([] : List Int).length (palZ 0)) := PalAt.zero (K := 0) ((hb1.block _ (by omega)).trans hz2)
  have HZ1 : Hid (w1.heap[w.heap.size]? = some (.cells (palZ 0) 48 (0, 0))) := (hb1.block _ (by omega)).trans hz1
  have HN1 : Hid (B64k w1 (w.heap.size + 2) 3 N) := hN1
  clear hba hs2 hz1 hz2 hb1 hN1 hB hl hk hgl
  go_wp2
  go_loopw [9] (fun i wr => ∃ (j : Nat) (X : Array Value), j ≤ 17 ∧ i = .int .i64 (j : Int) ∧ Hid (PalAt wr (w.heap.size + 1) (palTo cs j) (palTo cs j).length X) ∧ Hid (wr.heap[w.heap.size]? = some (.cells (palZ 0) 48 (0, 0))) ∧ Hid (B64k wr (w.heap.size + 2) 3 N) ∧ Hid (Below w.heap.size w wr)) (fun i _ => 17 - (intOf i).toNat)
  case atStart => exact ⟨0, palZ 0, by omega, rfl, HP1, HZ1, HN1, Hba⟩
  case round =>
    obtain ⟨j, X, hj, rfl, HP, HZ, HN, Hb⟩ := hrel
    clear HP1 HZ1 HN1 Hba
    by_cases hlt : j < 17
    · have hlt' : (j : Int) < 17 := by omega
      have hc := HN.out.cell (k := j) (by omega)
      have hin := HC.out j hlt
      have hlen := palTo_len cs j
      generalize N.getD j 0 = x at *
      by_cases hm : (j : Int) ∈ cs
      · have hx : 0 < x := hin.2 hm
        have HS : Hid (palTo cs (j + 1) = palTo cs j ++ [(j : Int)]) := by show _ = _; rw [palTo, if_pos hm]
        have hnum := HP.out.num
        have hold := HP.out.cell (j := (palTo cs j).length) (by omega)
        have hz1 := HP.out.free (palTo cs j).length
        obtain ⟨X2, hX2⟩ := HP.out.push (x := (j : Int)) (by omega)
        have hf2 : (wr.setCell ⟨w.heap.size + 1, (palTo cs j).length, none⟩ (.int .u8 (j : Int))).heap[w.heap.size + 1]? = some _ := heap_setCell_same wr (w.heap.size + 1) (palTo cs j).length X 48 (.int .u8 (j : Int)) HP.out.heap
        have hz2 := frozen_of_row _ (w.heap.size + 1) 17 _ 48 hf2
        have hnum2 : (wr.setCell ⟨w.heap.size + 1, (palTo cs j).length, none⟩ (.int .u8 (j : Int))).cell? ⟨w.heap.size + 1, 17, none⟩ = some (.int .i64 ((palTo cs j).length : Int)) := by
          rw [cell_of_row _ (w.heap.size + 1) 17 _ 48 (0, 0) hf2, Array.getElem?_setIfInBounds, if_neg (by omega)]
          exact HP.out.many
        rw [← HS.out] at hX2
        have HX2 : Hid _ := hX2
        clear hX2 hf2 hin hm HS HP
        generalize (palTo cs j).getD (palTo cs j).length 0 = old at hold
        generalize (palTo cs j).length = P at *
        have hP17 : (P : Int) < 17 := by omega
        have HZ2 : Hid (((wr.setCell ⟨w.heap.size + 1, P, none⟩ (.int .u8 (j : Int))).setCell ⟨w.heap.size + 1, 17, none⟩ (.int .i64 ((P : Int) + 1))).heap[w.heap.size]? = some (.cells (palZ 0) 48 (0, 0))) :=
          (Below.heap_setCell _ ⟨w.heap.size + 1, 17, none⟩ _ _ (by simp)).trans ((Below.heap_setCell wr ⟨w.heap.size + 1, P, none⟩ _ _ (by simp)).trans HZ.out)
        have HN2 : Hid (B64k ((wr.setCell ⟨w.heap.size + 1, P, none⟩ (.int .u8 (j : Int))).setCell ⟨w.heap.size + 1, 17, none⟩ (.int .i64 ((P : Int) + 1))) (w.heap.size + 2) 3 N) :=
          (Below.heap_setCell _ ⟨w.heap.size + 1, 17, none⟩ _ _ (by simp)).trans ((Below.heap_setCell wr ⟨w.heap.size + 1, P, none⟩ _ _ (by simp)).trans HN.out)
        have Hb2 : Hid (Below w.heap.size w ((wr.setCell ⟨w.heap.size + 1, P, none⟩ (.int .u8 (j : Int))).setCell ⟨w.heap.size + 1, 17, none⟩ (.int .i64 ((P : Int) + 1)))) := (Hb.out.setCell (p := ⟨w.heap.size + 1, P, none⟩) (by simp) _).setCell (p := ⟨w.heap.size + 1, 17, none⟩) (by simp) _
        clear HZ HN Hb
        go_wp2
        go_roundw
        case rel => exact ⟨j + 1, X2, by omega, by go_num, HX2, HZ2, HN2, Hb2⟩
        case measure => simp [intOf]; omega
      · have hx : ¬ 0 < x := fun h => hm (hin.1 h)
        have HP2 : Hid (PalAt wr (w.heap.size + 1) (palTo cs (j + 1)) (palTo cs (j + 1)).length X) := by show PalAt _ _ _ _ _; rw [palTo, if_neg hm]; exact HP.out
        clear hin hm HP
        go_wp2
        go_roundw
        case rel => exact ⟨j + 1, X, by omega, by go_num, HP2, HZ, HN, Hb⟩
        case measure => simp [intOf]; omega
    · obtain rfl : j = 17 := by omega
      have hlt' : ¬ (17 : Int) < 17 := by omega
      have hp := HP.out
      clear HC HP HN
      go_wp2_with (first
        | (refine wpList_load_pal rfl (.tmp 3) rfl (w.heap.size + 1) X rfl hp.heap hp.size ?_)
        | (refine wpList_store_pal rfl (.tmp 2) (.tmp 27) rfl w.heap.size X rfl rfl (palZ 0) HZ.out rfl hp.size hp.one ?_; intro w5 hO5 hp5))
      refine bodyPost_ret (results_cell_row rfl _ _ w.heap.size 48 X (0, 0) _ rfl hp5 Try.underlying48 rfl (by rw [hp.size]; kernel_rfl)) rfl ?_
      exact HPost.out X w5 (hp.is rfl) (Hb.out.trans (hO5.below (Nat.le_refl _)))

theorem len46 : Try.prog.arrayLen 46 = 17 := by kernel_rfl
theorem under46 : Try.prog.underlying 46 = some (.array (Try.prog.arrayLen 46) (Try.prog.elem 46)) := by kernel_rfl
theorem elem46 : Try.prog.elem 46 = 5 := by kernel_rfl
theorem slice_pal (g N : Nat) (h1 : N ≤ 17) (w : World) :
    (Instr.sliceAt 46 (.pointer (some ⟨g, 0, none⟩)) none (some (.int .i64 (N : Int))) none).run Try.prog w = .ok (.slice (some ⟨g, 0, none⟩) N 17) w := by
  rw [run_sliceAt_array_h w 46 ⟨g, 0, none⟩ under46 .i64 N (by omega) (by rw [len46]; omega), elem46, sizeOf5, Result.andThen_ok, len46]
  unfold slicedAt
  rw [if_neg (by omega), Int.toNat_natCast, Nat.sub_zero, Nat.sub_zero]
  rfl
/-- The places of kinds ahead of J are laid. -/
def LaidTo (l pl : List Int) (J : Nat) : Prop := pl.length = 17 ∧ ∀ i, i < J → i < l.length → pl.getD (l.getD i 0).toNat 0 = (i : Int)
theorem LaidTo.more {l pl : List Int} {J : Nat} (h : LaidTo l pl J) (hr : l.Pairwise (· < ·)) (hk : AreKinds l) (hJ : J < l.length) : LaidTo l (pl.set (l.getD J 0).toNat (J : Int)) (J + 1) := by
  refine ⟨by rw [List.length_set, h.1], fun i hi hil => ?_⟩
  have hki := hk _ (getD_mem hil)
  have hkJ := hk _ (getD_mem hJ)
  by_cases e : i = J
  · subst e
    rw [List.getD_eq_getElem?_getD, List.getElem?_set_self (by have := h.1; omega)]
    rfl
  · have hlt := (List.pairwise_iff_getElem.1 hr) i J hil hJ (by omega)
    have e1 : l.getD i 0 = l[i] := by rw [List.getD_eq_getElem?_getD, List.getElem?_eq_getElem hil]; rfl
    have e2 : l.getD J 0 = l[J] := by rw [List.getD_eq_getElem?_getD, List.getElem?_eq_getElem hJ]; rfl
    rw [List.getD_eq_getElem?_getD, List.getElem?_set_ne (by omega), ← List.getD_eq_getElem?_getD]
    exact h.2 i (by omega) hil
theorem LaidTo.at {l pl : List Int} {c : Int} (h : LaidTo l pl l.length) (hc : c ∈ l) : pl.getD c.toNat 0 = (plc l c : Int) := by
  have := h.2 (plc l c) (plc_lt hc) (plc_lt hc)
  rwa [plc_at hc] at this

set_option maxRecDepth 100000 in
set_option maxHeartbeats 1000000 in
theorem placesOf_c (X : Array Value) (l cs : List Int) (g : Nat) (w : World) (hX : IsPal X l) (hl : l.length ≤ 17) (hr : l.Pairwise (· < ·)) (hk : AreKinds l) (hm : ∀ c ∈ cs, c ∈ l) (hB : Blk w g 5 cs) (hlen : cs.length = 32768) :
    Calls Try.prog 23 #[.agg X, .slice (some ⟨g, 0, none⟩) 32768 32768] w fun e w' => (∃ h, e = .returned (.slice (some ⟨h, 0, none⟩) 32768 32768) ∧ Blk w' h 5 (cs.map fun c => (plc l c : Int)) ∧ w.heap.size ≤ h) ∧ Below w.heap.size w w' := by
  obtain ⟨Post, hPost⟩ : ∃ Post : Ending → World → Prop, Post = fun e w' => (∃ h, e = .returned (.slice (some ⟨h, 0, none⟩) 32768 32768) ∧ Blk w' h 5 (cs.map fun c => (plc l c : Int)) ∧ w.heap.size ≤ h) ∧ Below w.heap.size w w' := ⟨_, rfl⟩
  rw [← hPost]
  have HPost : Hid (∀ h w', Blk w' h 5 (cs.map fun c => (plc l c : Int)) → w.heap.size ≤ h → Below w.heap.size w w' → Post (.returned (.slice (some ⟨h, 0, none⟩) 32768 32768)) w') := fun h w' h1 h2 h3 => by rw [hPost]; exact ⟨⟨h, rfl, h1, h2⟩, h3⟩
  clear hPost
  have hgl := hB.lt
  have h17 := hX.many
  have HL : Hid (l.length ≤ 17) := hl
  have HR : Hid (l.Pairwise (· < ·)) := hr
  have HK : Hid (AreKinds l) := hk
  have HM : Hid (∀ c ∈ cs, c ∈ l) := hm
  have HX : Hid (IsPal X l) := hX
  have Hlen : Hid (cs.length = 32768) := hlen
  obtain ⟨n, hn⟩ : ∃ n, n = l.length := ⟨_, rfl⟩
  have Hn : Hid (l.length = n) := hn.symm
  rw [← hn] at h17 hl
  have hsl := slice_pal w.heap.size n hl
  have hba : Below w.heap.size w ((w.alloc (.cells X 48)).alloc (.cells (vals (List.replicate 17 0)) 46)) := ((Below.refl _ _).alloc (Nat.le_refl _) _).alloc (by rw [World.size_alloc]; omega) _
  have HP0 : Hid (((w.alloc (.cells X 48)).alloc (.cells (vals (List.replicate 17 0)) 46)).heap[w.heap.size]? = some (.cells X 48 (0, 0))) := heap_new_one w _ _
  have HA0 : Hid (Blk ((w.alloc (.cells X 48)).alloc (.cells (vals (List.replicate 17 0)) 46)) (w.heap.size + 1) 46 (List.replicate 17 0)) := heap_new_two w _ _
  have HB0 : Hid (Blk ((w.alloc (.cells X 48)).alloc (.cells (vals (List.replicate 17 0)) 46)) g 5 cs) := hB.below hba hgl
  have Hb0 : Hid (Below w.heap.size w ((w.alloc (.cells X 48)).alloc (.cells (vals (List.replicate 17 0)) 46))) := hba
  have hva : vals (List.replicate 17 0) = #[.int .u8 0, .int .u8 0, .int .u8 0, .int .u8 0, .int .u8 0, .int .u8 0, .int .u8 0, .int .u8 0, .int .u8 0, .int .u8 0, .int .u8 0, .int .u8 0, .int .u8 0, .int .u8 0, .int .u8 0, .int .u8 0, .int .u8 0] := rfl
  have hn17 : (n : Int) ≤ 17 := by omega
  clear hX hr hk hm hB hlen hn hba
  have HZ0 : Hid (LaidTo l (List.replicate 17 0) 0) := ⟨rfl, fun i hi => absurd hi (Nat.not_lt_zero _)⟩
  have Hva : Hid (vals (List.replicate 17 0) = #[.int .u8 0, .int .u8 0, .int .u8 0, .int .u8 0, .int .u8 0, .int .u8 0, .int .u8 0, .int .u8 0, .int .u8 0, .int .u8 0, .int .u8 0, .int .u8 0, .int .u8 0, .int .u8 0, .int .u8 0, .int .u8 0, .int .u8 0]) := hva
  clear hva
  go_enter Try.func23, Try.ntmps23
  go_wp2
  rw [← Hva.out]
  generalize (w.alloc (.cells X 48)).alloc (.cells (vals (List.replicate 17 0)) 46) = w0 at *
  clear Hva h17 hsl
  generalize List.replicate 17 (0 : Int) = pl0 at *
  go_loopw [16] (fun v16 wr => ∃ (J : Nat) (pl : List Int), J ≤ n ∧ v16 = .int .i64 (J : Int) ∧ Hid (LaidTo l pl J) ∧ Hid (Blk wr (w.heap.size + 1) 46 pl) ∧ Hid (wr.heap[w.heap.size]? = some (.cells X 48 (0, 0))) ∧ Hid (Blk wr g 5 cs) ∧ Hid (Below w.heap.size w wr)) (fun i _ => n - (intOf i).toNat)
  case atStart => exact ⟨0, pl0, Nat.zero_le _, rfl, HZ0, HA0, HP0, HB0, Hb0⟩
  case round =>
    obtain ⟨J, pl, hJ, rfl, HZ, HA, HP, HB, Hb⟩ := hrel
    clear HZ0 HA0 HP0 HB0 Hb0
    by_cases hlt : J < n
    · have hlt' : (J : Int) < n := by omega
      have hJl : J < l.length := by rw [Hn.out]; exact hlt
      have hkk := HK.out _ (getD_mem hJl)
      have hcell : wr.cell? ⟨w.heap.size, J, none⟩ = some (.int .u8 (l.getD J 0)) := by
        rw [cell_of_row _ w.heap.size J X 48 (0, 0) HP.out]
        exact HX.out.kinds J (by omega)
      have hmore := HZ.out.more HR.out HK.out hJl
      have hpl := HZ.out.1
      obtain ⟨V, hV⟩ := Int.eq_ofNat_of_zero_le hkk.1
      rw [hV] at hkk hcell hmore
      rw [Int.toNat_natCast] at hmore
      have hold := HA.out.cell (k := V) (by omega)
      have hfr := HA.out.free V
      generalize pl.getD V 0 = old at hold
      have HA2 : Hid (Blk (wr.setCell ⟨w.heap.size + 1, V, none⟩ (.int .u8 (J : Int))) (w.heap.size + 1) 46 (pl.set V (J : Int))) := HA.out.set V _
      have HZ2 : Hid (LaidTo l (pl.set V (J : Int)) (J + 1)) := hmore
      have HP2 : Hid ((wr.setCell ⟨w.heap.size + 1, V, none⟩ (.int .u8 (J : Int))).heap[w.heap.size]? = some (.cells X 48 (0, 0))) := (Below.heap_setCell wr ⟨w.heap.size + 1, V, none⟩ _ _ (by simp)).trans HP.out
      have HB2 : Hid (Blk (wr.setCell ⟨w.heap.size + 1, V, none⟩ (.int .u8 (J : Int))) g 5 cs) := HB.out.other (by omega)
      have Hb2 : Hid (Below w.heap.size w (wr.setCell ⟨w.heap.size + 1, V, none⟩ (.int .u8 (J : Int)))) := Hb.out.setCell (p := ⟨w.heap.size + 1, V, none⟩) (by simp) _
      have hV17 : (V : Int) < 17 := by omega
      have hJ17 : (J : Int) < 17 := by omega
      clear HZ HA HP HB Hb hmore hJl hV hkk hpl
      go_wp2
      go_roundw
      case rel => exact ⟨J + 1, _, by omega, by go_num, HZ2, HA2, HP2, HB2, Hb2⟩
      case measure => simp [intOf]; omega
    · obtain rfl : J = n := by omega
      have hlt' : ¬ (J : Int) < J := by omega
      have hmk := make_bytes wr
      have HZl : Hid (LaidTo l pl l.length) := by show LaidTo _ _ _; rw [Hn.out]; exact HZ.out
      have hla := HA.out.lt
      have hbm : Below wr.heap.size wr (wr.alloc (.cells (vals (List.replicate 32768 0)) 5)) := (Below.refl _ _).alloc (Nat.le_refl _) _
      have HA3 : Hid (Blk (wr.alloc (.cells (vals (List.replicate 32768 0)) 5)) (w.heap.size + 1) 46 pl) := HA.out.below hbm hla
      have HB3 : Hid (Blk (wr.alloc (.cells (vals (List.replicate 32768 0)) 5)) g 5 cs) := HB.out.below hbm HB.out.lt
      have Hb3 : Hid (Below w.heap.size w (wr.alloc (.cells (vals (List.replicate 32768 0)) 5))) := Hb.out.trans (hbm.mono (by omega))
      have HD3 : Hid (∃ ds, Blk (wr.alloc (.cells (vals (List.replicate 32768 0)) 5)) wr.heap.size 5 ds ∧ ds.length = 32768 ∧ ds.take 0 = (cs.take 0).map fun c => (plc l c : Int)) := ⟨_, Blk.new wr 5 _, List.length_replicate, rfl⟩
      have Hh : Hid (w.heap.size + 1 < wr.heap.size) := hla
      clear HZ HA HP HB Hb hbm hla
      generalize vals (List.replicate 32768 0) = vs at *
      go_wp2
      clear hmk
      generalize wr.alloc (.cells vs 5) = wm at *
      generalize wr.heap.size = h at *
      go_loopw [31] (fun v31 wr => ∃ (I : Nat), I ≤ 32768 ∧ v31 = .int .i64 (I : Int) ∧ Hid (∃ ds, Blk wr h 5 ds ∧ ds.length = 32768 ∧ ds.take I = (cs.take I).map fun c => (plc l c : Int)) ∧ Hid (Blk wr (w.heap.size + 1) 46 pl) ∧ Hid (Blk wr g 5 cs) ∧ Hid (Below w.heap.size w wr)) (fun i _ => 32768 - (intOf i).toNat)
      case atStart => exact ⟨0, by omega, rfl, HD3, HA3, HB3, Hb3⟩
      case round =>
        obtain ⟨I, hI, rfl, HD, HA, HB, Hb⟩ := hrel
        clear HD3 HA3 HB3 Hb3
        have hh := Hh.out
        by_cases hlt2 : I < 32768
        · have hlt2' : (I : Int) < 32768 := by omega
          have hIl : I < cs.length := by rw [Hlen.out]; exact hlt2
          have hcl := HM.out _ (getD_mem hIl)
          have hkk := HK.out _ hcl
          have hcell := HB.out.cell (k := I) hIl
          have hat := HZl.out.at hcl
          obtain ⟨V, hV⟩ := Int.eq_ofNat_of_zero_le hkk.1
          have hpl := HZl.out.1
          have hcell2 := HA.out.cell (k := V) (by omega)
          rw [hV, Int.toNat_natCast] at hat
          rw [hV] at hcell hkk
          rw [hat] at hcell2
          obtain ⟨ds, hds, hdl, hdt⟩ := HD.out
          have hold := hds.cell (k := I) (by omega)
          have hfr := hds.free I
          have hpn : plc l (V : Int) ≤ 16 := by
            have := plc_lt (l := l) (k := (V : Int)) (by rw [← hV]; exact hcl)
            have := HL.out
            omega
          have HD2 : Hid (∃ ds, Blk (wr.setCell ⟨h, I, none⟩ (.int .u8 (plc l (V : Int) : Int))) h 5 ds ∧ ds.length = 32768 ∧ ds.take (I + 1) = (cs.take (I + 1)).map fun c => (plc l c : Int)) := by
            refine ⟨ds.set I (plc l (V : Int) : Int), hds.set I _, by rw [List.length_set, hdl], ?_⟩
            have hg1 : cs[I]? = some (V : Int) := by
              rw [List.getElem?_eq_getElem hIl, ← hV, List.getD_eq_getElem?_getD, List.getElem?_eq_getElem hIl]
              rfl
            rw [List.take_add_one, List.take_add_one, List.map_append, hg1, ← hdt, List.take_set, List.set_eq_of_length_le (by rw [List.length_take]; omega), List.getElem?_set_self (by omega)]
            rfl
          generalize plc l (V : Int) = p at *
          generalize ds.getD I 0 = old at hold
          have HA2 : Hid (Blk (wr.setCell ⟨h, I, none⟩ (.int .u8 (p : Int))) (w.heap.size + 1) 46 pl) := HA.out.other (by omega)
          have HB2 : Hid (Blk (wr.setCell ⟨h, I, none⟩ (.int .u8 (p : Int))) g 5 cs) := HB.out.other (by omega)
          have Hb2 : Hid (Below w.heap.size w (wr.setCell ⟨h, I, none⟩ (.int .u8 (p : Int)))) := Hb.out.setCell (p := ⟨h, I, none⟩) (by simp; omega) _
          have hV17 : (V : Int) < 17 := by omega
          have hp16 : (p : Int) ≤ 16 := by omega
          clear HD HA HB Hb hds hdl hdt hat hV hcl hIl hpl hkk hh
          go_wp2
          go_roundw
          case rel => exact ⟨I + 1, by omega, by go_num, HD2, HA2, HB2, Hb2⟩
          case measure => simp [intOf]; omega
        · obtain rfl : I = 32768 := by omega
          have hlt2' : ¬ (32768 : Int) < 32768 := by omega
          obtain ⟨ds, hds, hdl, hdt⟩ := HD.out
          rw [List.take_of_length_le (by omega), List.take_of_length_le (by rw [Hlen.out]; exact Nat.le_refl _)] at hdt
          rw [hdt] at hds
          have R := HPost.out h wr hds (by omega) Hb.out
          clear HD HA HB Hb hds hdl hdt HPost
          go_wp2
          exact R
end Go.Proofs.Ytdkihhjhjfkjjaa
