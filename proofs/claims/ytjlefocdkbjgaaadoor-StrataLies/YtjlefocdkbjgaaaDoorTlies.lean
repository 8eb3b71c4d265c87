/-
  Walk of StrataLies.
-/
import Derived.Test.YtjlefocdkbjgaaaDoorTawake
import Derived.Test.YtjlefocdkbjgaaaDoorCPures
set_option maxRecDepth 20000
namespace Go.Proofs.YtjlefocdkbjgaaaDoor
open C Go.RowKit

/-! ### plain -/
theorem map_ok (S : Nat) (x z : Int) : okCols (mapH S x z) (mapB S x z) := ⟨mapH_len S x z, mapB_len S x z, fun i hi => by
  have h1 : i < (mapH S x z).length := by rw [mapH_len]; exact hi
  have h2 : i < (mapB S x z).length := by rw [mapB_len]; exact hi
  rw [List.getD_eq_getElem?_getD, List.getElem?_eq_getElem h1, List.getD_eq_getElem?_getD, List.getElem?_eq_getElem h2, Option.getD_some, Option.getD_some, mapH_at, mapB_at]
  have := hOf_bd S (x * 16 + (i : Int) % 16) (z * 16 + (i : Int) / 16)
  have := bandOf_bd S (x * 16 + (i : Int) % 16) (z * 16 + (i : Int) / 16)
  omega⟩
theorem mem_i64 {l : List Int} (h : ∀ x ∈ l, 0 ≤ x ∧ x ≤ 127) : ∀ x ∈ l, I64 x := fun x hx => by
  have := h x hx
  unfold I64
  omega
theorem map_i64 (S : Nat) (x z : Int) : (∀ y ∈ mapH S x z, I64 y) ∧ (∀ y ∈ mapB S x z, I64 y) :=
  ⟨range_all _ _ 256 fun i => by
    have := hOf_bd S (x * 16 + (i : Int) % 16) (z * 16 + (i : Int) / 16)
    unfold I64; omega, range_all _ _ 256 fun i => by
    have := bandOf_bd S (x * 16 + (i : Int) % 16) (z * 16 + (i : Int) / 16)
    unfold I64; omega⟩
theorem atN_over {h b y : Int} (h0 : 0 ≤ h ∧ h ≤ 127) (hb : 0 ≤ b ∧ b ≤ 3) (hy : h < y ∧ y ≤ 127) : atN h b y = if y ≤ 44 then 5 else 0 := by
  unfold atN
  rw [if_neg (by omega), if_neg (by omega), if_pos (by omega)]
theorem atN_low {h b : Int} (h0 : 0 ≤ h ∧ h ≤ 127) (hb : 0 ≤ b ∧ b ≤ 3) : atN h b 0 = 15 := by
  unfold atN
  rw [if_neg (by omega), if_pos rfl]
theorem fill_cell (H B : List Int) (i y : Nat) (hi : i < 256) (hy : y < 128) : (fillN H B).getD (y * 256 + i) 0 = atN (H.getD i 0) (B.getD i 0) (y : Int) := by
  rw [fillN_at H B _ (by omega), show (y * 256 + i) % 256 = i by omega, show (y * 256 + i) / 256 = y by omega]
theorem fill_get (H B : List Int) (i y : Nat) (hi : i < 256) (hy : y < 128) : getC (fillN H B) ((y : Int) * 256 + (i : Int)) = atN (H.getD i 0) (B.getD i 0) (y : Int) := by
  unfold getC
  rw [if_pos (by omega), show ((y : Int) * 256 + (i : Int)).toNat = y * 256 + i by omega]
  exact fill_cell H B i y hi hy
section
variable {H B : List Int} (ok : okCols H B)
include ok
theorem fill_low (i : Nat) (hi : i < 256) : getC (fillN H B) (i : Int) = 15 := by
  have h := fill_get H B i 0 hi (by omega)
  have := ok.2.2 i hi
  rw [show ((0 : Nat) : Int) = 0 from rfl, atN_low (by omega) (by omega)] at h
  simpa using h
theorem fill_top (i : Nat) (hi : i < 256) : topC (fillN H B) ((i % 16 : Nat) : Int) ((i / 16 : Nat) : Int) = if H.getD i 0 < 44 then 44 else H.getD i 0 := by
  have hk := ok.2.2 i hi
  rw [topC_yes ⟨by omega, by omega⟩, show i / 16 * 16 + i % 16 = i by omega]
  obtain ⟨T, hT⟩ : ∃ T : Nat, (T : Int) = if H.getD i 0 < 44 then 44 else H.getD i 0 := by
    by_cases h : H.getD i 0 < 44
    · exact ⟨44, by rw [if_pos h]; rfl⟩
    · exact ⟨(H.getD i 0).toNat, by rw [if_neg h]; omega⟩
  rw [← hT]
  have hTb : T < 128 ∧ 44 ≤ T ∧ H.getD i 0 ≤ T ∧ (H.getD i 0 < T → T = 44) := by split at hT <;> omega
  refine topTo_is _ _ _ ?_ 128 ?_ ?_
  · rw [fill_cell H B i T hi (by omega)]
    by_cases h : H.getD i 0 < T
    · rw [atN_over (by omega) (by omega) (by omega), if_pos (by omega)]
      omega
    · have := atN_solid (h := H.getD i 0) (b := B.getD i 0) (y := T) (by omega) (by omega) (by omega)
      have := atN_bd (H.getD i 0) (B.getD i 0) T
      omega
  · omega
  · intro m h1 h2
    rw [fill_cell H B i m hi (by omega), atN_over (by omega) (by omega) (by omega), if_neg (by omega)]
    exact .inl rfl
end

/-- What the inner round asks of a cell. -/
theorem cell_says {h b : Int} (h0 : 0 ≤ h ∧ h ≤ 127) (hb : 0 ≤ b ∧ b ≤ 3) (Y : Nat) (h1 : 1 ≤ Y) (h2 : Y < 128) :
    (h < (Y : Int) ∧ (Y : Int) ≤ 44 ∧ atN h b Y = 5) ∨ (h < (Y : Int) ∧ 44 < (Y : Int) ∧ atN h b Y = 0) ∨ ((Y : Int) ≤ h ∧ atN h b Y ≠ 0 ∧ atN h b Y ≠ 5) := by
  by_cases hd : h < (Y : Int)
  · have e := atN_over (h := h) (b := b) (y := Y) h0 hb (by omega)
    by_cases hs : (Y : Int) ≤ 44
    · rw [if_pos hs] at e
      exact .inl ⟨hd, hs, e⟩
    · rw [if_neg hs] at e
      exact .inr (.inl ⟨hd, by omega, e⟩)
  · exact .inr (.inr ⟨by omega, atN_solid h0 hb (by omega)⟩)
set_option maxRecDepth 100000 in
set_option maxHeartbeats 2000000 in
theorem strataLies_walk (J : TSpec) (S : Nat) (cx cz : Int) (w : World) (hS : S < 18446744073709551616) (hG : J.G w) :
    Calls Tryd.prog 5 #[.int .u64 S, .agg #[.int .i64 cx, .int .i64 cz]] w fun e w' => e = .returned (.bool true) ∧ Below w.heap.size w w' := by
  by_cases c0 : cx < -1073741824
  · go_enter Tryd.func5, Tryd.ntmps5
    go_wp2_with fail
    refine (awake_c J _ (J.on hG ((Below.refl _ _).alloc (Nat.le_refl _) _))).mono ?_
    rintro _ w1 ⟨rfl, hw1⟩
    have HB1 : Hid (Below w.heap.size w w1) := ((Below.refl _ w).alloc (Nat.le_refl _) _).trans (hw1.mono (by simp))
    have hX1 := (hw1.block w.heap.size (by simp)).trans (heap_alloc_new w _)
    have k0 := (cell_of_row w1 w.heap.size 0 _ 38 (0, 0) hX1).trans rfl
    have k1 := (cell_of_row w1 w.heap.size 1 _ 38 (0, 0) hX1).trans rfl
    clear hw1 hX1
    go_wp2
    go_ret
    exact ⟨rfl, HB1.out⟩
  by_cases c1 : 1073741824 < cx
  · go_enter Tryd.func5, Tryd.ntmps5
    go_wp2_with fail
    refine (awake_c J _ (J.on hG ((Below.refl _ _).alloc (Nat.le_refl _) _))).mono ?_
    rintro _ w1 ⟨rfl, hw1⟩
    have HB1 : Hid (Below w.heap.size w w1) := ((Below.refl _ w).alloc (Nat.le_refl _) _).trans (hw1.mono (by simp))
    have hX1 := (hw1.block w.heap.size (by simp)).trans (heap_alloc_new w _)
    have k0 := (cell_of_row w1 w.heap.size 0 _ 38 (0, 0) hX1).trans rfl
    have k1 := (cell_of_row w1 w.heap.size 1 _ 38 (0, 0) hX1).trans rfl
    clear hw1 hX1
    go_wp2
    go_ret
    exact ⟨rfl, HB1.out⟩
  by_cases c2 : cz < -1073741824
  · go_enter Tryd.func5, Tryd.ntmps5
    go_wp2_with fail
    refine (awake_c J _ (J.on hG ((Below.refl _ _).alloc (Nat.le_refl _) _))).mono ?_
    rintro _ w1 ⟨rfl, hw1⟩
    have HB1 : Hid (Below w.heap.size w w1) := ((Below.refl _ w).alloc (Nat.le_refl _) _).trans (hw1.mono (by simp))
    have hX1 := (hw1.block w.heap.size (by simp)).trans (heap_alloc_new w _)
    have k0 := (cell_of_row w1 w.heap.size 0 _ 38 (0, 0) hX1).trans rfl
    have k1 := (cell_of_row w1 w.heap.size 1 _ 38 (0, 0) hX1).trans rfl
    clear hw1 hX1
    go_wp2
    go_ret
    exact ⟨rfl, HB1.out⟩
  by_cases c3 : 1073741824 < cz
  · go_enter Tryd.func5, Tryd.ntmps5
    go_wp2_with fail
    refine (awake_c J _ (J.on hG ((Below.refl _ _).alloc (Nat.le_refl _) _))).mono ?_
    rintro _ w1 ⟨rfl, hw1⟩
    have HB1 : Hid (Below w.heap.size w w1) := ((Below.refl _ w).alloc (Nat.le_refl _) _).trans (hw1.mono (by simp))
    have hX1 := (hw1.block w.heap.size (by simp)).trans (heap_alloc_new w _)
    have k0 := (cell_of_row w1 w.heap.size 0 _ 38 (0, 0) hX1).trans rfl
    have k1 := (cell_of_row w1 w.heap.size 1 _ 38 (0, 0) hX1).trans rfl
    clear hw1 hX1
    go_wp2
    go_ret
    exact ⟨rfl, HB1.out⟩
  go_enter Tryd.func5, Tryd.ntmps5
  go_wp2_with fail
  refine (awake_c J _ (J.on hG ((Below.refl _ _).alloc (Nat.le_refl _) _))).mono ?_
  rintro _ w1 ⟨rfl, hw1⟩
  have HB1 : Hid (Below w.heap.size w w1) := ((Below.refl _ w).alloc (Nat.le_refl _) _).trans (hw1.mono (by simp))
  have HG1 : Hid (J.G w1) := J.on hG HB1.out
  have hX1 := (hw1.block w.heap.size (by simp)).trans (heap_alloc_new w _)
  have k0 := (cell_of_row w1 w.heap.size 0 _ 38 (0, 0) hX1).trans rfl
  have k1 := (cell_of_row w1 w.heap.size 1 _ 38 (0, 0) hX1).trans rfl
  clear hw1 hX1 hG
  go_wp2_with fail
  refine (rmap_c S cx cz w1 hS (by unfold Far; omega) (by unfold Far; omega)).mono ?_
  rintro _ w2 ⟨hb2, a, c, a', c', rfl, hH, hB⟩
  have HB2 : Hid (Below w.heap.size w w2) := HB1.out.trans (hb2.mono HB1.out.size)
  have HG2 : Hid (J.G w2) := J.on HG1.out hb2
  have hH' := hH.ints
  have hB' := hB.ints
  rw [mapH_len] at hH'
  rw [mapB_len] at hB'
  have Hok : Hid (okCols (mapH S cx cz) (mapB S cx cz)) := map_ok S cx cz
  have Hi : Hid ((∀ y ∈ mapH S cx cz, I64 y) ∧ (∀ y ∈ mapB S cx cz, I64 y)) := map_i64 S cx cz
  have HH : Hid (IntsAt w2 a 256 (mapH S cx cz)) := hH'
  have HB : Hid (IntsAt w2 a' 256 (mapB S cx cz)) := hB'
  clear k0 k1 hb2 hH hB hH' hB' HB1 HG1
  generalize mapH S cx cz = H at *
  generalize mapB S cx cz = B at *
  go_wp2_with fail
  refine (J.fill_ a a' 256 256 c c' H B w2 HH.out HB.out (by omega) (by omega) Hi.out.1 Hi.out.2 HG2.out).mono ?_
  rintro e w3 ⟨hb3, hyes, hno⟩
  obtain ⟨g, rfl, hg⟩ := hyes Hok.out
  have HB3 : Hid (Below w.heap.size w w3) := HB2.out.trans (hb3.mono HB2.out.size)
  have HH3 : Hid (IntsAt w3 a 256 H) := HH.out.on hb3
  have Hg : Hid (Blk w3 g 56 (fillN H B)) := hg
  clear hb3 hyes hno hg HH HB HB2 HG2 Hi
  obtain ⟨b, o, rfl⟩ := HH3.out.some (by omega)
  have HFl : Hid ((fillN H B).length = 32768 ∧ Kinds (fillN H B)) := ⟨fillN_len H B, fillN_bd H B⟩
  have Htop : Hid (∀ i : Nat, i < 256 → topC (fillN H B) ((i % 16 : Nat) : Int) ((i / 16 : Nat) : Int) = if H.getD i 0 < 44 then 44 else H.getD i 0) := fun i hi => fill_top Hok.out i hi
  have Hlow : Hid (∀ i : Nat, i < 256 → getC (fillN H B) (i : Int) = 15) := fun i hi => fill_low Hok.out i hi
  have Hget : Hid (∀ i y : Nat, i < 256 → y < 128 → getC (fillN H B) ((y : Int) * 256 + (i : Int)) = atN (H.getD i 0) (B.getD i 0) (y : Int)) := fun i y hi hy => fill_get H B i y hi hy
  generalize fillN H B = F at *
  go_wp2
  go_loop [10] (fun v => ∃ I : Nat, v = .int .i64 (I : Int) ∧ I ≤ 256) (fun v => 256 - (intOf v).toNat)
  case atStart => exact ⟨0, rfl, by omega⟩
  case round =>
    obtain ⟨I, rfl, hI⟩ := hrel
    by_cases hlt : I < 256
    case neg =>
      have hge : ¬ (I : Int) < 256 := by omega
      go_wp2
      go_ret
      exact ⟨rfl, HB3.out⟩
    have hlt' : (I : Int) < 256 := by omega
    have c0 := HH3.out.at I hlt
    have hx := Hok.out.2.2 I hlt
    have ht := Htop.out I hlt
    have hl := Hlow.out I hlt
    have hgy := fun y => Hget.out I y hlt
    have hr : Int.tmod (I : Int) 16 = ((I % 16 : Nat) : Int) := by rw [Int.tmod_eq_emod_of_nonneg (by omega)]; omega
    have hq : Int.tdiv (I : Int) 16 = ((I / 16 : Nat) : Int) := by rw [Int.tdiv_eq_ediv_of_nonneg (by omega)]; omega
    generalize H.getD I 0 = x at *
    generalize B.getD I 0 = y at *
    have Hs : Hid (∀ Y : Nat, 1 ≤ Y → Y < 128 → getC F ((Y : Int) * 256 + (I : Int)) = atN x y Y ∧ ((x < (Y : Int) ∧ (Y : Int) ≤ 44 ∧ atN x y Y = 5) ∨ (x < (Y : Int) ∧ 44 < (Y : Int) ∧ atN x y Y = 0) ∨ ((Y : Int) ≤ x ∧ atN x y Y ≠ 0 ∧ atN x y Y ≠ 5))) := fun Y h1 h2 => ⟨hgy Y h2, cell_says hx.1 hx.2 Y h1 h2⟩
    have T := top_c g F ((I % 16 : Nat) : Int) ((I / 16 : Nat) : Int) w3 Hg.out HFl.out.1
    have L := get_c g F (I : Int) w3 Hg.out HFl.out.1 HFl.out.2
    rw [ht] at T
    rw [hl] at L
    clear ht hl hgy hx
    have hr16 : I % 16 < 16 := by omega
    have hq16 : I / 16 < 16 := by omega
    generalize I % 16 = IR at *
    generalize I / 16 = IQ at *
    have hRw : IntKind.i64.wrap (IR : Int) = (IR : Int) := by rw [IntKind.wrap_i64]; omega
    have hQw : IntKind.i64.wrap (IQ : Int) = (IQ : Int) := by rw [IntKind.wrap_i64]; omega
    have hQw2 : wrap64 (IQ : Int) = (IQ : Int) := by unfold wrap64; omega
    by_cases h44 : x < 44
    · rw [if_pos h44] at T
      go_wp2_with fail
      refine T.mono ?_
      rintro _ _ ⟨rfl, rfl⟩
      go_wp2_with fail
      refine L.mono ?_
      rintro _ _ ⟨rfl, rfl⟩
      clear T L
      go_wp2
      go_loop [12] (fun v => ∃ Y : Nat, v = .int .i64 (Y : Int) ∧ 1 ≤ Y ∧ Y ≤ 128) (fun v => 128 - (intOf v).toNat)
      case atStart => exact ⟨1, rfl, by omega, by omega⟩
      case round =>
        obtain ⟨Y, rfl, hY1, hY⟩ := hrel
        by_cases hly : Y < 128
        case neg =>
          have hge : ¬ (Y : Int) < 128 := by omega
          go_wp2
          exact ⟨⟨I + 1, by simp, by omega⟩, by simp [intOf]; omega⟩
        have hly' : (Y : Int) < 128 := by omega
        obtain ⟨hk, hs⟩ := Hs.out Y hY1 hly
        have G := get_c g F ((Y : Int) * 256 + (I : Int)) _ Hg.out HFl.out.1 HFl.out.2
        rw [hk] at G
        clear hk
        generalize atN x y Y = k at *
        go_wp2_with fail
        refine G.mono ?_
        rintro _ _ ⟨rfl, rfl⟩
        clear G
        rcases hs with ⟨d1, d2, rfl⟩ | ⟨d1, d2, rfl⟩ | ⟨d1, d2, d3⟩
        · go_wp2
          exact ⟨⟨Y + 1, by simp, by omega, by omega⟩, by simp [intOf]; omega⟩
        · go_wp2
          exact ⟨⟨Y + 1, by simp, by omega, by omega⟩, by simp [intOf]; omega⟩
        · have d4 : ¬ x < (Y : Int) := by omega
          have f1 : (k == 0) = false := by simp [d2]
          have f2 : (k == 5) = false := by simp [d3]
          clear d1 d2 d3
          go_wp2
          exact ⟨⟨Y + 1, by simp, by omega, by omega⟩, by simp [intOf]; omega⟩
    · rw [if_neg h44] at T
      go_wp2_with fail
      refine T.mono ?_
      rintro _ _ ⟨rfl, rfl⟩
      go_wp2_with fail
      refine L.mono ?_
      rintro _ _ ⟨rfl, rfl⟩
      clear T L
      go_wp2
      go_loop [12] (fun v => ∃ Y : Nat, v = .int .i64 (Y : Int) ∧ 1 ≤ Y ∧ Y ≤ 128) (fun v => 128 - (intOf v).toNat)
      case atStart => exact ⟨1, rfl, by omega, by omega⟩
      case round =>
        obtain ⟨Y, rfl, hY1, hY⟩ := hrel
        by_cases hly : Y < 128
        case neg =>
          have hge : ¬ (Y : Int) < 128 := by omega
          go_wp2
          exact ⟨⟨I + 1, by simp, by omega⟩, by simp [intOf]; omega⟩
        have hly' : (Y : Int) < 128 := by omega
        obtain ⟨hk, hs⟩ := Hs.out Y hY1 hly
        have G := get_c g F ((Y : Int) * 256 + (I : Int)) _ Hg.out HFl.out.1 HFl.out.2
        rw [hk] at G
        clear hk
        generalize atN x y Y = k at *
        go_wp2_with fail
        refine G.mono ?_
        rintro _ _ ⟨rfl, rfl⟩
        clear G
        rcases hs with ⟨d1, d2, rfl⟩ | ⟨d1, d2, rfl⟩ | ⟨d1, d2, d3⟩
        · omega
        · go_wp2
          exact ⟨⟨Y + 1, by simp, by omega, by omega⟩, by simp [intOf]; omega⟩
        · have d4 : ¬ x < (Y : Int) := by omega
          have f1 : (k == 0) = false := by simp [d2]
          have f2 : (k == 5) = false := by simp [d3]
          clear d1 d2 d3
          go_wp2
          exact ⟨⟨Y + 1, by simp, by omega, by omega⟩, by simp [intOf]; omega⟩
end Go.Proofs.YtjlefocdkbjgaaaDoor