/-
  The landed caves: whether there is one that is not among chunks; Carve; what is asked of a caves package, of the landed one.
-/
import Derived.Test.YtajjaeaknonmfaaPsown
import Derived.Test.YtajjaeaknonmfaaPhollow
import Derived.LoopN
set_option maxRecDepth 20000
namespace Go.Proofs.Ytajjaeaknonmfaa
open C G Go.RowKit

/-- Where the first one is that there is not. -/
def IdxSay (ps : List (Option Nat)) (w : World) (e : Ending) (w' : World) : Prop := ∃ v : Int, e = .returned (.int .i64 v) ∧ (-1 ≤ v ∧ v ≤ 100) ∧ (0 ≤ v ↔ none ∈ ps) ∧ w' = w
set_option maxHeartbeats 1000000 in
theorem idx_c (a : Option Addr) (n c : Nat) (ps : List (Option Nat)) (w : World) (hP : PtrsAt w a ps) (hl : ps.length = n) (hn : n ≤ 100) : Calls Try.prog 44 #[.slice a n c, .pointer none] w (IdxSay ps w) := by
  obtain ⟨Post, hPost⟩ : ∃ Post, Post = IdxSay ps w := ⟨_, rfl⟩
  rw [← hPost]
  have HP : Hid (∀ v : Int, (-1 ≤ v ∧ v ≤ 100) → (0 ≤ v ↔ none ∈ ps) → Post (.returned (.int .i64 v)) w) := fun v h1 h2 => by rw [hPost]; exact ⟨v, rfl, h1, h2, rfl⟩
  clear hPost
  have HX : Hid (PtrsAt w a ps ∧ ps.length = n) := ⟨hP, hl⟩
  clear hP hl
  go_enter Try.func44, Try.ntmps44
  go_wp2
  go_loop [8] (fun y => ∃ (I : Nat), y = .int .i64 (I : Int) ∧ I ≤ n ∧ Hid (∀ i, i < I → ps.getD i none ≠ none)) (fun y => n - (intOf y).toNat)
  case atStart => exact ⟨0, rfl, by omega, fun i hi => by omega⟩
  case round =>
    obtain ⟨I, rfl, hI, HI⟩ := hrel
    by_cases hlt : I < n
    · have hlt' : (I : Int) < (n : Int) := by omega
      obtain ⟨b, o, rfl, hc⟩ := HX.out.1.cells I (by have := HX.out.2; omega)
      rcases hv : ps.getD I none with _ | g
      · rw [hv] at hc
        have hc' : w.cell? ⟨b, o + I, none⟩ = some (.pointer none) := hc
        have hmem : none ∈ ps := by
          have hlen := HX.out.2
          rw [List.getD_eq_getElem?_getD, List.getElem?_eq_getElem (by omega)] at hv
          have : ps[I]'(by omega) = none := by simpa using hv
          exact this ▸ List.getElem_mem _
        have R := HP.out (I : Int) (by omega) ⟨fun _ => hmem, fun _ => by omega⟩
        clear HP hc hv hmem HI
        go_wp2
        exact R
      · rw [hv] at hc
        have hc' : w.cell? ⟨b, o + I, none⟩ = some (.pointer (some ⟨g, 0, none⟩)) := hc
        have HI2 : Hid (∀ i, i < I + 1 → ps.getD i none ≠ none) := fun i hi => by
          by_cases e : i = I
          · rw [e, hv]; simp
          · exact HI.out i (by omega)
        have he : (binOp .eql 34 (.pointer none) (.pointer (some ⟨g, 0, none⟩))).run Try.prog w = .ok (.bool false) w := by kernel_rfl
        clear hc hv HI
        go_wp2
        exact ⟨⟨I + 1, by simp, by omega, HI2⟩, by simp [intOf]; omega⟩
    · have hge : ¬ (I : Int) < (n : Int) := by omega
      have hno : ¬ none ∈ ps := fun hm => by
        obtain ⟨i, hi, e⟩ := List.getElem_of_mem hm
        refine HI.out i (by have := HX.out.2; omega) ?_
        rw [List.getD_eq_getElem?_getD, List.getElem?_eq_getElem hi, e]
        rfl
      have R := HP.out (-1) (by omega) ⟨fun h => by omega, fun h => absurd h hno⟩
      clear HP HI hno
      go_wp2
      exact R
theorem contains_c (a : Option Addr) (n c : Nat) (ps : List (Option Nat)) (β : Bool) (w : World) (hP : PtrsAt w a ps) (hl : ps.length = n) (hn : n ≤ 100) (hβ : β = true ↔ none ∈ ps) : Calls Try.prog 28 #[.slice a n c, .pointer none] w fun e w' => e = .returned (.bool β) ∧ w' = w := by
  have hi := idx_c a n c ps w hP hl hn
  go_enter Try.func28, Try.ntmps28
  go_wp2_with fail
  refine hi.mono ?_
  rintro _ w1 ⟨v, rfl, hb, hv, hw⟩
  replace hw := hw.symm
  subst hw
  clear hi hP hl
  rcases β with _ | _
  · have h0 : ¬ 0 ≤ v := fun h => by have := hβ.2 (hv.1 h); cases this
    clear hβ hv
    go_wp2
    go_ret
    exact ⟨C.ret_bool (decide_eq_false (by omega)), rfl⟩
  · have h0 : 0 ≤ v := hv.2 (hβ.1 rfl)
    clear hβ hv
    go_wp2
    go_ret
    exact ⟨rfl, rfl⟩
theorem nine_ptrs {w : World} {a : Option Addr} {g : Nat → Nat} {css : List (List Int)} (h : N9 w a g css) : PtrsAt w a ((List.range 9).map fun i => some (g i)) := by
  have hget : ∀ i, i < 9 → ((List.range 9).map fun i => some (g i)).getD i none = some (g i) := fun i hi => by
    rw [List.getD_eq_getElem?_getD, List.getElem?_map, List.getElem?_range hi]
    rfl
  refine ⟨fun i hi => ?_, fun k hk => ?_⟩
  · have hi' : i < 9 := by simpa using hi
    obtain ⟨b, o, e, hr⟩ := h.row
    exact ⟨b, o, e, by rw [hget i hi']; exact hr i hi'⟩
  · rw [List.mem_map] at hk
    obtain ⟨i, hi, e⟩ := hk
    have hi' : i < 9 := List.mem_range.1 hi
    cases e
    exact ⟨_, h.blk i hi', h.len i hi', h.kin i hi'⟩
/-! ### what the stages are -/
theorem st_fit {fs : List Int} {css : List (List Int)} (h : FIs fs 2 (stF css)) : FIs fs 2 (fitN css) := h.congr fun x y z hb => by
  have := inB_iff.1 hb
  unfold stF fitN
  rw [decide_eq_true (show 6 ≤ y ∧ y ≤ 29 by omega), Bool.true_and]
theorem so_open {fs : List Int} {S : Nat} {cx cz : Int} {css : List (List Int)} (h : FIs fs 2 (soF S cx cz (fitN css))) : FIs fs 2 (open0 S cx cz css) := h.congr fun x y z hb => by
  unfold soF open0
  rw [hb, Bool.true_and]
theorem gr_one {fs : List Int} {S : Nat} {cx cz : Int} {css : List (List Int)} (h : FIs fs 1 (grF 2 (open0 S cx cz css) (fitN css))) : FIs fs 1 (open1 S cx cz css) := h.congr fun x y z hb =>
  step_fit (by omega) (fun _ _ _ h => open0_fit h) hb
theorem gr_two {fs : List Int} {S : Nat} {cx cz : Int} {css : List (List Int)} (h : FIs fs 0 (grF 1 (open1 S cx cz css) (fitN css))) : FIs fs 0 (open2 S cx cz css) := h.congr fun x y z hb =>
  step_fit (by omega) (fun _ _ _ h => open1_fit h) hb
/-! ### chunks that are not nine, or not there -/
set_option maxHeartbeats 1000000 in
theorem no_c (S : Nat) (cx cz : Int) (a : Option Addr) (n c : Nat) (ps : List (Option Nat)) (w : World) (hP : PtrsAt w a ps) (hl : ps.length = n) (hn : n ≤ 100) (hno : n ≠ 9 ∨ none ∈ ps) :
    Calls Try.prog 13 #[.int .u64 (S : Int), .agg #[.int .i64 cx, .int .i64 cz], .slice a n c] w fun e w' => e = .returned (.tuple #[.pointer none, .int .i64 1]) ∧ Below w.heap.size w w' := by
  have hbel : Below w.heap.size w (w.alloc (.cells #[.int .i64 cx, .int .i64 cz] 28)) := (Below.refl _ w).alloc (Nat.le_refl _) _
  have HB : Hid (Below w.heap.size w (w.alloc (.cells #[.int .i64 cx, .int .i64 cz] 28))) := hbel
  by_cases h9 : n = 9
  · have hm : none ∈ ps := hno.resolve_left (fun h => h h9)
    have hP' : PtrsAt (w.alloc (.cells #[.int .i64 cx, .int .i64 cz] 28)) a ps := ⟨fun i hi => by
      obtain ⟨b, o, e, hc⟩ := hP.cells i hi
      exact ⟨b, o, e, cell_below hc hbel⟩, fun g hg => by
      obtain ⟨cs, h1, h2⟩ := hP.blk g hg
      exact ⟨cs, h1.below hbel h1.lt, h2⟩⟩
    have hc := contains_c a n c ps true _ hP' hl hn ⟨fun _ => hm, fun _ => rfl⟩
    subst h9
    clear hP hP' hm hno hl hn hbel
    go_enter Try.func13, Try.ntmps13
    go_wp2_with fail
    refine hc.mono ?_
    rintro _ w1 ⟨rfl, hw⟩
    replace hw := hw.symm
    subst hw
    clear hc
    go_wp2
    exact bodyPost_ret (results_tmp2 (t := 6) (u := 7) rfl _ _ _) rfl ⟨rfl, HB.out⟩
  · have h9' : ((n : Int) == 9) = false := by simp; omega
    clear hP hno hl hn hbel
    go_enter Try.func13, Try.ntmps13
    go_wp2
    exact bodyPost_ret (results_tmp2 (t := 6) (u := 7) rfl _ _ _) rfl ⟨rfl, HB.out⟩
/-! ### Carve -/
def CvSay (S : Nat) (cx cz : Int) (css : List (List Int)) (w : World) (e : Ending) (w' : World) : Prop := Below w.heap.size w w' ∧ ∃ g', e = .returned (.tuple #[.pointer (some ⟨g', 0, none⟩), .int .i64 0]) ∧ Blk w' g' 73 (carveN S cx cz css)
set_option maxRecDepth 100000 in
set_option maxHeartbeats 2000000 in
theorem carve_c (S : Nat) (cx cz : Int) (a : Option Addr) (c : Nat) (g : Nat → Nat) (css : List (List Int)) (w : World) (hS : S < 18446744073709551616) (hcx : Far 1073741824 cx) (hcz : Far 1073741824 cz) (hN : N9 w a g css) :
    Calls Try.prog 13 #[.int .u64 (S : Int), .agg #[.int .i64 cx, .int .i64 cz], .slice a 9 c] w (CvSay S cx cz css w) := by
  obtain ⟨Post, hPost⟩ : ∃ Post : Ending → World → Prop, Post = CvSay S cx cz css w := ⟨_, rfl⟩
  rw [← hPost]
  have HP : Hid (∀ g' w', Blk w' g' 73 (carveN S cx cz css) → Below w.heap.size w w' → Post (.returned (.tuple #[.pointer (some ⟨g', 0, none⟩), .int .i64 0])) w') := fun g' w' h1 h2 => by rw [hPost]; exact ⟨h2, _, rfl, h1⟩
  clear hPost
  have hbel : Below w.heap.size w (w.alloc (.cells #[.int .i64 cx, .int .i64 cz] 28)) := (Below.refl _ w).alloc (Nat.le_refl _) _
  have hnew := heap_alloc_new w (.cells #[.int .i64 cx, .int .i64 cz] 28)
  obtain ⟨nb, no, rfl, hrow⟩ := hN.row
  have hN1 := hN.on hbel
  have HN : Hid (N9 (w.alloc (.cells #[.int .i64 cx, .int .i64 cz] 28)) (some ⟨nb, no, none⟩) g css) := hN1
  have hc := contains_c (some ⟨nb, no, none⟩) 9 c _ false _ (nine_ptrs hN1) (by simp) (by omega) ⟨fun h => (by cases h), fun h => (by
    rw [List.mem_map] at h
    obtain ⟨_, _, e⟩ := h
    cases e)⟩
  have hst := stony_c (some ⟨nb, no, none⟩) c g css _ hN1
  have hrow1 : (w.alloc (.cells #[.int .i64 cx, .int .i64 cz] 28)).cell? ⟨nb, no + 4, none⟩ = some (.pointer (some ⟨g 4, 0, none⟩)) := cell_below (hrow 4 (by omega)) hbel
  have HL : Hid (Below w.heap.size w (w.alloc (.cells #[.int .i64 cx, .int .i64 cz] 28)) ∧ (w.alloc (.cells #[.int .i64 cx, .int .i64 cz] 28)).heap[w.heap.size]? = some (.cells #[.int .i64 cx, .int .i64 cz] 28) ∧ (w.alloc (.cells #[.int .i64 cx, .int .i64 cz] 28)).cell? ⟨nb, no + 4, none⟩ = some (.pointer (some ⟨g 4, 0, none⟩))) := ⟨hbel, hnew, hrow1⟩
  clear hN hN1 hrow hrow1 hnew hbel
  have hz := zero61
  obtain ⟨Z, hZ⟩ : ∃ Z, Z = List.replicate 10400 (0 : Int) := ⟨_, rfl⟩
  rw [← hZ] at hz
  have hZl : Z.length = 10400 := by rw [hZ, List.length_replicate]
  clear hZ
  obtain ⟨V, hV⟩ : ∃ V, V = vals Z := ⟨_, rfl⟩
  rw [← hV] at hz
  have hVs : V.size = 10400 := by rw [hV, vals_size, hZl]
  have HV : Hid (V = vals Z) := hV
  clear hV
  go_enter Try.func13, Try.ntmps13
  go_wp2_with fail
  refine hc.mono ?_
  rintro _ w0 ⟨rfl, hw⟩
  replace hw := hw.symm
  subst hw
  clear hc
  go_wp2_with fail
  refine hst.mono ?_
  clear hst
  rintro _ w1 ⟨hb1, fs, rfl, hFi0⟩
  have hFi := st_fit hFi0
  clear hFi0
  have hl1 := hFi.len
  have hn1 : Blk (w1.alloc (.cells V 61)) w1.heap.size 61 Z := by rw [HV.out]; exact Blk.new w1 61 Z
  obtain ⟨w2, hw2⟩ : ∃ w2, w2 = (w1.alloc (.cells V 61)).setRow w1.heap.size (vals fs) := ⟨_, rfl⟩
  have hb2 : Below w1.heap.size w1 w2 := by rw [hw2]; exact below_row ((Below.refl _ w1).alloc (Nat.le_refl _) _) (Nat.le_refl _) _
  have hf2 : Blk w2 w1.heap.size 61 fs := by rw [hw2]; exact blk_row hn1
  have hx2 := (hb2.block w.heap.size (by have := hb1.size; simp at this; omega)).trans ((hb1.block w.heap.size (by simp)).trans HL.out.2.1)
  have q0 : w2.cell? ⟨w.heap.size, 0, none⟩ = some (.int .i64 cx) := (cell_of_row w2 _ 0 _ 28 (0, 0) hx2).trans rfl
  have q1 : w2.cell? ⟨w.heap.size, 1, none⟩ = some (.int .i64 cz) := (cell_of_row w2 _ 1 _ 28 (0, 0) hx2).trans rfl
  have HB2 : Hid (Below w1.heap.size w1 w2 ∧ Blk w2 w1.heap.size 61 fs) := ⟨hb2, hf2⟩
  have HB1 : Hid (Below (w.alloc (.cells #[.int .i64 cx, .int .i64 cz] 28)).heap.size (w.alloc (.cells #[.int .i64 cx, .int .i64 cz] 28)) w1) := hb1
  have hso := sown_c S cx cz w1.heap.size fs (fitN css) w2 hS hcx hcz hf2 hFi
  clear hb1 hb2 hf2 hx2
  go_wp2_with (first | (refine wpList_store_fld rfl _ _ rfl w1.heap.size fs Z rfl rfl hn1 hl1 hZl ?_; rw [← hw2]; clear hw2 hn1))
  refine hso.mono ?_
  clear hso
  rintro _ w3 ⟨hb3, os0, rfl, hO0⟩
  have hOi := so_open hO0
  clear hO0
  have hl3 := hOi.len
  have hn3 : Blk (w3.alloc (.cells V 61)) w3.heap.size 61 Z := by rw [HV.out]; exact Blk.new w3 61 Z
  obtain ⟨w4, hw4⟩ : ∃ w4, w4 = (w3.alloc (.cells V 61)).setRow w3.heap.size (vals os0) := ⟨_, rfl⟩
  have hb4 : Below w3.heap.size w3 w4 := by rw [hw4]; exact below_row ((Below.refl _ w3).alloc (Nat.le_refl _) _) (Nat.le_refl _) _
  have hf4 : Blk w4 w3.heap.size 61 os0 := by rw [hw4]; exact blk_row hn3
  have hff4 : Blk w4 w1.heap.size 61 fs := ((HB2.out.2.below hb3 HB2.out.2.lt).below hb4 (by have := HB2.out.2.lt; have := hb3.size; omega))
  have hne : w1.heap.size < w3.heap.size := by have := HB2.out.2.lt; have := hb3.size; omega
  have hb14 : Below (w.alloc (.cells #[.int .i64 cx, .int .i64 cz] 28)).heap.size (w.alloc (.cells #[.int .i64 cx, .int .i64 cz] 28)) w4 := HB1.out.trans ((HB2.out.1.trans (hb3.mono HB2.out.1.size)).mono HB1.out.size |>.trans (hb4.mono (by have := HB1.out.size; omega)))
  have HB4 : Hid (Below (w.alloc (.cells #[.int .i64 cx, .int .i64 cz] 28)).heap.size (w.alloc (.cells #[.int .i64 cx, .int .i64 cz] 28)) w4) := hb14
  have H4 : Hid (Blk w4 w3.heap.size 61 os0 ∧ Blk w4 w1.heap.size 61 fs ∧ w1.heap.size < w3.heap.size ∧ (w.alloc (.cells #[.int .i64 cx, .int .i64 cz] 28)).heap.size ≤ w1.heap.size) := ⟨hf4, hff4, hne, HB1.out.size⟩
  have hgr := grown_c w3.heap.size w1.heap.size os0 fs 2 1 (open0 S cx cz css) (fitN css) w4 hf4 hff4 hOi hFi (by omega) (by omega)
  clear hb3 hb4 hf4 hff4 hb14 q0 q1 HB2 HB1 hne
  go_wp2_with (first | (refine wpList_store_fld rfl _ _ rfl w3.heap.size os0 Z rfl rfl hn3 hl3 hZl ?_; rw [← hw4]; clear hw4 hn3))
  refine wp_loop_rounds 3 ?_
  rw [rounds_succ]
  go_wp2_with fail
  refine hgr.mono ?_
  clear hgr
  rintro _ w5 ⟨hb5, os1, rfl, hO1⟩
  have hOi1 := gr_one hO1
  clear hO1
  have hl5 := hOi1.len
  have hn5 : Blk w5 w3.heap.size 61 os0 := H4.out.1.below hb5 H4.out.1.lt
  obtain ⟨w6, hw6⟩ : ∃ w6, w6 = w5.setRow w3.heap.size (vals os1) := ⟨_, rfl⟩
  have hf6 : Blk w6 w3.heap.size 61 os1 := by rw [hw6]; exact blk_row hn5
  have hff6 : Blk w6 w1.heap.size 61 fs := by rw [hw6]; exact blk_rowOther (H4.out.2.1.below hb5 H4.out.2.1.lt) (by have := H4.out.2.2.1; omega)
  have hb6 : Below (w.alloc (.cells #[.int .i64 cx, .int .i64 cz] 28)).heap.size (w.alloc (.cells #[.int .i64 cx, .int .i64 cz] 28)) w6 := by rw [hw6]; exact below_row (HB4.out.trans (hb5.mono HB4.out.size)) (by have := H4.out.2.2; omega) _
  have HB6 : Hid (Below (w.alloc (.cells #[.int .i64 cx, .int .i64 cz] 28)).heap.size (w.alloc (.cells #[.int .i64 cx, .int .i64 cz] 28)) w6) := hb6
  have H6 : Hid (Blk w6 w3.heap.size 61 os1 ∧ Blk w6 w1.heap.size 61 fs ∧ w1.heap.size < w3.heap.size ∧ (w.alloc (.cells #[.int .i64 cx, .int .i64 cz] 28)).heap.size ≤ w1.heap.size) := ⟨hf6, hff6, H4.out.2.2.1, H4.out.2.2.2⟩
  have hgr := grown_c w3.heap.size w1.heap.size os1 fs 1 0 (open1 S cx cz css) (fitN css) w6 hf6 hff6 hOi1 hFi (by omega) (by omega)
  clear hb5 hf6 hff6 hb6 HB4 H4
  go_wp2_with (first | (refine wpList_store_fld rfl _ _ rfl w3.heap.size os1 os0 rfl rfl hn5 hl5 hl3 ?_; rw [← hw6]; clear hw6 hn5))
  rw [rounds_succ]
  go_wp2_with fail
  refine hgr.mono ?_
  clear hgr
  rintro _ w7 ⟨hb7, os2, rfl, hO2⟩
  have hOi2 := gr_two hO2
  clear hO2
  have hl7 := hOi2.len
  have hn7 : Blk w7 w3.heap.size 61 os1 := H6.out.1.below hb7 H6.out.1.lt
  obtain ⟨w8, hw8⟩ : ∃ w8, w8 = w7.setRow w3.heap.size (vals os2) := ⟨_, rfl⟩
  have hf8 : Blk w8 w3.heap.size 61 os2 := by rw [hw8]; exact blk_row hn7
  have hb8 : Below (w.alloc (.cells #[.int .i64 cx, .int .i64 cz] 28)).heap.size (w.alloc (.cells #[.int .i64 cx, .int .i64 cz] 28)) w8 := by rw [hw8]; exact below_row (HB6.out.trans (hb7.mono HB6.out.size)) (by have := H6.out.2.2; omega) _
  have HB8 : Hid (Below (w.alloc (.cells #[.int .i64 cx, .int .i64 cz] 28)).heap.size (w.alloc (.cells #[.int .i64 cx, .int .i64 cz] 28)) w8) := hb8
  have hg8 : Blk w8 (g 4) 73 (css.getD 4 []) := (HN.out.blk 4 (by omega)).below hb8 (HN.out.blk 4 (by omega)).lt
  have hx8 : w8.cell? ⟨nb, no + 4, none⟩ = some (.pointer (some ⟨g 4, 0, none⟩)) := cell_below HL.out.2.2 hb8
  have hho := hollow_c (g 4) w3.heap.size (css.getD 4 []) os2 (open2 S cx cz css) w8 hg8 (HN.out.len 4 (by omega)) hf8 hOi2
  clear hb7 hf8 hb8 hg8 HB6 H6
  go_wp2_with (first | (refine wpList_store_fld rfl _ _ rfl w3.heap.size os2 os1 rfl rfl hn7 hl7 hl5 ?_; rw [← hw8]; clear hw8 hn7))
  rw [rounds_succ]
  go_wp2_with fail
  refine hho.mono ?_
  clear hho
  rintro _ w9 ⟨hb9, g', rfl, hB9⟩
  have R := HP.out g' w9 (by
    have e : mkC (hoF (open2 S cx cz css)) (boxD 0) (css.getD 4 []) = carveN S cx cz css := carve_is S cx cz css (HN.out.len 4 (by omega))
    rw [← e]
    exact hB9) (HL.out.1.trans ((HB8.out.trans (hb9.mono HB8.out.size)).mono HL.out.1.size))
  clear HP hb9 hB9
  go_wp2
  exact R

/-- What is asked of a caves package, of the landed one. -/
def vspec : VSpec where
  G := fun _ => True
  on := fun _ _ => trivial
  seed_ := fun S X Y Z w hS _ _ _ _ => seed_c S X Y Z w hS
  carve_ := fun S cx cz a c g css w hS hx hz hN _ => carve_c S cx cz a c g css w hS hx hz hN
  no_ := fun S cx cz a n c ps w _ _ _ hP hl hn hno _ => no_c S cx cz a n c ps w hP hl hn hno
theorem vspec_any (w : World) : vspec.G w := trivial
end Go.Proofs.Ytajjaeaknonmfaa
