/-
  The chapter's examples.
-/
import Derived.Test.YtfpcfgfpebdplaaHold
import Derived.Test.YtfpcfgfpebdplaaBlock
import Derived.Test.YtfpcfgfpebdplaaRfiles
namespace Go.Proofs.Ytfpcfgfpebdplaa
open Go.RowKit Go.Maps

/-- The examples' disk, step by step. -/
def S1 : St := ⟨[⟨(2, 0, 0), 3, List.replicate 32 1⟩], false, false, 0, 1⟩
def S2 : St := ⟨[⟨(2, 0, 0), 3, List.replicate 32 1⟩], false, true, 1, 1⟩
def S3 : St := ⟨[⟨(2, 0, 0), 3, List.replicate 32 2⟩], true, true, 0, 2⟩
def S4 : St := ⟨[⟨(2, 0, 0), 3, List.replicate 32 2⟩], false, false, 0, 2⟩
theorem ex1 : St.new.write (2, 0, 0) 3 (List.replicate 32 1) = (0, S1) := rfl
theorem ex2 : S1.cut 1 = S2 := rfl
theorem ex3 : S2.write (2, 0, 0) 3 (List.replicate 32 2) = (0, S3) := rfl
theorem ex4 : S3.write (2, 0, 0) 3 (List.replicate 32 3) = (8, S3) := rfl
theorem ex5 : S3.read (2, 0, 0) 3 = (8, []) := rfl
theorem ex6 : S3.up = S4 := rfl
theorem ex7 : S4.read (2, 0, 0) 3 = (0, List.replicate 32 2) := rfl
theorem ex8 : lenOf (at_ S1.l) (2, 0, 0) = 4 := by decide
theorem ex9 : lenOf (at_ S4.l) (3, 0, 0) = 0 := by decide
theorem two64 : I64F (2, 0, 0) := by unfold I64F I64; decide
theorem three64 : I64F (3, 0, 0) := by unfold I64F I64; decide
theorem i3 : I64 3 := by unfold I64; decide
theorem at3_kept2 {B X : Nat} {f1 f2 f3 : Int} {w w' : World} (h : At3 X f1 f2 f3 w) (hk : Kept B (fun k => k = X) w w') : At3 X f1 f2 f3 w' := by
  have k : ∀ m v, w.cell? ⟨X, m, none⟩ = some v → w'.cell? ⟨X, m, none⟩ = some v := fun m v hv => by
    rw [← hv]
    exact World.cell?_of_block (a := ⟨X, m, none⟩) (hk.block X (World.block_lt_of_cell? w _ hv) (Or.inr rfl))
  exact ⟨k _ _ h.1, k _ _ h.2.1, k _ _ h.2.2⟩
theorem at3_below {X : Nat} {f1 f2 f3 : Int} {w w' : World} (h : At3 X f1 f2 f3 w) (hb : Below w.heap.size w w') : At3 X f1 f2 f3 w' := at3_kept2 (B := 0) h (Kept.of_below hb)
theorem at3_drew {X : Nat} {f1 f2 f3 : Int} {w : World} (h : At3 X f1 f2 f3 w) : At3 X f1 f2 f3 w.drew := h
theorem row_src {w : World} {g : Nat} {zs : List Int} (h : Row w g zs) (hf : ∀ z ∈ zs, 0 ≤ z ∧ z ≤ 255) : Src w (some ⟨g, 0, none⟩) zs.length zs :=
  ⟨rfl, fun k hk => ⟨g, 0, rfl, h.lt, by rw [Nat.zero_add, h.cell k hk, List.getD_eq_getElem?_getD, List.getElem?_eq_getElem hk]; rfl⟩, fun k => by
    rw [List.getD_eq_getElem?_getD]
    cases e : zs[k]? with
    | none => exact ⟨by decide, by decide⟩
    | some z => exact hf z (List.mem_of_getElem? e)⟩
theorem blk_src {w : World} {g t : Nat} {zs : List Int} (h : Blk w g t zs) (hf : ∀ z ∈ zs, 0 ≤ z ∧ z ≤ 255) : Src w (some ⟨g, 0, none⟩) zs.length zs :=
  ⟨rfl, fun k hk => ⟨g, 0, rfl, h.lt, by rw [Nat.zero_add]; exact h.cell hk⟩, fun k => by
    rw [List.getD_eq_getElem?_getD]
    cases e : zs[k]? with
    | none => exact ⟨by decide, by decide⟩
    | some z => exact hf z (List.mem_of_getElem? e)⟩
theorem twos : ∀ z ∈ List.replicate 32 (2 : Int), 0 ≤ z ∧ z ≤ 255 := fun z hz => by rw [List.eq_of_mem_replicate hz]; decide
theorem small (c : Int) (hc : 0 ≤ c ∧ c ≤ 255) : ∀ z ∈ List.replicate 32 c, 0 ≤ z ∧ z ≤ 255 := fun z hz => by rw [List.eq_of_mem_replicate hz]; exact hc

theorem read_none {k : Int} {w w' : World} {e : Ending} (h : PReadSay (k, []) w e w') : e = .returned (.tuple #[.slice none 0 0, .int .i64 k]) ∧ Below w.heap.size w w' := by
  obtain ⟨hb, ⟨_, he⟩ | ⟨_, _, _, _, h, _⟩⟩ := h
  · exact ⟨he, hb⟩
  · simp at h
theorem read_full {k : Int} {L : List Int} {w w' : World} {e : Ending} (h : PReadSay (k, L) w e w') (hL : L ≠ []) : ∃ p, w.heap.size ≤ p ∧ e = .returned (.tuple #[.slice (some ⟨p, 0, none⟩) 32 32, .int .i64 k]) ∧ Below w.heap.size w w' ∧ Blk w' p 66 L ∧ L.length = 32 ∧ ∀ z ∈ L, 0 ≤ z ∧ z ≤ 255 := by
  obtain ⟨hb, ⟨h, _⟩ | ⟨p, hp, he, hB, hl, hf⟩⟩ := h
  · exact absurd h hL
  · exact ⟨p, hp, he, hb, hB, hl, hf⟩
/-- Thirty-two twos. -/
def tw : List Int := List.replicate 32 2
/-- In the examples' last line. -/
def AtE (B X d p : Nat) (w' : World) : Prop := Hold B (fun k => k = X) w' d S4 ∧ Blk w' p 66 tw
theorem blk_below {w w' : World} {b t : Nat} {cs : List Int} (h : Blk w b t cs) (hb : Below w.heap.size w w') : Blk w' b t cs := h.below hb h.lt
theorem row_below {w w' : World} {b : Nat} {cs : List Int} (h : Row w b cs) (hb : Below w.heap.size w w') : Row w' b cs := h.below hb h.lt

set_option maxHeartbeats 4000000 in
theorem awake_c (w : World) : Calls Try.prog 7 #[] w fun e w' => e = .returned (.bool true) ∧ Below w.heap.size w w' := by
  obtain ⟨Post, hPost⟩ : ∃ Post : Ending → World → Prop, Post = fun e w' => e = .returned (.bool true) ∧ Below w.heap.size w w' := ⟨_, rfl⟩
  rw [← hPost]
  have HP : Hid (∀ w', Below w.heap.size w w' → Post (.returned (.bool true)) w') := fun w' h => by rw [hPost]; exact ⟨rfl, h⟩
  clear hPost
  go_enter Try.func7, Try.ntmps7
  go_wp2_with fail
  refine (hnew w.heap.size (fun _ => False) w (Nat.le_refl _) (fun _ h => h.elim)).mono ?_
  rintro e w1 ⟨d, rfl, hD1, hb1⟩
  have HN1 : Hid (Below w.heap.size w w1) := hb1
  have HD1 : Hid (Hold w.heap.size (fun _ => False) w1 d St.new) := hD1
  have hs1 : w.heap.size ≤ w1.heap.size := hb1.size
  clear hb1 hD1
  go_upto_region 5 with fail
  have hbx : Below w1.heap.size w1 (w1.alloc (.cells #[.int .i64 2, .int .i64 0, .int .i64 0] 30)) := (Below.refl _ _).alloc (Nat.le_refl _) _
  have HD2 : Hid (Hold w.heap.size (fun k => k = w1.heap.size) (w1.alloc (.cells #[.int .i64 2, .int .i64 0, .int .i64 0] 30)) d St.new) := (HD1.out.more hbx).less (fun k h => Or.inr (Nat.le_of_eq h.symm))
  have HA2 : Hid (At3 w1.heap.size 2 0 0 (w1.alloc (.cells #[.int .i64 2, .int .i64 0, .int .i64 0] 30))) := by have h := heap_alloc_new w1 (.cells #[.int .i64 2, .int .i64 0, .int .i64 0] 30); exact ⟨by rw [cell_of_row _ _ 0 _ 30 (0, 0) h]; rfl, by rw [cell_of_row _ _ 1 _ 30 (0, 0) h]; rfl, by rw [cell_of_row _ _ 2 _ 30 (0, 0) h]; rfl⟩
  have HN2 : Hid (Below w.heap.size w (w1.alloc (.cells #[.int .i64 2, .int .i64 0, .int .i64 0] 30))) := HN1.out.alloc hs1 _
  have hX2 : w1.heap.size < (w1.alloc (.cells #[.int .i64 2, .int .i64 0, .int .i64 0] 30)).heap.size := by rw [World.size_alloc]; omega
  clear hbx HD1 HN1
  generalize w1.alloc (.cells #[.int .i64 2, .int .i64 0, .int .i64 0] 30) = w2 at *
  generalize w1.heap.size = X at *
  go_wp2
  refine region_L (At3 X 2 0 0) 4 (by kernel_rfl) ?_
  have HDa : Hid (Hold w.heap.size (fun k => k = X) w2.drew d St.new) := HD2.out.drew
  have HAa : Hid (At3 X 2 0 0 w2.drew) := HA2.out
  have HNa : Hid (Below w.heap.size w w2.drew) := HN2.out.drew
  have hXa : X < w2.drew.heap.size := hX2
  clear HD2 HA2 HN2 hX2
  generalize w2.drew = va at *
  have hHeld : (At3 X 2 0 0) _ := HAa.out
  have hne : Nonempty (Sub (At3 X 2 0 0)) := ⟨⟨_, hHeld⟩⟩
  have k0 : ∀ s : Sub (At3 X 2 0 0), s.w.cell? ⟨X, 0, none⟩ = some (.int .i64 2) := fun s => s.ok.1
  have k1 : ∀ s : Sub (At3 X 2 0 0), s.w.cell? ⟨X, 1, none⟩ = some (.int .i64 0) := fun s => s.ok.2.1
  have k2 : ∀ s : Sub (At3 X 2 0 0), s.w.cell? ⟨X, 2, none⟩ = some (.int .i64 0) := fun s => s.ok.2.2
  refine take_L (i := 0) rfl (by kernel_rfl) (by kernel_rfl) (by kernel_rfl) (by kernel_rfl) (fun _ _ _ _ h => h) (by exact hHeld) (fun K hK => ?_)
  go_simp
  refine hK _ ?_
  clear hK K
  refine take_L (i := 1) rfl (by kernel_rfl) (by kernel_rfl) (by kernel_rfl) (by kernel_rfl) (fun _ _ _ _ h => h) (by exact hHeld) (fun K hK => ?_)
  go_simp
  refine hK _ ?_
  clear hK K
  refine one_L (i := 2) (by kernel_rfl) rfl (fun K hK => ?_)
  go_simp
  refine (block_c 1 va).mono ?_
  rintro _ vb ⟨⟨rfl, hrb⟩, hbb⟩
  have HRb : Hid (Row vb va.heap.size (List.replicate 32 1)) := hrb
  have HDb : Hid (Hold w.heap.size (fun k => k = X) vb d St.new) := HDa.out.inside hbb
  have HNb : Hid (Below w.heap.size w vb) := HNa.out.trans (hbb.mono HNa.out.size)
  have hXb : X < vb.heap.size := Nat.lt_of_lt_of_le hXa hbb.size
  have hsb : w.heap.size ≤ vb.heap.size := HNb.out.size
  have hAb := at3_below hHeld hbb
  clear hrb hbb
  replace hHeld : (At3 X 2 0 0) _ := hAb
  refine hK.out _ _ (fun _ => hHeld) ?_
  clear hK K
  refine one_L (i := 3) (by kernel_rfl) rfl (fun K hK => ?_)
  go_simp
  refine (hwrite w.heap.size (fun k => k = X) d St.new 2 0 0 3 (some ⟨va.heap.size, 0, none⟩) 32 32 (List.replicate 32 1) two64 vb HDb.out hsb (fun k hk => hk ▸ hXb) (HRb.out.bytes (small 1 (by decide)) 32 rfl) (by decide)).mono ?_
  rintro _ w3 ⟨rfl, hDc, hKc⟩
  rw [ex1] at hDc ⊢
  have HD3 : Hid (Hold w.heap.size (fun k => k = X) w3 d S1) := hDc
  have HN3 : Hid (Below w.heap.size w w3) := HNb.out.trans (hKc.below hsb)
  have hX3 : X < w3.heap.size := Nat.lt_of_lt_of_le hXb hKc.size
  have hAc := at3_kept2 hHeld hKc
  clear hDc hKc
  replace hHeld : (At3 X 2 0 0) _ := hAc
  refine hK.out _ _ (fun _ => hHeld) ?_
  clear hK K
  refine one_L (i := 4) (by kernel_rfl) rfl (fun K hK => ?_)
  go_simp
  refine hK.out _ _ (fun h => absurd rfl h) ?_
  clear hK K
  refine done_L (by kernel_rfl) ?_ _
  have HA3 : Hid (At3 X 2 0 0 w3) := hHeld
  clear hHeld hne k0 k1 k2 hAb hAc HDa HAa HNa hXa HDb HNb hXb hsb HRb
  have x0 := HA3.out.1
  have x1 := HA3.out.2.1
  have x2 := HA3.out.2.2
  go_wp2_with fail
  refine (hlen w.heap.size (fun k => k = X) d S1 2 0 0 two64 w3 HD3.out).mono ?_
  rintro e w4 ⟨rfl, hb4⟩
  rw [ex8]
  have HK4 : Hid (Kept w.heap.size (fun k => k = X) w3 w4) := Kept.of_below hb4
  have HD4 : Hid (Hold w.heap.size (fun k => k = X) w4 d S1) := HD3.out.inside hb4
  have HA4 : Hid (At3 X 2 0 0 w4) := at3_kept2 HA3.out HK4.out
  have hX4 : X < w4.heap.size := Nat.lt_of_lt_of_le hX3 HK4.out.size
  have HN4 : Hid (Below w.heap.size w w4) := HN3.out.trans (HK4.out.below HN3.out.size)
  clear x0 x1 x2 hb4 HK4 HD3 HA3 hX3 HN3
  go_wp2_with fail
  refine (hcut w.heap.size (fun k => k = X) d S1 1 (by decide) w4 HD4.out).mono ?_
  rintro e w5 ⟨rfl, hD5, hK5⟩
  rw [ex2] at hD5
  have HD5 : Hid (Hold w.heap.size (fun k => k = X) w5 d S2) := hD5
  have HA5 : Hid (At3 X 2 0 0 w5) := at3_kept2 HA4.out hK5
  have hX5 : X < w5.heap.size := Nat.lt_of_lt_of_le hX4 hK5.size
  have HN5 : Hid (Below w.heap.size w w5) := HN4.out.trans (hK5.below HN4.out.size)
  clear hD5 hK5 HD4 HA4 hX4 HN4
  go_wp2
  refine region_L (At3 X 2 0 0) 4 (by kernel_rfl) ?_
  have HDa : Hid (Hold w.heap.size (fun k => k = X) w5.drew d S2) := HD5.out.drew
  have HAa : Hid (At3 X 2 0 0 w5.drew) := HA5.out
  have HNa : Hid (Below w.heap.size w w5.drew) := HN5.out.drew
  have hXa : X < w5.drew.heap.size := hX5
  clear HD5 HA5 HN5 hX5
  generalize w5.drew = va at *
  have hHeld : (At3 X 2 0 0) _ := HAa.out
  have hne : Nonempty (Sub (At3 X 2 0 0)) := ⟨⟨_, hHeld⟩⟩
  have k0 : ∀ s : Sub (At3 X 2 0 0), s.w.cell? ⟨X, 0, none⟩ = some (.int .i64 2) := fun s => s.ok.1
  have k1 : ∀ s : Sub (At3 X 2 0 0), s.w.cell? ⟨X, 1, none⟩ = some (.int .i64 0) := fun s => s.ok.2.1
  have k2 : ∀ s : Sub (At3 X 2 0 0), s.w.cell? ⟨X, 2, none⟩ = some (.int .i64 0) := fun s => s.ok.2.2
  refine take_L (i := 0) rfl (by kernel_rfl) (by kernel_rfl) (by kernel_rfl) (by kernel_rfl) (fun _ _ _ _ h => h) (by exact hHeld) (fun K hK => ?_)
  go_simp
  refine hK _ ?_
  clear hK K
  refine take_L (i := 1) rfl (by kernel_rfl) (by kernel_rfl) (by kernel_rfl) (by kernel_rfl) (fun _ _ _ _ h => h) (by exact hHeld) (fun K hK => ?_)
  go_simp
  refine hK _ ?_
  clear hK K
  refine one_L (i := 2) (by kernel_rfl) rfl (fun K hK => ?_)
  go_simp
  refine (block_c 2 va).mono ?_
  rintro _ vb ⟨⟨rfl, hrb⟩, hbb⟩
  have HRb : Hid (Row vb va.heap.size (List.replicate 32 2)) := hrb
  have HDb : Hid (Hold w.heap.size (fun k => k = X) vb d S2) := HDa.out.inside hbb
  have HNb : Hid (Below w.heap.size w vb) := HNa.out.trans (hbb.mono HNa.out.size)
  have hXb : X < vb.heap.size := Nat.lt_of_lt_of_le hXa hbb.size
  have hsb : w.heap.size ≤ vb.heap.size := HNb.out.size
  have hAb := at3_below hHeld hbb
  clear hrb hbb
  replace hHeld : (At3 X 2 0 0) _ := hAb
  refine hK.out _ _ (fun _ => hHeld) ?_
  clear hK K
  refine one_L (i := 3) (by kernel_rfl) rfl (fun K hK => ?_)
  go_simp
  refine (hwrite w.heap.size (fun k => k = X) d S2 2 0 0 3 (some ⟨va.heap.size, 0, none⟩) 32 32 (List.replicate 32 2) two64 vb HDb.out hsb (fun k hk => hk ▸ hXb) (HRb.out.bytes (small 2 (by decide)) 32 rfl) (by decide)).mono ?_
  rintro _ w6 ⟨rfl, hDc, hKc⟩
  rw [ex3] at hDc ⊢
  have HD6 : Hid (Hold w.heap.size (fun k => k = X) w6 d S3) := hDc
  have HN6 : Hid (Below w.heap.size w w6) := HNb.out.trans (hKc.below hsb)
  have hX6 : X < w6.heap.size := Nat.lt_of_lt_of_le hXb hKc.size
  have hAc := at3_kept2 hHeld hKc
  clear hDc hKc
  replace hHeld : (At3 X 2 0 0) _ := hAc
  refine hK.out _ _ (fun _ => hHeld) ?_
  clear hK K
  refine one_L (i := 4) (by kernel_rfl) rfl (fun K hK => ?_)
  go_simp
  refine hK.out _ _ (fun h => absurd rfl h) ?_
  clear hK K
  refine done_L (by kernel_rfl) ?_ _
  have HA6 : Hid (At3 X 2 0 0 w6) := hHeld
  clear hHeld hne k0 k1 k2 hAb hAc HDa HAa HNa hXa HDb HNb hXb hsb HRb
  go_wp2_with fail
  refine (hon w.heap.size (fun k => k = X) d S3 w6 HD6.out).mono ?_
  rintro e wq ⟨rfl, hwq⟩
  replace hwq := hwq.symm
  subst hwq
  rw [show (!S3.out) = false from rfl]
  go_wp2
  refine region_L (At3 X 2 0 0) 4 (by kernel_rfl) ?_
  have HDa : Hid (Hold w.heap.size (fun k => k = X) w6.drew d S3) := HD6.out.drew
  have HAa : Hid (At3 X 2 0 0 w6.drew) := HA6.out
  have HNa : Hid (Below w.heap.size w w6.drew) := HN6.out.drew
  have hXa : X < w6.drew.heap.size := hX6
  clear HD6 HA6 HN6 hX6
  generalize w6.drew = va at *
  have hHeld : (At3 X 2 0 0) _ := HAa.out
  have hne : Nonempty (Sub (At3 X 2 0 0)) := ⟨⟨_, hHeld⟩⟩
  have k0 : ∀ s : Sub (At3 X 2 0 0), s.w.cell? ⟨X, 0, none⟩ = some (.int .i64 2) := fun s => s.ok.1
  have k1 : ∀ s : Sub (At3 X 2 0 0), s.w.cell? ⟨X, 1, none⟩ = some (.int .i64 0) := fun s => s.ok.2.1
  have k2 : ∀ s : Sub (At3 X 2 0 0), s.w.cell? ⟨X, 2, none⟩ = some (.int .i64 0) := fun s => s.ok.2.2
  refine take_L (i := 0) rfl (by kernel_rfl) (by kernel_rfl) (by kernel_rfl) (by kernel_rfl) (fun _ _ _ _ h => h) (by exact hHeld) (fun K hK => ?_)
  go_simp
  refine hK _ ?_
  clear hK K
  refine take_L (i := 1) rfl (by kernel_rfl) (by kernel_rfl) (by kernel_rfl) (by kernel_rfl) (fun _ _ _ _ h => h) (by exact hHeld) (fun K hK => ?_)
  go_simp
  refine hK _ ?_
  clear hK K
  refine one_L (i := 2) (by kernel_rfl) rfl (fun K hK => ?_)
  go_simp
  refine (block_c 3 va).mono ?_
  rintro _ vb ⟨⟨rfl, hrb⟩, hbb⟩
  have HRb : Hid (Row vb va.heap.size (List.replicate 32 3)) := hrb
  have HDb : Hid (Hold w.heap.size (fun k => k = X) vb d S3) := HDa.out.inside hbb
  have HNb : Hid (Below w.heap.size w vb) := HNa.out.trans (hbb.mono HNa.out.size)
  have hXb : X < vb.heap.size := Nat.lt_of_lt_of_le hXa hbb.size
  have hsb : w.heap.size ≤ vb.heap.size := HNb.out.size
  have hAb := at3_below hHeld hbb
  clear hrb hbb
  replace hHeld : (At3 X 2 0 0) _ := hAb
  refine hK.out _ _ (fun _ => hHeld) ?_
  clear hK K
  refine one_L (i := 3) (by kernel_rfl) rfl (fun K hK => ?_)
  go_simp
  refine (hwrite w.heap.size (fun k => k = X) d S3 2 0 0 3 (some ⟨va.heap.size, 0, none⟩) 32 32 (List.replicate 32 3) two64 vb HDb.out hsb (fun k hk => hk ▸ hXb) (HRb.out.bytes (small 3 (by decide)) 32 rfl) (by decide)).mono ?_
  rintro _ w7 ⟨rfl, hDc, hKc⟩
  rw [ex4] at hDc ⊢
  have HD7 : Hid (Hold w.heap.size (fun k => k = X) w7 d S3) := hDc
  have HN7 : Hid (Below w.heap.size w w7) := HNb.out.trans (hKc.below hsb)
  have hX7 : X < w7.heap.size := Nat.lt_of_lt_of_le hXb hKc.size
  have hAc := at3_kept2 hHeld hKc
  clear hDc hKc
  replace hHeld : (At3 X 2 0 0) _ := hAc
  refine hK.out _ _ (fun _ => hHeld) ?_
  clear hK K
  refine one_L (i := 4) (by kernel_rfl) rfl (fun K hK => ?_)
  go_simp
  refine hK.out _ _ (fun h => absurd rfl h) ?_
  clear hK K
  refine done_L (by kernel_rfl) ?_ _
  have HA7 : Hid (At3 X 2 0 0 w7) := hHeld
  clear hHeld hne k0 k1 k2 hAb hAc HDa HAa HNa hXa HDb HNb hXb hsb HRb
  have x0 := HA7.out.1
  have x1 := HA7.out.2.1
  have x2 := HA7.out.2.2
  go_wp2_with fail
  refine (hread w.heap.size (fun k => k = X) d S3 2 0 0 3 two64 i3 w7 HD7.out).mono ?_
  rintro e w8 ⟨hr8, hD8⟩
  rw [ex5] at hr8
  obtain ⟨rfl, hb8⟩ := read_none hr8
  clear hr8
  have HK8 : Hid (Kept w.heap.size (fun k => k = X) w7 w8) := Kept.of_below hb8
  have HD8 : Hid (Hold w.heap.size (fun k => k = X) w8 d S3) := hD8
  have HA8 : Hid (At3 X 2 0 0 w8) := at3_kept2 HA7.out HK8.out
  have hX8 : X < w8.heap.size := Nat.lt_of_lt_of_le hX7 HK8.out.size
  have HN8 : Hid (Below w.heap.size w w8) := HN7.out.trans (HK8.out.below HN7.out.size)
  clear x0 x1 x2 hb8 HK8 HD7 HA7 hX7 HN7 hD8
  go_wp2_with fail
  refine (hup w.heap.size (fun k => k = X) d S3 w8 HD8.out).mono ?_
  rintro e w9 ⟨rfl, hD9, hK9⟩
  rw [ex6] at hD9
  have HD9 : Hid (Hold w.heap.size (fun k => k = X) w9 d S4) := hD9
  have HA9 : Hid (At3 X 2 0 0 w9) := at3_kept2 HA8.out hK9
  have hX9 : X < w9.heap.size := Nat.lt_of_lt_of_le hX8 hK9.size
  have HN9 : Hid (Below w.heap.size w w9) := HN8.out.trans (hK9.below HN8.out.size)
  clear hD9 hK9 HD8 HA8 hX8 HN8
  have x0 := HA9.out.1
  have x1 := HA9.out.2.1
  have x2 := HA9.out.2.2
  go_wp2_with fail
  refine (hread w.heap.size (fun k => k = X) d S4 2 0 0 3 two64 i3 w9 HD9.out).mono ?_
  rintro e w10 ⟨hr10, hD10⟩
  rw [ex7] at hr10
  obtain ⟨p, hp, rfl, hb10, hB10, _⟩ := read_full hr10 (by simp)
  clear hr10
  have HK10 : Hid (Kept w.heap.size (fun k => k = X) w9 w10) := Kept.of_below hb10
  have HD10 : Hid (Hold w.heap.size (fun k => k = X) w10 d S4) := hD10
  have HB10 : Hid (Blk w10 p 66 (List.replicate 32 2)) := hB10
  have HA10 : Hid (At3 X 2 0 0 w10) := at3_kept2 HA9.out HK10.out
  have hX10 : X < w10.heap.size := Nat.lt_of_lt_of_le hX9 HK10.out.size
  have HN10 : Hid (Below w.heap.size w w10) := HN9.out.trans (HK10.out.below HN9.out.size)
  clear x0 x1 x2 hb10 HK10 HD9 HA9 hX9 HN9 hD10 hB10 hp
  go_wp2
  refine region_L (AtE w.heap.size X d p) 44 (by kernel_rfl) ?_
  have HDa : Hid (Hold w.heap.size (fun k => k = X) w10.drew d S4) := HD10.out.drew
  have HBa : Hid (Blk w10.drew p 66 tw) := HB10.out
  have HNa : Hid (Below w.heap.size w w10.drew) := HN10.out.drew
  clear HD10 HB10 HN10 HA10 hX10
  generalize w10.drew = va at *
  obtain ⟨st, hst⟩ : ∃ st, st = strOfNums tw := ⟨_, rfl⟩
  have HST : Hid (st = strOfNums tw) := hst
  clear hst
  have hHeld : (AtE w.heap.size X d p) _ := ⟨HDa.out, HBa.out⟩
  have hne : Nonempty (Sub (AtE w.heap.size X d p)) := ⟨⟨_, hHeld⟩⟩
  have k0 : ∀ s : Sub (AtE w.heap.size X d p), (convert 31 9 (.slice (some ⟨p, 0, none⟩) 32 32)).run Try.prog s.w = .ok (.string st) s.w := fun s => by rw [HST.out]; exact conv_c (blk_src s.ok.2 twos)
  refine take_L (i := 0) rfl (by kernel_rfl) (by kernel_rfl) (by kernel_rfl) (by kernel_rfl) (fun _ _ _ _ h => h) (by exact hHeld) (fun K hK => ?_)
  go_simp
  refine hK _ ?_
  clear hK K
  refine take_L (i := 1) rfl (by kernel_rfl) (by kernel_rfl) (by kernel_rfl) (by kernel_rfl) (fun _ _ _ _ h => h) (by exact hHeld) (fun K hK => ?_)
  go_simp
  refine hK _ ?_
  clear hK K
  refine take_L (i := 2) rfl (by kernel_rfl) (by kernel_rfl) (by kernel_rfl) (by kernel_rfl) (fun _ _ _ _ h => h) (by exact hHeld) (fun K hK => ?_)
  go_simp
  refine hK _ ?_
  clear hK K
  refine take_L (i := 3) rfl (by kernel_rfl) (by kernel_rfl) (by kernel_rfl) (by kernel_rfl) (fun _ _ _ _ h => h) (by exact hHeld) (fun K hK => ?_)
  go_simp
  refine hK _ ?_
  clear hK K
  refine take_L (i := 4) rfl (by kernel_rfl) (by kernel_rfl) (by kernel_rfl) (by kernel_rfl) (fun _ _ _ _ h => h) (by exact hHeld) (fun K hK => ?_)
  go_simp
  refine hK _ ?_
  clear hK K
  refine take_L (i := 5) rfl (by kernel_rfl) (by kernel_rfl) (by kernel_rfl) (by kernel_rfl) (fun _ _ _ _ h => h) (by exact hHeld) (fun K hK => ?_)
  go_simp
  refine hK _ ?_
  clear hK K
  refine take_L (i := 6) rfl (by kernel_rfl) (by kernel_rfl) (by kernel_rfl) (by kernel_rfl) (fun _ _ _ _ h => h) (by exact hHeld) (fun K hK => ?_)
  go_simp
  refine hK _ ?_
  clear hK K
  refine take_L (i := 7) rfl (by kernel_rfl) (by kernel_rfl) (by kernel_rfl) (by kernel_rfl) (fun _ _ _ _ h => h) (by exact hHeld) (fun K hK => ?_)
  go_simp
  refine hK _ ?_
  clear hK K
  refine take_L (i := 8) rfl (by kernel_rfl) (by kernel_rfl) (by kernel_rfl) (by kernel_rfl) (fun _ _ _ _ h => h) (by exact hHeld) (fun K hK => ?_)
  go_simp
  refine hK _ ?_
  clear hK K
  refine one_L (i := 9) (by kernel_rfl) rfl (fun K hK => ?_)
  go_simp
  refine (hlen w.heap.size (fun k => k = X) d S4 3 0 0 three64 va HDa.out).mono ?_
  rintro _ vb ⟨rfl, hbb⟩
  rw [ex9]
  have HNb : Hid (Below w.heap.size w vb) := HNa.out.trans (hbb.mono HNa.out.size)
  have hEb : AtE w.heap.size X d p vb := ⟨hHeld.1.inside hbb, blk_below hHeld.2 hbb⟩
  clear hbb
  replace hHeld : (AtE w.heap.size X d p) _ := hEb
  refine hK.out _ _ (fun _ => hHeld) ?_
  clear hK K
  refine take_L (i := 10) rfl (by kernel_rfl) (by kernel_rfl) (by kernel_rfl) (by kernel_rfl) (fun _ _ _ _ h => h) (by exact hHeld) (fun K hK => ?_)
  go_simp
  refine hK _ ?_
  clear hK K
  refine take_L (i := 11) rfl (by kernel_rfl) (by kernel_rfl) (by kernel_rfl) (by kernel_rfl) (fun _ _ _ _ h => h) (by exact hHeld) (fun K hK => ?_)
  go_simp
  refine hK _ ?_
  clear hK K
  refine take_L (i := 12) rfl (by kernel_rfl) (by kernel_rfl) (by kernel_rfl) (by kernel_rfl) (fun _ _ _ _ h => h) (by exact hHeld) (fun K hK => ?_)
  go_simp
  refine hK _ ?_
  clear hK K
  refine take_L (i := 13) rfl (by kernel_rfl) (by kernel_rfl) (by kernel_rfl) (by kernel_rfl) (fun _ _ _ _ h => h) (by exact hHeld) (fun K hK => ?_)
  go_simp
  refine hK _ ?_
  clear hK K
  refine take_L (i := 14) rfl (by kernel_rfl) (by kernel_rfl) (by kernel_rfl) (by kernel_rfl) (fun _ _ _ _ h => h) (by exact hHeld) (fun K hK => ?_)
  go_simp
  refine hK _ ?_
  clear hK K
  refine take_L (i := 15) rfl (by kernel_rfl) (by kernel_rfl) (by kernel_rfl) (by kernel_rfl) (fun _ _ _ _ h => h) (by exact hHeld) (fun K hK => ?_)
  go_simp
  refine hK _ ?_
  clear hK K
  refine take_L (i := 16) rfl (by kernel_rfl) (by kernel_rfl) (by kernel_rfl) (by kernel_rfl) (fun _ _ _ _ h => h) (by exact hHeld) (fun K hK => ?_)
  go_simp
  refine hK _ ?_
  clear hK K
  refine take_L (i := 17) rfl (by kernel_rfl) (by kernel_rfl) (by kernel_rfl) (by kernel_rfl) (fun _ _ _ _ h => h) (by exact hHeld) (fun K hK => ?_)
  go_simp
  refine hK _ ?_
  clear hK K
  refine take_L (i := 18) rfl (by kernel_rfl) (by kernel_rfl) (by kernel_rfl) (by kernel_rfl) (fun _ _ _ _ h => h) (by exact hHeld) (fun K hK => ?_)
  go_simp
  refine hK _ ?_
  clear hK K
  refine take_L (i := 19) rfl (by kernel_rfl) (by kernel_rfl) (by kernel_rfl) (by kernel_rfl) (fun _ _ _ _ h => h) (by exact hHeld) (fun K hK => ?_)
  go_simp
  refine hK _ ?_
  clear hK K
  refine take_L (i := 20) rfl (by kernel_rfl) (by kernel_rfl) (by kernel_rfl) (by kernel_rfl) (fun _ _ _ _ h => h) (by exact hHeld) (fun K hK => ?_)
  go_simp
  refine hK _ ?_
  clear hK K
  refine take_L (i := 21) rfl (by kernel_rfl) (by kernel_rfl) (by kernel_rfl) (by kernel_rfl) (fun _ _ _ _ h => h) (by exact hHeld) (fun K hK => ?_)
  go_simp
  refine hK _ ?_
  clear hK K
  refine take_L (i := 22) rfl (by kernel_rfl) (by kernel_rfl) (by kernel_rfl) (by kernel_rfl) (fun _ _ _ _ h => h) (by exact hHeld) (fun K hK => ?_)
  go_simp
  refine hK _ ?_
  clear hK K
  refine take_L (i := 23) rfl (by kernel_rfl) (by kernel_rfl) (by kernel_rfl) (by kernel_rfl) (fun _ _ _ _ h => h) (by exact hHeld) (fun K hK => ?_)
  go_simp
  refine hK _ ?_
  clear hK K
  refine take_L (i := 24) rfl (by kernel_rfl) (by kernel_rfl) (by kernel_rfl) (by kernel_rfl) (fun _ _ _ _ h => h) (by exact hHeld) (fun K hK => ?_)
  go_simp
  refine hK _ ?_
  clear hK K
  refine take_L (i := 25) rfl (by kernel_rfl) (by kernel_rfl) (by kernel_rfl) (by kernel_rfl) (fun _ _ _ _ h => h) (by exact hHeld) (fun K hK => ?_)
  go_simp
  refine hK _ ?_
  clear hK K
  refine take_L (i := 26) rfl (by kernel_rfl) (by kernel_rfl) (by kernel_rfl) (by kernel_rfl) (fun _ _ _ _ h => h) (by exact hHeld) (fun K hK => ?_)
  go_simp
  refine hK _ ?_
  clear hK K
  refine take_L (i := 27) rfl (by kernel_rfl) (by kernel_rfl) (by kernel_rfl) (by kernel_rfl) (fun _ _ _ _ h => h) (by exact hHeld) (fun K hK => ?_)
  go_simp
  refine hK _ ?_
  clear hK K
  refine take_L (i := 28) rfl (by kernel_rfl) (by kernel_rfl) (by kernel_rfl) (by kernel_rfl) (fun _ _ _ _ h => h) (by exact hHeld) (fun K hK => ?_)
  go_simp
  refine hK _ ?_
  clear hK K
  refine take_L (i := 29) rfl (by kernel_rfl) (by kernel_rfl) (by kernel_rfl) (by kernel_rfl) (fun _ _ _ _ h => h) (by exact hHeld) (fun K hK => ?_)
  go_simp
  refine hK _ ?_
  clear hK K
  refine take_L (i := 30) rfl (by kernel_rfl) (by kernel_rfl) (by kernel_rfl) (by kernel_rfl) (fun _ _ _ _ h => h) (by exact hHeld) (fun K hK => ?_)
  go_simp
  refine hK _ ?_
  clear hK K
  refine take_L (i := 31) rfl (by kernel_rfl) (by kernel_rfl) (by kernel_rfl) (by kernel_rfl) (fun _ _ _ _ h => h) (by exact hHeld) (fun K hK => ?_)
  go_simp
  refine hK _ ?_
  clear hK K
  refine take_L (i := 32) rfl (by kernel_rfl) (by kernel_rfl) (by kernel_rfl) (by kernel_rfl) (fun _ _ _ _ h => h) (by exact hHeld) (fun K hK => ?_)
  go_simp
  refine hK _ ?_
  clear hK K
  refine take_L (i := 33) rfl (by kernel_rfl) (by kernel_rfl) (by kernel_rfl) (by kernel_rfl) (fun _ _ _ _ h => h) (by exact hHeld) (fun K hK => ?_)
  go_simp
  refine hK _ ?_
  clear hK K
  refine take_L (i := 34) rfl (by kernel_rfl) (by kernel_rfl) (by kernel_rfl) (by kernel_rfl) (fun _ _ _ _ h => h) (by exact hHeld) (fun K hK => ?_)
  go_simp
  refine hK _ ?_
  clear hK K
  refine one_L (i := 35) (by kernel_rfl) rfl (fun K hK => ?_)
  go_simp
  refine (block_c 2 vb).mono ?_
  rintro _ vc ⟨⟨rfl, hrc⟩, hbc⟩
  have HNc : Hid (Below w.heap.size w vc) := HNb.out.trans (hbc.mono HNb.out.size)
  have hEc : AtE w.heap.size X d p vc := ⟨hHeld.1.inside hbc, blk_below hHeld.2 hbc⟩
  have hRc : Row vc vb.heap.size tw := hrc
  clear hrc hbc
  generalize vb.heap.size = q at *
  replace hHeld : (AtE w.heap.size X d p) _ := hEc
  refine hK.out _ _ (fun _ => hHeld) ?_
  clear hK K
  refine strong_L (S' := fun w' => AtE w.heap.size X d p w' ∧ Row w' q tw) (fun _ h => h.1) _ _ _ _ ?_
  replace hHeld : (fun w' => AtE w.heap.size X d p w' ∧ Row w' q tw) _ := ⟨hHeld, hRc⟩
  have hne2 : Nonempty (Sub (fun w' => AtE w.heap.size X d p w' ∧ Row w' q tw)) := ⟨⟨_, hHeld⟩⟩
  have k1 : ∀ s : Sub (fun w' => AtE w.heap.size X d p w' ∧ Row w' q tw), (convert 31 9 (.slice (some ⟨q, 0, none⟩) 32 32)).run Try.prog s.w = .ok (.string st) s.w := fun s => by rw [HST.out]; exact conv_c (row_src s.ok.2 twos)
  refine take_L (i := 36) rfl (by kernel_rfl) (by kernel_rfl) (by kernel_rfl) (by kernel_rfl) (fun _ _ _ _ h => h) (by exact hHeld) (fun K hK => ?_)
  go_simp
  refine hK _ ?_
  clear hK K
  refine take_L (i := 37) rfl (by kernel_rfl) (by kernel_rfl) (by kernel_rfl) (by kernel_rfl) (fun _ _ _ _ h => h) (by exact hHeld) (fun K hK => ?_)
  go_simp
  refine hK _ ?_
  clear hK K
  refine take_L (i := 38) rfl (by kernel_rfl) (by kernel_rfl) (by kernel_rfl) (by kernel_rfl) (fun _ _ _ _ h => h) (by exact hHeld) (fun K hK => ?_)
  go_simp
  refine hK _ ?_
  clear hK K
  refine take_L (i := 39) rfl (by kernel_rfl) (by kernel_rfl) (by kernel_rfl) (by kernel_rfl) (fun _ _ _ _ h => h) (by exact hHeld) (fun K hK => ?_)
  go_simp
  refine hK _ ?_
  clear hK K
  refine take_L (i := 40) rfl (by kernel_rfl) (by kernel_rfl) (by kernel_rfl) (by kernel_rfl) (fun _ _ _ _ h => h) (by exact hHeld) (fun K hK => ?_)
  go_simp
  refine hK _ ?_
  clear hK K
  refine one_L (i := 41) (by kernel_rfl) rfl (fun K hK => ?_)
  go_simp
  refine (hwrites w.heap.size (fun k => k = X) d S4 vc hHeld.1.1).mono ?_
  rintro _ wq ⟨rfl, hwq⟩
  replace hwq := hwq.symm
  subst hwq
  rw [show S4.writes = 2 from rfl]
  replace hHeld : (fun w' => AtE w.heap.size X d p w' ∧ Row w' q tw) _ := hHeld
  refine hK.out _ _ (fun _ => hHeld) ?_
  clear hK K
  refine take_L (i := 42) rfl (by kernel_rfl) (by kernel_rfl) (by kernel_rfl) (by kernel_rfl) (fun _ _ _ _ h => h) (by exact hHeld) (fun K hK => ?_)
  go_simp
  refine hK _ ?_
  clear hK K
  refine take_L (i := 43) rfl (by kernel_rfl) (by kernel_rfl) (by kernel_rfl) (by kernel_rfl) (fun _ _ _ _ h => h) (by exact hHeld) (fun K hK => ?_)
  go_simp
  refine hK _ ?_
  clear hK K
  refine one_L (i := 44) (by kernel_rfl) rfl (fun K hK => ?_)
  go_simp
  refine hK.out _ _ (fun h => absurd rfl h) ?_
  clear hK K
  refine done_L (by kernel_rfl) ?_ _
  have R := HP.out vc HNc.out
  clear HP
  go_wp2
  exact R
end Go.Proofs.Ytfpcfgfpebdplaa
