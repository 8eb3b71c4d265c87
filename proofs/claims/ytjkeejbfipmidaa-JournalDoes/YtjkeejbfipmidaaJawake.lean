/-
  The chapter's examples, over what is asked of a journal.
-/
import Derived.Test.YtjkeejbfipmidaaJonly
import Derived.Test.YtjkeejbfipmidaaBlock
import Derived.Test.YtjkeejbfipmidaaHold
set_option maxRecDepth 20000
namespace Go.Proofs.Ytjkeejbfipmidaa
open Go.RowKit Go.Maps

abbrev rep (c : Int) : List Int := List.replicate 32 c
theorem rep_fit (c : Int) (hc : 0 ≤ c ∧ c ≤ 255) : ∀ z ∈ rep c, 0 ≤ z ∧ z ≤ 255 := fun z hz => by rw [List.eq_of_mem_replicate hz]; exact hc
/-- The blocks behind the examples' first group. -/
def V1 : List Bk := [⟨(2, 0, 0), 1, rep 1⟩, ⟨(2, 0, 0), 2, rep 2⟩]
theorem v1_do : doAll [] [⟨(2, 0, 0), 1, rep 1⟩, ⟨(2, 0, 0), 2, rep 2⟩] = V1 := rfl
theorem v1_two : has V1 (2, 0, 0) 2 = some (rep 2) := rfl
theorem v1_one : has V1 (2, 0, 0) 1 = some (rep 1) := rfl
theorem v1_nine : has (doAll V1 [⟨(2, 0, 0), 1, rep 9⟩]) (2, 0, 0) 1 = some (rep 9) := rfl
theorem two64 : I64F (2, 0, 0) := by unfold I64F I64; decide
theorem n0 : I64 0 := by unfold I64; decide
theorem n1 : I64 1 := by unfold I64; decide
theorem n2 : I64 2 := by unfold I64; decide
theorem n32 : 32 ≤ reachBytes := by unfold reachBytes; decide
/-- What the examples keep: the box of the file, the journal's blocks apart. -/
structure Aw (B : Nat) (W w : World) (Fk : Nat → Prop) (X : Nat) : Prop where
  bel : Below B W w
  fk : ∀ k, Fk k → B ≤ k ∧ k < w.heap.size ∧ k ≠ X
  box : At3 X 2 0 0 w
  lt : X < w.heap.size
theorem at3_same {X : Nat} {f1 f2 f3 : Int} {w w' : World} (h : At3 X f1 f2 f3 w) (he : w'.heap[X]? = w.heap[X]?) : At3 X f1 f2 f3 w' := by
  have k : ∀ m v, w.cell? ⟨X, m, none⟩ = some v → w'.cell? ⟨X, m, none⟩ = some v := fun m v hv => by
    rw [← hv]
    exact World.cell?_of_block (a := ⟨X, m, none⟩) he
  exact ⟨k _ _ h.1, k _ _ h.2.1, k _ _ h.2.2⟩
theorem Aw.inside {B : Nat} {W w w' : World} {Fk : Nat → Prop} {X : Nat} (h : Aw B W w Fk X) (hb : Below w.heap.size w w') (hB : B ≤ w.heap.size) : Aw B W w' Fk X :=
  ⟨h.bel.trans (hb.mono hB), fun k hk => ⟨(h.fk k hk).1, Nat.lt_of_lt_of_le (h.fk k hk).2.1 hb.size, (h.fk k hk).2.2⟩, at3_same h.box (hb.block X h.lt), Nat.lt_of_lt_of_le h.lt hb.size⟩
theorem Aw.chg {B : Nat} {W w w' : World} {Fk : Nat → Prop} {X : Nat} (h : Aw B W w Fk X) (hC : Chg Fk w w') (hB : B ≤ w.heap.size) : Aw B W w' (Gr Fk w w') X := by
  have hs := hC.size
  refine ⟨h.bel.trans (hC.below (fun k hk => (h.fk k hk).1) hB), fun k hk => ?_, at3_same h.box (hC.block X h.lt (fun hf => (h.fk X hf).2.2 rfl)), by have := h.lt; omega⟩
  rcases hk with h1 | h1
  · have := h.fk k h1
    exact ⟨this.1, by omega, this.2.2⟩
  · have := h.lt
    exact ⟨by omega, h1.2, by omega⟩
theorem Aw.only {B : Nat} {W w w' : World} {Fk : Nat → Prop} {X d : Nat} (h : Aw B W w Fk X) (hO : Only d w w') (hd : Fk d) : Aw B W w' Fk X := by
  have hs := hO.size
  exact ⟨h.bel.trans (hO.below (h.fk d hd).1), fun k hk => ⟨(h.fk k hk).1, by rw [hs]; exact (h.fk k hk).2.1, (h.fk k hk).2.2⟩, at3_same h.box (hO.block X (fun e => (h.fk d hd).2.2 e.symm)), by rw [hs]; exact h.lt⟩
theorem Aw.drew {B : Nat} {W w : World} {Fk : Nat → Prop} {X : Nat} (h : Aw B W w Fk X) : Aw B W w.drew Fk X := ⟨h.bel.drew, h.fk, h.box, h.lt⟩
theorem Aw.size {B : Nat} {W w : World} {Fk : Nat → Prop} {X : Nat} (h : Aw B W w Fk X) (hB : B ≤ W.heap.size) : B ≤ w.heap.size := Nat.le_trans hB h.bel.size
/-- One block of the law's own in a slice. -/
theorem one_put (w : World) (f1 f2 f3 i : Int) (p : Nat) (c : Int) (hc : 0 ≤ c ∧ c ≤ 255) (hI : I64 i ∧ I64 f1 ∧ I64 f2 ∧ I64 f3) (hR : Row w p (rep c)) :
    Puts (w.alloc (.cells #[.int .i64 f1, .int .i64 f2, .int .i64 f3, .int .i64 i, .slice (some ⟨p, 0, none⟩) 32 32] 41)) (some ⟨w.heap.size, 0, none⟩) [⟨(f1, f2, f3), i, some ⟨p, 0, none⟩, 32, 32, rep c⟩] := by
  have hb : Below w.heap.size w (w.alloc (.cells #[.int .i64 f1, .int .i64 f2, .int .i64 f3, .int .i64 i, .slice (some ⟨p, 0, none⟩) 32 32] 41)) := (Below.refl _ _).alloc (Nat.le_refl _) _
  have hh : (w.alloc (.cells #[.int .i64 f1, .int .i64 f2, .int .i64 f3, .int .i64 i, .slice (some ⟨p, 0, none⟩) 32 32] 41)).heap[w.heap.size]? = some (.cells #[.int .i64 f1, .int .i64 f2, .int .i64 f3, .int .i64 i, .slice (some ⟨p, 0, none⟩) 32 32] 41 (0, 0)) := heap_alloc_new w _
  have hc' : ∀ m, _ := fun m => cell_of_row _ w.heap.size m _ 41 (0, 0) hh
  intro k hk
  obtain rfl : k = 0 := by simp at hk; exact hk
  exact ⟨w.heap.size, 0, rfl, ⟨hc' 0, hc' 1, hc' 2, hc' 3, hc' 4, (hR.bytes (rep_fit c hc) 32 rfl).later hb, fun e => (by cases e), Nat.le_refl _, hI, n32⟩⟩
/-- Two blocks of the law's own in a slice. -/
theorem two_puts (w : World) (p q : Nat) (hR : Row w p (rep 1)) (hQ : Row w q (rep 2)) :
    Puts (w.alloc (.cells #[.int .i64 2, .int .i64 0, .int .i64 0, .int .i64 1, .slice (some ⟨p, 0, none⟩) 32 32, .int .i64 2, .int .i64 0, .int .i64 0, .int .i64 2, .slice (some ⟨q, 0, none⟩) 32 32] 41)) (some ⟨w.heap.size, 0, none⟩) [⟨(2, 0, 0), 1, some ⟨p, 0, none⟩, 32, 32, rep 1⟩, ⟨(2, 0, 0), 2, some ⟨q, 0, none⟩, 32, 32, rep 2⟩] := by
  have hb : Below w.heap.size w (w.alloc (.cells #[.int .i64 2, .int .i64 0, .int .i64 0, .int .i64 1, .slice (some ⟨p, 0, none⟩) 32 32, .int .i64 2, .int .i64 0, .int .i64 0, .int .i64 2, .slice (some ⟨q, 0, none⟩) 32 32] 41)) := (Below.refl _ _).alloc (Nat.le_refl _) _
  have hh : (w.alloc (.cells #[.int .i64 2, .int .i64 0, .int .i64 0, .int .i64 1, .slice (some ⟨p, 0, none⟩) 32 32, .int .i64 2, .int .i64 0, .int .i64 0, .int .i64 2, .slice (some ⟨q, 0, none⟩) 32 32] 41)).heap[w.heap.size]? = some (.cells #[.int .i64 2, .int .i64 0, .int .i64 0, .int .i64 1, .slice (some ⟨p, 0, none⟩) 32 32, .int .i64 2, .int .i64 0, .int .i64 0, .int .i64 2, .slice (some ⟨q, 0, none⟩) 32 32] 41 (0, 0)) := heap_alloc_new w _
  have hc' : ∀ m, _ := fun m => cell_of_row _ w.heap.size m _ 41 (0, 0) hh
  intro k hk
  match k, hk with
  | 0, _ => exact ⟨w.heap.size, 0, rfl, ⟨hc' 0, hc' 1, hc' 2, hc' 3, hc' 4, (hR.bytes (rep_fit 1 (by decide)) 32 rfl).later hb, fun e => (by cases e), Nat.le_refl _, ⟨n1, n2, n0, n0⟩, n32⟩⟩
  | 1, _ => exact ⟨w.heap.size, 0, rfl, ⟨hc' 5, hc' 6, hc' 7, hc' 8, hc' 9, (hQ.bytes (rep_fit 2 (by decide)) 32 rfl).later hb, fun e => (by cases e), Nat.le_refl _, ⟨n2, n2, n0, n0⟩, n32⟩⟩
theorem read_full {k : Int} {L : List Int} {w w' : World} {e : Ending} (h : PReadSay (k, L) w e w') (hL : L ≠ []) : ∃ p, w.heap.size ≤ p ∧ e = .returned (.tuple #[.slice (some ⟨p, 0, none⟩) 32 32, .int .i64 k]) ∧ Below w.heap.size w w' ∧ Blk w' p 79 L := by
  obtain ⟨hb, ⟨h, _⟩ | ⟨p, hp, he, hB, hl, hf⟩⟩ := h
  · exact absurd h hL
  · exact ⟨p, hp, he, hb, hB⟩
/-- A block that was read, apart from the journal's. -/
def Bx (F : Nat → Prop) (p : Nat) (L : List Int) (w : World) : Prop := Blk w p 79 L ∧ ¬ F p
theorem Bx.chg {F : Nat → Prop} {p : Nat} {L : List Int} {w w' : World} (h : Bx F p L w) (hC : Chg F w w') : Bx (Gr F w w') p L w' :=
  ⟨(hC.block p h.1.lt h.2).trans h.1, fun hg => by rcases hg with h1 | h1; exact h.2 h1; have := h.1.lt; omega⟩
theorem Bx.inside {F : Nat → Prop} {p : Nat} {L : List Int} {w w' : World} (h : Bx F p L w) (hb : Below w.heap.size w w') : Bx F p L w' := ⟨h.1.below hb h.1.lt, h.2⟩
theorem Bx.only {F : Nat → Prop} {p d : Nat} {L : List Int} {w w' : World} (h : Bx F p L w) (hO : Only d w w') (hd : F d) : Bx F p L w' := ⟨h.1.only hO (fun e => h.2 (e ▸ hd)), h.2⟩
/-- In the examples' last line. -/
def AtQ (xp yp : Nat) (w' : World) : Prop := Blk w' xp 79 (rep 2) ∧ Blk w' yp 79 (rep 1)
theorem AtQ.on {xp yp : Nat} {w w' : World} (h : AtQ xp yp w) (hb : Below w.heap.size w w') : AtQ xp yp w' := ⟨h.1.below hb h.1.lt, h.2.below hb h.2.lt⟩
/-- make of one block. -/
theorem wpList_make_put (w : World) {ops : Array Oper} {rest : List Oper} {o : Oper} {a : Act} {Q : Exit → Act → World → Prop}
    (hg : o.guard = none) (l c : Operand) (hop : o.op = Op.makeSlice 33 l c) (hl : a.eval l = .int .i64 1) (hc : a.eval c = .int .i64 1)
    (hK : ∀ w', Hid (Puts w' (some ⟨w.heap.size, 0, none⟩) [⟨(0, 0, 0), 0, none, 0, 0, []⟩]) → Below w.heap.size w w' → wpList Try.prog ops Q rest (a.put o.dst (.slice (some ⟨w.heap.size, 0, none⟩) 1 1)) w') :
    wpList Try.prog ops Q (o :: rest) a w := by
  obtain ⟨i, hi, hz0, hz1, hz2⟩ := info_parts info41
  refine wpList_make_full w hg l c 33 hop w.heap.size 41 i (.agg #[.int .i64 0, .int .i64 0, .int .i64 0, .int .i64 0, .slice none 0 0]) 5 Try.underlying33 hi hz0 hz1 .i64 .i64 1 1 1 hl hc rfl rfl (by rw [hz2]; omega) (by unfold maxLen; omega) (Nat.le_refl _) ?_
  intro w' hown hgrow
  refine hK w' ?_ ((Below.refl _ _).grown hgrow (Nat.le_refl _) (by simp))
  have e5 : (madeCells (Value.agg #[.int .i64 0, .int .i64 0, .int .i64 0, .int .i64 0, .slice none 0 0]).cells (1 * 5)).toList = [.int .i64 0, .int .i64 0, .int .i64 0, .int .i64 0, .slice none 0 0] := by kernel_rfl
  rw [e5] at hown
  have hc : ∀ m, m < 5 → w'.cell? ⟨w.heap.size, m, none⟩ = _ := fun m hm => World.ownsRow.cellAt hown m (by omega)
  intro k hk
  obtain rfl : k = 0 := by simp at hk; exact hk
  exact ⟨w.heap.size, 0, rfl, ⟨hc 0 (by omega), hc 1 (by omega), hc 2 (by omega), hc 3 (by omega), hc 4 (by omega), ⟨rfl, Or.inl rfl, fun z hz => (by cases hz)⟩, fun _ => rfl, Nat.le_refl _, ⟨n0, n0, n0, n0⟩, Nat.zero_le _⟩⟩

set_option maxHeartbeats 8000000 in
theorem awake_j (J : JSpec) : AwakeSays := fun w => by
  obtain ⟨Post, hPost⟩ : ∃ Post : Ending → World → Prop, Post = fun e w' => e = .returned (.bool true) ∧ Below w.heap.size w w' := ⟨_, rfl⟩
  rw [← hPost]
  have HP : Hid (∀ w', Below w.heap.size w w' → Post (.returned (.bool true)) w') := fun w' h => by rw [hPost]; exact ⟨rfl, h⟩
  clear hPost
  go_enter Try.func8, Try.ntmps8
  go_wp2_with fail
  refine (new_c w).mono ?_
  rintro e w1 ⟨⟨d, F, rfl, hD1, hF1, hF2⟩, hb1⟩
  have HN1 : Hid (Below w.heap.size w w1) := hb1
  have HD1 : Hid (PDisk F w1 d St.new ∧ (∀ k, F k → w.heap.size ≤ k) ∧ ∀ k, F k → k < w1.heap.size) := ⟨hD1, hF1, hF2⟩
  clear hD1 hF1 hF2 hb1
  go_wp2_with fail
  refine (J.open_ F d St.new [] w1 HD1.out.1 HD1.out.2.2 J.new (by decide)).mono ?_
  rintro _ w2 ⟨S2, jv, E, rfl, hC2, hw2, hst2, hor⟩
  rcases hor with ⟨rfl, j, rfl, hJ2⟩ | ⟨_, h, _⟩
  rotate_left
  · exact absurd new_free h
  have HN2 : Hid (Below w.heap.size w w2) := HN1.out.trans (hC2.below HD1.out.2.1 HN1.out.size)
  have HJ2 : Hid (J.JP (Gr F w1 w2) w2 j d S2 [] ∧ (∀ k, Gr F w1 w2 k → w.heap.size ≤ k ∧ k < w2.heap.size) ∧ S2.free) := ⟨hJ2, fun k hk => ⟨by rcases hk with h | h; exact HD1.out.2.1 k h; have := HN1.out.size; omega, Gr.lt HD1.out.2.2 hC2.size k hk⟩, hst2.free new_free⟩
  have hw2' : S2.writes ≤ 2000 := by have : St.new.writes = 0 := rfl; omega
  clear hJ2 hC2 hw2 hst2 HD1 HN1
  generalize Gr F w1 w2 = Fj at *
  go_upto_region 8 with fail
  have hbx : Below w2.heap.size w2 (w2.alloc (.cells #[.int .i64 2, .int .i64 0, .int .i64 0] 38)) := (Below.refl _ _).alloc (Nat.le_refl _) _
  have HA3 : Hid (Aw w.heap.size w (w2.alloc (.cells #[.int .i64 2, .int .i64 0, .int .i64 0] 38)) Fj w2.heap.size) := by
    obtain ⟨_, x0, x1, x2⟩ := box_new w2 2 0 0
    exact ⟨HN2.out.trans (hbx.mono HN2.out.size), fun k hk => by have h1 := HJ2.out.2.1 k hk; have h2 := hbx.size; exact ⟨h1.1, by omega, by omega⟩, ⟨x0, x1, x2⟩, by rw [World.size_alloc]; omega⟩
  have HJ3 : Hid (J.JP Fj (w2.alloc (.cells #[.int .i64 2, .int .i64 0, .int .i64 0] 38)) j d S2 [] ∧ S2.free) := ⟨J.jp_keep HJ2.out.1 (fun k hk => hbx.block k (HJ2.out.2.1 k hk).2), HJ2.out.2.2⟩
  clear hbx HJ2 HN2
  generalize w2.heap.size = X at *
  generalize w2.alloc (.cells #[.int .i64 2, .int .i64 0, .int .i64 0] 38) = w3 at *
  refine region_L (At3 X 2 0 0) 9 (by kernel_rfl) ?_
  have HAva : Hid (Aw w.heap.size w w3.drew Fj X) := HA3.out.drew
  have HJva : Hid (J.JP Fj w3.drew j d S2 [] ∧ S2.free) := ⟨J.jp_keep HJ3.out.1 (fun _ _ => rfl), HJ3.out.2⟩
  clear HA3 HJ3
  generalize w3.drew = va at *
  have hHeld : (At3 X 2 0 0) _ := HAva.out.box
  have hne : Nonempty (Sub (At3 X 2 0 0)) := ⟨⟨_, hHeld⟩⟩
  have k0 : ∀ s : Sub (At3 X 2 0 0), s.w.cell? ⟨X, 0, none⟩ = some (.int .i64 2) := fun s => s.ok.1
  have k1 : ∀ s : Sub (At3 X 2 0 0), s.w.cell? ⟨X, 1, none⟩ = some (.int .i64 0) := fun s => s.ok.2.1
  have k2 : ∀ s : Sub (At3 X 2 0 0), s.w.cell? ⟨X, 2, none⟩ = some (.int .i64 0) := fun s => s.ok.2.2
  refine take_L (i := 0) rfl (by kernel_rfl) (by kernel_rfl) (by kernel_rfl) (by kernel_rfl) (fun _ _ _ _ h => h) (by exact hHeld) (fun K hK => ?_)
  go_simp
  refine hK _ ?_
  clear hK K
  refine take_L (i := 1) rfl (by kernel_rfl) (by kernel_rfl) (by kernel_rfl) (by kernel_rfl) (fun _ _ _ _ h => h) (by exact hHeld) (fun K hK => ?_)
  go_simp
  refine hK _ ?_
  clear hK K
  refine take_L (i := 4) rfl (by kernel_rfl) (by kernel_rfl) (by kernel_rfl) (by kernel_rfl) (fun _ _ _ _ h => h) (by exact hHeld) (fun K hK => ?_)
  go_simp
  refine hK _ ?_
  clear hK K
  refine one_L (i := 2) (by kernel_rfl) rfl (fun K hK => ?_)
  go_simp
  refine (block_c 1 va).mono ?_
  rintro _ vb ⟨⟨rfl, hrb⟩, hbb⟩
  have HRp1 : Hid (Row vb va.heap.size (rep 1)) := hrb
  have HAvb : Hid (Aw w.heap.size w vb Fj X) := HAva.out.inside hbb (HAva.out.size (Nat.le_refl _))
  have HJvb : Hid (J.JP Fj vb j d S2 [] ∧ S2.free) := ⟨J.jp_keep HJva.out.1 (fun k hk => hbb.block k (HAva.out.fk k hk).2.1), HJva.out.2⟩
  clear hrb hbb HAva HJva
  generalize va.heap.size = p1 at *
  replace hHeld : (At3 X 2 0 0) _ := HAvb.out.box
  refine hK.out _ _ (fun _ => hHeld) ?_
  clear hK K
  refine take_L (i := 3) rfl (by kernel_rfl) (by kernel_rfl) (by kernel_rfl) (by kernel_rfl) (fun _ _ _ _ h => h) (by exact hHeld) (fun K hK => ?_)
  go_simp
  refine hK _ ?_
  clear hK K
  refine one_L (i := 5) (by kernel_rfl) rfl (fun K hK => ?_)
  go_simp
  refine (block_c 2 vb).mono ?_
  rintro _ vc ⟨⟨rfl, hrb⟩, hbb⟩
  have HRp2 : Hid (Row vc vb.heap.size (rep 2)) := hrb
  replace HRp1 : Hid (Row vc p1 (rep 1)) := HRp1.out.below hbb HRp1.out.lt
  have HAvc : Hid (Aw w.heap.size w vc Fj X) := HAvb.out.inside hbb (HAvb.out.size (Nat.le_refl _))
  have HJvc : Hid (J.JP Fj vc j d S2 [] ∧ S2.free) := ⟨J.jp_keep HJvb.out.1 (fun k hk => hbb.block k (HAvb.out.fk k hk).2.1), HJvb.out.2⟩
  clear hrb hbb HAvb HJvb
  generalize vb.heap.size = p2 at *
  replace hHeld : (At3 X 2 0 0) _ := HAvc.out.box
  refine hK.out _ _ (fun _ => hHeld) ?_
  clear hK K
  refine take_L (i := 6) rfl (by kernel_rfl) (by kernel_rfl) (by kernel_rfl) (by kernel_rfl) (fun _ _ _ _ h => h) (by exact hHeld) (fun K hK => ?_)
  go_simp
  refine hK _ ?_
  clear hK K
  refine one_L (i := 7) (by kernel_rfl) rfl (fun K hK => ?_)
  go_simp
  have hbx : Below vc.heap.size vc (vc.alloc (.cells #[.int .i64 2, .int .i64 0, .int .i64 0, .int .i64 1, .slice (some ⟨p1, 0, none⟩) 32 32, .int .i64 2, .int .i64 0, .int .i64 0, .int .i64 2, .slice (some ⟨p2, 0, none⟩) 32 32] 41)) := (Below.refl _ _).alloc (Nat.le_refl _) _
  have HPu : Hid (Puts (vc.alloc (.cells #[.int .i64 2, .int .i64 0, .int .i64 0, .int .i64 1, .slice (some ⟨p1, 0, none⟩) 32 32, .int .i64 2, .int .i64 0, .int .i64 0, .int .i64 2, .slice (some ⟨p2, 0, none⟩) 32 32] 41)) (some ⟨vc.heap.size, 0, none⟩) [⟨(2, 0, 0), 1, some ⟨p1, 0, none⟩, 32, 32, rep 1⟩, ⟨(2, 0, 0), 2, some ⟨p2, 0, none⟩, 32, 32, rep 2⟩]) := two_puts vc p1 p2 HRp1.out HRp2.out
  have HAvd : Hid (Aw w.heap.size w (vc.alloc (.cells #[.int .i64 2, .int .i64 0, .int .i64 0, .int .i64 1, .slice (some ⟨p1, 0, none⟩) 32 32, .int .i64 2, .int .i64 0, .int .i64 0, .int .i64 2, .slice (some ⟨p2, 0, none⟩) 32 32] 41)) Fj X) := HAvc.out.inside hbx (HAvc.out.size (Nat.le_refl _))
  have HJvd : Hid (J.JP Fj (vc.alloc (.cells #[.int .i64 2, .int .i64 0, .int .i64 0, .int .i64 1, .slice (some ⟨p1, 0, none⟩) 32 32, .int .i64 2, .int .i64 0, .int .i64 0, .int .i64 2, .slice (some ⟨p2, 0, none⟩) 32 32] 41)) j d S2 [] ∧ S2.free) := ⟨J.jp_keep HJvc.out.1 (fun k hk => hbx.block k (HAvc.out.fk k hk).2.1), HJvc.out.2⟩
  clear hbx HAvc HJvc HRp1 HRp2
  generalize vc.heap.size = q at *
  generalize vc.alloc (.cells #[.int .i64 2, .int .i64 0, .int .i64 0, .int .i64 1, .slice (some ⟨p1, 0, none⟩) 32 32, .int .i64 2, .int .i64 0, .int .i64 0, .int .i64 2, .slice (some ⟨p2, 0, none⟩) 32 32] 41) = vd at *
  replace hHeld : (At3 X 2 0 0) _ := HAvd.out.box
  refine hK.out _ _ (fun _ => hHeld) ?_
  clear hK K
  refine one_L (i := 8) (by kernel_rfl) rfl (fun K hK => ?_)
  go_simp
  refine (J.group_ Fj j d S2 [] (some ⟨q, 0, none⟩) 2 2 _ vd HJvd.out.1 (fun k hk => (HAvd.out.fk k hk).2.1) rfl (by decide) HPu.out (by omega)).mono ?_
  rintro _ w4 ⟨S4, E, rfl, hC4, hw4, hst4, hor⟩
  have hm : may (List.map Pt.bk [(⟨(2, 0, 0), 1, some ⟨p1, 0, none⟩, 32, 32, rep 1⟩ : Pt), ⟨(2, 0, 0), 2, some ⟨p2, 0, none⟩, 32, 32, rep 2⟩]) = 0 := rfl
  rw [hm] at hor
  have hE : E = 0 ∧ J.JP (Gr Fj vd w4) w4 j d S4 V1 := by
    rcases hor with ⟨h, _⟩ | ⟨_, h, _, hJ⟩ | ⟨_, _, h, _⟩
    · exact absurd rfl h
    · exact ⟨h, hJ⟩
    · exact absurd HJvd.out.2 h
  obtain ⟨rfl, hJ4⟩ := hE
  have HA4 : Hid (Aw w.heap.size w w4 (Gr Fj vd w4) X) := HAvd.out.chg hC4 (HAvd.out.size (Nat.le_refl _))
  have HJ4 : Hid (J.JP (Gr Fj vd w4) w4 j d S4 V1 ∧ S4.free) := ⟨hJ4, hst4.free HJvd.out.2⟩
  have hw4' : S4.writes ≤ 4000 := by omega
  clear hor hJ4 hC4 hw4 hst4 hm HPu HAvd HJvd hw2'
  generalize Gr Fj vd w4 = Fk at *
  replace hHeld : (At3 X 2 0 0) _ := HA4.out.box
  refine hK.out _ _ (fun _ => hHeld) ?_
  clear hK K
  refine one_L (i := 9) (by kernel_rfl) rfl (fun K hK => ?_)
  go_simp
  refine hK.out _ _ (fun h => absurd rfl h) ?_
  clear hK K
  refine done_L (by kernel_rfl) ?_ _
  clear hHeld hne k0 k1 k2
  obtain ⟨x0, x1, x2⟩ := HA4.out.box
  go_wp2_with fail
  refine (read_c Fk d S4 2 0 0 2 two64 ⟨by decide, by decide⟩ w4 (J.jp_disk HJ4.out.1)).mono ?_
  rintro _ w5 hr
  have hrd : S4.read (2, 0, 0) 2 = (0, rep 2) := by
    rw [read_ok _ _ _ (by decide) HJ4.out.2.1, (J.jp_sees HJ4.out.1).1 (2, 0, 0) 2 (by decide), v1_two]
    rfl
  rw [hrd] at hr
  obtain ⟨xp, hxp, rfl, hb5, hB5⟩ := read_full hr (by simp)
  have HX5 : Hid (Bx Fk xp (rep 2) w5) := ⟨hB5, fun hf => by have := (HA4.out.fk xp hf).2.1; omega⟩
  have HA5 : Hid (Aw w.heap.size w w5 Fk X) := HA4.out.inside hb5 (HA4.out.size (Nat.le_refl _))
  have HJ5 : Hid (J.JP Fk w5 j d S4 V1 ∧ S4.free) := ⟨J.jp_keep HJ4.out.1 (fun k hk => hb5.block k (HA4.out.fk k hk).2.1), HJ4.out.2⟩
  clear hr hrd hB5 hb5 hxp HA4 HJ4 x0 x1 x2
  go_wp2_with fail
  refine (block_c 1 w5).mono ?_
  rintro _ w6 ⟨⟨rfl, hrb⟩, hbb⟩
  have HA6 : Hid (Aw w.heap.size w w6 Fk X) := HA5.out.inside hbb (HA5.out.size (Nat.le_refl _))
  have HJ6 : Hid (J.JP Fk w6 j d S4 V1 ∧ S4.free) := ⟨J.jp_keep HJ5.out.1 (fun k hk => hbb.block k (HA5.out.fk k hk).2.1), HJ5.out.2⟩
  have HX6 : Hid (Bx Fk xp (rep 2) w6) := HX5.out.inside hbb
  have HR6 : Hid (Row w6 w5.heap.size (rep 1)) := hrb
  clear hrb hbb HA5 HJ5 HX5
  generalize w5.heap.size = p at *
  have hbx : Below w6.heap.size w6 (w6.alloc (.cells #[.int .i64 1, .int .i64 0, .int .i64 0, .int .i64 1, .slice (some ⟨p, 0, none⟩) 32 32] 41)) := (Below.refl _ _).alloc (Nat.le_refl _) _
  have HPu : Hid (Puts (w6.alloc (.cells #[.int .i64 1, .int .i64 0, .int .i64 0, .int .i64 1, .slice (some ⟨p, 0, none⟩) 32 32] 41)) (some ⟨w6.heap.size, 0, none⟩) [⟨(1, 0, 0), 1, some ⟨p, 0, none⟩, 32, 32, rep 1⟩]) := one_put w6 1 0 0 1 p 1 (by decide) ⟨n1, n1, n0, n0⟩ HR6.out
  have HA7 : Hid (Aw w.heap.size w (w6.alloc (.cells #[.int .i64 1, .int .i64 0, .int .i64 0, .int .i64 1, .slice (some ⟨p, 0, none⟩) 32 32] 41)) Fk X) := HA6.out.inside hbx (HA6.out.size (Nat.le_refl _))
  have HJ7 : Hid (J.JP Fk (w6.alloc (.cells #[.int .i64 1, .int .i64 0, .int .i64 0, .int .i64 1, .slice (some ⟨p, 0, none⟩) 32 32] 41)) j d S4 V1 ∧ S4.free) := ⟨J.jp_keep HJ6.out.1 (fun k hk => hbx.block k (HA6.out.fk k hk).2.1), HJ6.out.2⟩
  have HX7 : Hid (Bx Fk xp (rep 2) (w6.alloc (.cells #[.int .i64 1, .int .i64 0, .int .i64 0, .int .i64 1, .slice (some ⟨p, 0, none⟩) 32 32] 41))) := HX6.out.inside hbx
  clear hbx HA6 HJ6 HX6 HR6
  go_wp2_with fail
  generalize w6.heap.size = q at *
  generalize w6.alloc (.cells #[.int .i64 1, .int .i64 0, .int .i64 0, .int .i64 1, .slice (some ⟨p, 0, none⟩) 32 32] 41) = w7 at *
  refine (J.group_ Fk j d S4 V1 (some ⟨q, 0, none⟩) 1 1 _ w7 HJ7.out.1 (fun k hk => (HA7.out.fk k hk).2.1) rfl (by decide) HPu.out (by omega)).mono ?_
  rintro _ w8 ⟨S8, E, rfl, hC, hw, hst, hor⟩
  have hm : may (List.map Pt.bk [(⟨(1, 0, 0), 1, some ⟨p, 0, none⟩, 32, 32, rep 1⟩ : Pt)]) = 1 := rfl
  rw [hm] at hor
  have hE : E = 1 ∧ J.JP (Gr Fk w7 w8) w8 j d S8 V1 := by
    rcases hor with ⟨_, h, hJ⟩ | ⟨h, _⟩ | ⟨h, _⟩
    · exact ⟨h, hJ⟩
    · exact absurd h (by decide)
    · exact absurd h (by decide)
  obtain ⟨rfl, hJ⟩ := hE
  have HA8 : Hid (Aw w.heap.size w w8 (Gr Fk w7 w8) X) := HA7.out.chg hC (HA7.out.size (Nat.le_refl _))
  have HJ8 : Hid (J.JP (Gr Fk w7 w8) w8 j d S8 V1 ∧ S8.free) := ⟨hJ, hst.free HJ7.out.2⟩
  have HX8 : Hid (Bx (Gr Fk w7 w8) xp (rep 2) w8) := HX7.out.chg hC
  have hw8' : S8.writes ≤ 6000 := by omega
  clear hor hJ hC hw hst hm HPu HA7 HJ7 HX7
  generalize Gr Fk w7 w8 = Fl at *
  go_wp2_with (at_make; refine wpList_make_put w8 rfl _ _ rfl rfl rfl ?_; intro w9 HPu hb9)
  have HA9 : Hid (Aw w.heap.size w w9 Fl X) := HA8.out.inside hb9 (HA8.out.size (Nat.le_refl _))
  have HJ9 : Hid (J.JP Fl w9 j d S8 V1 ∧ S8.free) := ⟨J.jp_keep HJ8.out.1 (fun k hk => hb9.block k (HA8.out.fk k hk).2.1), HJ8.out.2⟩
  have HX9 : Hid (Bx Fl xp (rep 2) w9) := HX8.out.inside hb9
  clear hb9 HA8 HJ8 HX8
  generalize w8.heap.size = q at *
  go_wp2_with fail
  refine (J.group_ Fl j d S8 V1 (some ⟨q, 0, none⟩) 1 1 _ w9 HJ9.out.1 (fun k hk => (HA9.out.fk k hk).2.1) rfl (by decide) HPu.out (by omega)).mono ?_
  rintro _ w10 ⟨S10, E, rfl, hC, hw, hst, hor⟩
  have hm : may (List.map Pt.bk [(⟨(0, 0, 0), 0, none, 0, 0, []⟩ : Pt)]) = 1 := rfl
  rw [hm] at hor
  have hE : E = 1 ∧ J.JP (Gr Fl w9 w10) w10 j d S10 V1 := by
    rcases hor with ⟨_, h, hJ⟩ | ⟨h, _⟩ | ⟨h, _⟩
    · exact ⟨h, hJ⟩
    · exact absurd h (by decide)
    · exact absurd h (by decide)
  obtain ⟨rfl, hJ⟩ := hE
  have HA10 : Hid (Aw w.heap.size w w10 (Gr Fl w9 w10) X) := HA9.out.chg hC (HA9.out.size (Nat.le_refl _))
  have HJ10 : Hid (J.JP (Gr Fl w9 w10) w10 j d S10 V1 ∧ S10.free) := ⟨hJ, hst.free HJ9.out.2⟩
  have HX10 : Hid (Bx (Gr Fl w9 w10) xp (rep 2) w10) := HX9.out.chg hC
  have hw10' : S10.writes ≤ 8000 := by omega
  clear hor hJ hC hw hst hm HPu HA9 HJ9 HX9
  generalize Gr Fl w9 w10 = Fm at *
  go_wp2_with fail
  refine (cut_c Fm d S10 1 ⟨by decide, by decide⟩ w10 (J.jp_disk HJ10.out.1)).mono ?_
  rintro e w11 ⟨rfl, hD11, hO11⟩
  have hdF : Fm d := (J.jp_disk HJ10.out.1).inF
  have HA11 : Hid (Aw w.heap.size w w11 Fm X) := HA10.out.only hO11 hdF
  have HX11 : Hid (Bx Fm xp (rep 2) w11) := HX10.out.only hO11 hdF
  have HJ11 : Hid (J.JP Fm w11 j d (S10.cut 1) V1) := J.jp_cut HJ10.out.1 hO11 hD11
  have Hc11 : Hid ((S10.cut 1).armed = true ∧ (S10.cut 1).left = 1 ∧ (S10.cut 1).out = false) := ⟨rfl, rfl, by have := HJ10.out.2.1; simp [St.cut, this]⟩
  have hw11 : (S10.cut 1).writes ≤ 8000 := hw10'
  generalize S10.cut 1 = S11 at *
  clear hD11 hO11 hdF HA10 HJ10 HX10
  go_upto_region 13 with fail
  refine region_L (At3 X 2 0 0) 6 (by kernel_rfl) ?_
  have HAva : Hid (Aw w.heap.size w w11.drew Fm X) := HA11.out.drew
  have HJva : Hid (J.JP Fm w11.drew j d S11 V1) := J.jp_keep HJ11.out (fun _ _ => rfl)
  have HXva : Hid (Bx Fm xp (rep 2) w11.drew) := HX11.out
  clear HA11 HJ11 HX11
  generalize w11.drew = va at *
  have hHeld : (At3 X 2 0 0) _ := HAva.out.box
  have hne : Nonempty (Sub (At3 X 2 0 0)) := ⟨⟨_, hHeld⟩⟩
  have k0 : ∀ s : Sub (At3 X 2 0 0), s.w.cell? ⟨X, 0, none⟩ = some (.int .i64 2) := fun s => s.ok.1
  have k1 : ∀ s : Sub (At3 X 2 0 0), s.w.cell? ⟨X, 1, none⟩ = some (.int .i64 0) := fun s => s.ok.2.1
  have k2 : ∀ s : Sub (At3 X 2 0 0), s.w.cell? ⟨X, 2, none⟩ = some (.int .i64 0) := fun s => s.ok.2.2
  refine take_L (i := 0) rfl (by kernel_rfl) (by kernel_rfl) (by kernel_rfl) (by kernel_rfl) (fun _ _ _ _ h => h) (by exact hHeld) (fun K hK => ?_)
  go_simp
  refine hK _ ?_
  clear hK K
  refine take_L (i := 1) rfl (by kernel_rfl) (by kernel_rfl) (by kernel_rfl) (by kernel_rfl) (fun _ _ _ _ h => h) (by exact hHeld) (fun K hK => ?_)
  go_simp
  refine hK _ ?_
  clear hK K
  refine one_L (i := 2) (by kernel_rfl) rfl (fun K hK => ?_)
  go_simp
  refine (block_c 9 va).mono ?_
  rintro _ vb ⟨⟨rfl, hrb⟩, hbb⟩
  have HRb : Hid (Row vb va.heap.size (rep 9)) := hrb
  have HAvb : Hid (Aw w.heap.size w vb Fm X) := HAva.out.inside hbb (HAva.out.size (Nat.le_refl _))
  have HJvb : Hid (J.JP Fm vb j d S11 V1) := J.jp_keep HJva.out (fun k hk => hbb.block k (HAva.out.fk k hk).2.1)
  have HXvb : Hid (Bx Fm xp (rep 2) vb) := HXva.out.inside hbb
  clear hrb hbb HAva HJva HXva
  generalize va.heap.size = p9 at *
  replace hHeld : (At3 X 2 0 0) _ := HAvb.out.box
  refine hK.out _ _ (fun _ => hHeld) ?_
  clear hK K
  refine take_L (i := 3) rfl (by kernel_rfl) (by kernel_rfl) (by kernel_rfl) (by kernel_rfl) (fun _ _ _ _ h => h) (by exact hHeld) (fun K hK => ?_)
  go_simp
  refine hK _ ?_
  clear hK K
  refine one_L (i := 4) (by kernel_rfl) rfl (fun K hK => ?_)
  go_simp
  have hbx : Below vb.heap.size vb (vb.alloc (.cells #[.int .i64 2, .int .i64 0, .int .i64 0, .int .i64 1, .slice (some ⟨p9, 0, none⟩) 32 32] 41)) := (Below.refl _ _).alloc (Nat.le_refl _) _
  have HPu : Hid (Puts (vb.alloc (.cells #[.int .i64 2, .int .i64 0, .int .i64 0, .int .i64 1, .slice (some ⟨p9, 0, none⟩) 32 32] 41)) (some ⟨vb.heap.size, 0, none⟩) [⟨(2, 0, 0), 1, some ⟨p9, 0, none⟩, 32, 32, rep 9⟩]) := one_put vb 2 0 0 1 p9 9 (by decide) ⟨n1, n2, n0, n0⟩ HRb.out
  have HAvd : Hid (Aw w.heap.size w (vb.alloc (.cells #[.int .i64 2, .int .i64 0, .int .i64 0, .int .i64 1, .slice (some ⟨p9, 0, none⟩) 32 32] 41)) Fm X) := HAvb.out.inside hbx (HAvb.out.size (Nat.le_refl _))
  have HJvd : Hid (J.JP Fm (vb.alloc (.cells #[.int .i64 2, .int .i64 0, .int .i64 0, .int .i64 1, .slice (some ⟨p9, 0, none⟩) 32 32] 41)) j d S11 V1) := J.jp_keep HJvb.out (fun k hk => hbx.block k (HAvb.out.fk k hk).2.1)
  have HXvd : Hid (Bx Fm xp (rep 2) (vb.alloc (.cells #[.int .i64 2, .int .i64 0, .int .i64 0, .int .i64 1, .slice (some ⟨p9, 0, none⟩) 32 32] 41))) := HXvb.out.inside hbx
  clear hbx HAvb HJvb HXvb HRb
  generalize vb.heap.size = q9 at *
  generalize vb.alloc (.cells #[.int .i64 2, .int .i64 0, .int .i64 0, .int .i64 1, .slice (some ⟨p9, 0, none⟩) 32 32] 41) = vd at *
  replace hHeld : (At3 X 2 0 0) _ := HAvd.out.box
  refine hK.out _ _ (fun _ => hHeld) ?_
  clear hK K
  refine one_L (i := 5) (by kernel_rfl) rfl (fun K hK => ?_)
  go_simp
  refine (J.group_ Fm j d S11 V1 (some ⟨q9, 0, none⟩) 1 1 _ vd HJvd.out (fun k hk => (HAvd.out.fk k hk).2.1) rfl (by decide) HPu.out (by omega)).mono ?_
  rintro _ w12 ⟨S12, E, rfl, hC, hw, hst, hor⟩
  have hm : may (List.map Pt.bk [(⟨(2, 0, 0), 1, some ⟨p9, 0, none⟩, 32, 32, rep 9⟩ : Pt)]) = 0 := rfl
  rw [hm] at hor
  have hl := hst.last Hc11.out.1 Hc11.out.2.1
  have hE : E = 8 ∧ PDisk (Gr Fm vd w12) w12 d S12 ∧ J.Rec S12 V1 := by
    rcases hor with ⟨h, _⟩ | ⟨_, _, ho, hJ⟩ | ⟨_, h, _, ho, hX, hr⟩
    · exact absurd rfl h
    · exfalso
      rcases hl with rfl | ⟨h, _⟩
      · have h1 := (J.jp_sees hJ).1 (2, 0, 0) 1 (by decide)
        have h2 := (J.jp_sees HJvd.out).1 (2, 0, 0) 1 (by decide)
        rw [h2, v1_one] at h1
        exact absurd (h1.trans v1_nine) (by decide)
      · rw [ho] at h; cases h
    · refine ⟨h, J.jx_disk hX, ?_⟩
      rcases hr with hr | ⟨h2, _⟩
      · exact hr
      · exfalso
        rcases hl with rfl | ⟨_, h3⟩
        · omega
        · omega
  obtain ⟨rfl, hD12, hR12⟩ := hE
  have HA12 : Hid (Aw w.heap.size w w12 (Gr Fm vd w12) X) := HAvd.out.chg hC (HAvd.out.size (Nat.le_refl _))
  have HD12 : Hid (PDisk (Gr Fm vd w12) w12 d S12 ∧ J.Rec S12 V1) := ⟨hD12, hR12⟩
  have HX12 : Hid (Bx (Gr Fm vd w12) xp (rep 2) w12) := HXvd.out.chg hC
  have hw12' : S12.writes ≤ 10000 := by omega
  clear hor hD12 hR12 hC hw hst hl hm HPu HAvd HJvd HXvd Hc11
  generalize Gr Fm vd w12 = Fn at *
  replace hHeld : (At3 X 2 0 0) _ := HA12.out.box
  refine hK.out _ _ (fun _ => hHeld) ?_
  clear hK K
  refine one_L (i := 6) (by kernel_rfl) rfl (fun K hK => ?_)
  go_simp
  refine hK.out _ _ (fun h => absurd rfl h) ?_
  clear hK K
  refine done_L (by kernel_rfl) ?_ _
  clear hHeld hne k0 k1 k2
  go_wp2_with fail
  refine (up_c Fn d S12 w12 HD12.out.1).mono ?_
  rintro e w13 ⟨rfl, hD13, hO13⟩
  have hdF : Fn d := HD12.out.1.inF
  have HA13 : Hid (Aw w.heap.size w w13 Fn X) := HA12.out.only hO13 hdF
  have HX13 : Hid (Bx Fn xp (rep 2) w13) := HX12.out.only hO13 hdF
  have HD13 : Hid (PDisk Fn w13 d S12.up ∧ J.Rec S12.up V1) := ⟨hD13, J.rec_l HD12.out.2 rfl⟩
  have hw13 : S12.up.writes ≤ 10000 := hw12'
  have Hf13 : Hid (S12.up.free) := ⟨rfl, rfl⟩
  generalize S12.up = S13 at *
  clear hD13 hO13 hdF HA12 HD12 HX12
  go_wp2_with fail
  refine (J.open_ Fn d S13 V1 w13 HD13.out.1 (fun k hk => (HA13.out.fk k hk).2.1) HD13.out.2 (by omega)).mono ?_
  rintro _ w14 ⟨S14, jv, E, rfl, hC, hw, hst, hor⟩
  rcases hor with ⟨rfl, j2, rfl, hJ⟩ | ⟨_, h, _⟩
  rotate_left
  · exact absurd Hf13.out h
  have HA14 : Hid (Aw w.heap.size w w14 (Gr Fn w13 w14) X) := HA13.out.chg hC (HA13.out.size (Nat.le_refl _))
  have HX14 : Hid (Bx (Gr Fn w13 w14) xp (rep 2) w14) := HX13.out.chg hC
  have HJ14 : Hid (J.JP (Gr Fn w13 w14) w14 j2 d S14 V1 ∧ S14.free) := ⟨hJ, hst.free Hf13.out⟩
  clear hC hw hst hJ HA13 HX13 HD13 Hf13
  generalize Gr Fn w13 w14 = Fo at *
  obtain ⟨x0, x1, x2⟩ := HA14.out.box
  go_wp2_with fail
  refine (read_c Fo d S14 2 0 0 1 two64 ⟨by decide, by decide⟩ w14 (J.jp_disk HJ14.out.1)).mono ?_
  rintro _ w15 hr
  have hrd : S14.read (2, 0, 0) 1 = (0, rep 1) := by
    rw [read_ok _ _ _ (by decide) HJ14.out.2.1, (J.jp_sees HJ14.out.1).1 (2, 0, 0) 1 (by decide), v1_one]
    rfl
  rw [hrd] at hr
  obtain ⟨yp, hyp, rfl, hb15, hB15⟩ := read_full hr (by simp)
  have HX15 : Hid (Blk w15 xp 79 (rep 2)) := (HX14.out.inside hb15).1
  have HY15 : Hid (Blk w15 yp 79 (rep 1)) := hB15
  have HN15 : Hid (Below w.heap.size w w15) := (HA14.out.inside hb15 (HA14.out.size (Nat.le_refl _))).bel
  clear hr hrd hB15 hb15 hyp HA14 HJ14 HX14 x0 x1 x2
  go_upto_region 17 with fail
  refine region_L (AtQ xp yp) 36 (by kernel_rfl) ?_
  have HNa : Hid (Below w.heap.size w w15.drew) := HN15.out.drew
  have HXa : Hid (AtQ xp yp w15.drew) := ⟨HX15.out, HY15.out⟩
  clear HX15 HY15 HN15
  generalize w15.drew = va at *
  obtain ⟨s2, hs2⟩ : ∃ st, st = strOfNums (rep 2) := ⟨_, rfl⟩
  have HS2 : Hid (s2 = strOfNums (rep 2)) := hs2
  obtain ⟨s1, hs1⟩ : ∃ st, st = strOfNums (rep 1) := ⟨_, rfl⟩
  have HS1 : Hid (s1 = strOfNums (rep 1)) := hs1
  clear hs1 hs2
  have hHeld : (AtQ xp yp) _ := HXa.out
  have hne : Nonempty (Sub (AtQ xp yp)) := ⟨⟨_, hHeld⟩⟩
  have k0 : ∀ s : Sub (AtQ xp yp), (convert 39 9 (.slice (some ⟨xp, 0, none⟩) 32 32)).run Try.prog s.w = .ok (.string s2) s.w := fun s => by rw [HS2.out]; exact conv_c (blk_src s.ok.1 (rep_fit 2 (by decide)))
  have k1 : ∀ s : Sub (AtQ xp yp), (convert 39 9 (.slice (some ⟨yp, 0, none⟩) 32 32)).run Try.prog s.w = .ok (.string s1) s.w := fun s => by rw [HS1.out]; exact conv_c (blk_src s.ok.2 (rep_fit 1 (by decide)))
  refine take_L (i := 0) rfl (by kernel_rfl) (by kernel_rfl) (by kernel_rfl) (by kernel_rfl) (fun _ _ _ _ h => h) (by exact hHeld) (fun K hK => ?_)
  go_simp
  refine hK _ ?_
  clear hK K
  refine take_L (i := 1) rfl (by kernel_rfl) (by kernel_rfl) (by kernel_rfl) (by kernel_rfl) (fun _ _ _ _ h => h) (by exact hHeld) (fun K hK => ?_)
  go_simp
  refine hK _ ?_
  clear hK K
  refine take_L (i := 2) rfl (by kernel_rfl) (by kernel_rfl) (by kernel_rfl) (by kernel_rfl) (fun _ _ _ _ h => h) (by exact hHeld) (fun K hK => ?_)
  go_simp
  refine hK _ ?_
  clear hK K
  refine take_L (i := 3) rfl (by kernel_rfl) (by kernel_rfl) (by kernel_rfl) (by kernel_rfl) (fun _ _ _ _ h => h) (by exact hHeld) (fun K hK => ?_)
  go_simp
  refine hK _ ?_
  clear hK K
  refine take_L (i := 4) rfl (by kernel_rfl) (by kernel_rfl) (by kernel_rfl) (by kernel_rfl) (fun _ _ _ _ h => h) (by exact hHeld) (fun K hK => ?_)
  go_simp
  refine hK _ ?_
  clear hK K
  refine one_L (i := 5) (by kernel_rfl) rfl (fun K hK => ?_)
  go_simp
  refine (block_c 2 va).mono ?_
  rintro _ vb ⟨⟨rfl, hrc⟩, hbc⟩
  have HNb : Hid (Below w.heap.size w vb) := HNa.out.trans (hbc.mono HNa.out.size)
  have hEb : AtQ xp yp vb := hHeld.on hbc
  have hRb : Row vb va.heap.size (rep 2) := hrc
  clear hrc hbc
  generalize va.heap.size = q2 at *
  replace hHeld : (AtQ xp yp) _ := hEb
  refine hK.out _ _ (fun _ => hHeld) ?_
  clear hK K
  refine strong_L (S' := fun w' => AtQ xp yp w' ∧ Row w' q2 (rep 2)) (fun _ h => h.1) _ _ _ _ ?_
  replace hHeld : (fun w' => AtQ xp yp w' ∧ Row w' q2 (rep 2)) _ := ⟨hHeld, hRb⟩
  have hne2 : Nonempty (Sub (fun w' => AtQ xp yp w' ∧ Row w' q2 (rep 2))) := ⟨⟨_, hHeld⟩⟩
  have k2 : ∀ s : Sub (fun w' => AtQ xp yp w' ∧ Row w' q2 (rep 2)), (convert 39 9 (.slice (some ⟨q2, 0, none⟩) 32 32)).run Try.prog s.w = .ok (.string s2) s.w := fun s => by rw [HS2.out]; exact conv_c (row_src s.ok.2 (rep_fit 2 (by decide)))
  have k1b : ∀ s : Sub (fun w' => AtQ xp yp w' ∧ Row w' q2 (rep 2)), (convert 39 9 (.slice (some ⟨yp, 0, none⟩) 32 32)).run Try.prog s.w = .ok (.string s1) s.w := fun s => by rw [HS1.out]; exact conv_c (blk_src s.ok.1.2 (rep_fit 1 (by decide)))
  have k0b : ∀ s : Sub (fun w' => AtQ xp yp w' ∧ Row w' q2 (rep 2)), (convert 39 9 (.slice (some ⟨xp, 0, none⟩) 32 32)).run Try.prog s.w = .ok (.string s2) s.w := fun s => by rw [HS2.out]; exact conv_c (blk_src s.ok.1.1 (rep_fit 2 (by decide)))
  refine take_L (i := 6) rfl (by kernel_rfl) (by kernel_rfl) (by kernel_rfl) (by kernel_rfl) (fun _ _ _ _ h => h) (by exact hHeld) (fun K hK => ?_)
  go_simp
  refine hK _ ?_
  clear hK K
  refine take_L (i := 7) rfl (by kernel_rfl) (by kernel_rfl) (by kernel_rfl) (by kernel_rfl) (fun _ _ _ _ h => h) (by exact hHeld) (fun K hK => ?_)
  go_simp
  refine hK _ ?_
  clear hK K
  refine take_L (i := 8) rfl (by kernel_rfl) (by kernel_rfl) (by kernel_rfl) (by kernel_rfl) (fun _ _ _ _ h => h) (by exact hHeld) (fun K hK => ?_)
  go_simp
  refine hK _ ?_
  clear hK K
  refine take_L (i := 9) rfl (by kernel_rfl) (by kernel_rfl) (by kernel_rfl) (by kernel_rfl) (fun _ _ _ _ h => h) (by exact hHeld) (fun K hK => ?_)
  go_simp
  refine hK _ ?_
  clear hK K
  refine take_L (i := 10) rfl (by kernel_rfl) (by kernel_rfl) (by kernel_rfl) (by kernel_rfl) (fun _ _ _ _ h => h) (by exact hHeld) (fun K hK => ?_)
  go_simp
  refine hK _ ?_
  clear hK K
  refine take_L (i := 11) rfl (by kernel_rfl) (by kernel_rfl) (by kernel_rfl) (by kernel_rfl) (fun _ _ _ _ h => h) (by exact hHeld) (fun K hK => ?_)
  go_simp
  refine hK _ ?_
  clear hK K
  refine take_L (i := 12) rfl (by kernel_rfl) (by kernel_rfl) (by kernel_rfl) (by kernel_rfl) (fun _ _ _ _ h => h) (by exact hHeld) (fun K hK => ?_)
  go_simp
  refine hK _ ?_
  clear hK K
  refine take_L (i := 13) rfl (by kernel_rfl) (by kernel_rfl) (by kernel_rfl) (by kernel_rfl) (fun _ _ _ _ h => h) (by exact hHeld) (fun K hK => ?_)
  go_simp
  refine hK _ ?_
  clear hK K
  refine take_L (i := 14) rfl (by kernel_rfl) (by kernel_rfl) (by kernel_rfl) (by kernel_rfl) (fun _ _ _ _ h => h) (by exact hHeld) (fun K hK => ?_)
  go_simp
  refine hK _ ?_
  clear hK K
  refine take_L (i := 15) rfl (by kernel_rfl) (by kernel_rfl) (by kernel_rfl) (by kernel_rfl) (fun _ _ _ _ h => h) (by exact hHeld) (fun K hK => ?_)
  go_simp
  refine hK _ ?_
  clear hK K
  refine take_L (i := 16) rfl (by kernel_rfl) (by kernel_rfl) (by kernel_rfl) (by kernel_rfl) (fun _ _ _ _ h => h) (by exact hHeld) (fun K hK => ?_)
  go_simp
  refine hK _ ?_
  clear hK K
  refine take_L (i := 17) rfl (by kernel_rfl) (by kernel_rfl) (by kernel_rfl) (by kernel_rfl) (fun _ _ _ _ h => h) (by exact hHeld) (fun K hK => ?_)
  go_simp
  refine hK _ ?_
  clear hK K
  refine take_L (i := 18) rfl (by kernel_rfl) (by kernel_rfl) (by kernel_rfl) (by kernel_rfl) (fun _ _ _ _ h => h) (by exact hHeld) (fun K hK => ?_)
  go_simp
  refine hK _ ?_
  clear hK K
  refine take_L (i := 19) rfl (by kernel_rfl) (by kernel_rfl) (by kernel_rfl) (by kernel_rfl) (fun _ _ _ _ h => h) (by exact hHeld) (fun K hK => ?_)
  go_simp
  refine hK _ ?_
  clear hK K
  refine take_L (i := 20) rfl (by kernel_rfl) (by kernel_rfl) (by kernel_rfl) (by kernel_rfl) (fun _ _ _ _ h => h) (by exact hHeld) (fun K hK => ?_)
  go_simp
  refine hK _ ?_
  clear hK K
  refine take_L (i := 21) rfl (by kernel_rfl) (by kernel_rfl) (by kernel_rfl) (by kernel_rfl) (fun _ _ _ _ h => h) (by exact hHeld) (fun K hK => ?_)
  go_simp
  refine hK _ ?_
  clear hK K
  refine take_L (i := 22) rfl (by kernel_rfl) (by kernel_rfl) (by kernel_rfl) (by kernel_rfl) (fun _ _ _ _ h => h) (by exact hHeld) (fun K hK => ?_)
  go_simp
  refine hK _ ?_
  clear hK K
  refine take_L (i := 23) rfl (by kernel_rfl) (by kernel_rfl) (by kernel_rfl) (by kernel_rfl) (fun _ _ _ _ h => h) (by exact hHeld) (fun K hK => ?_)
  go_simp
  refine hK _ ?_
  clear hK K
  refine take_L (i := 24) rfl (by kernel_rfl) (by kernel_rfl) (by kernel_rfl) (by kernel_rfl) (fun _ _ _ _ h => h) (by exact hHeld) (fun K hK => ?_)
  go_simp
  refine hK _ ?_
  clear hK K
  refine take_L (i := 25) rfl (by kernel_rfl) (by kernel_rfl) (by kernel_rfl) (by kernel_rfl) (fun _ _ _ _ h => h) (by exact hHeld) (fun K hK => ?_)
  go_simp
  refine hK _ ?_
  clear hK K
  refine take_L (i := 26) rfl (by kernel_rfl) (by kernel_rfl) (by kernel_rfl) (by kernel_rfl) (fun _ _ _ _ h => h) (by exact hHeld) (fun K hK => ?_)
  go_simp
  refine hK _ ?_
  clear hK K
  refine take_L (i := 27) rfl (by kernel_rfl) (by kernel_rfl) (by kernel_rfl) (by kernel_rfl) (fun _ _ _ _ h => h) (by exact hHeld) (fun K hK => ?_)
  go_simp
  refine hK _ ?_
  clear hK K
  refine take_L (i := 28) rfl (by kernel_rfl) (by kernel_rfl) (by kernel_rfl) (by kernel_rfl) (fun _ _ _ _ h => h) (by exact hHeld) (fun K hK => ?_)
  go_simp
  refine hK _ ?_
  clear hK K
  refine take_L (i := 29) rfl (by kernel_rfl) (by kernel_rfl) (by kernel_rfl) (by kernel_rfl) (fun _ _ _ _ h => h) (by exact hHeld) (fun K hK => ?_)
  go_simp
  refine hK _ ?_
  clear hK K
  refine take_L (i := 30) rfl (by kernel_rfl) (by kernel_rfl) (by kernel_rfl) (by kernel_rfl) (fun _ _ _ _ h => h) (by exact hHeld) (fun K hK => ?_)
  go_simp
  refine hK _ ?_
  clear hK K
  refine take_L (i := 31) rfl (by kernel_rfl) (by kernel_rfl) (by kernel_rfl) (by kernel_rfl) (fun _ _ _ _ h => h) (by exact hHeld) (fun K hK => ?_)
  go_simp
  refine hK _ ?_
  clear hK K
  refine one_L (i := 32) (by kernel_rfl) rfl (fun K hK => ?_)
  go_simp
  refine (block_c 1 vb).mono ?_
  rintro _ vc ⟨⟨rfl, hrc⟩, hbc⟩
  have HNc : Hid (Below w.heap.size w vc) := HNb.out.trans (hbc.mono HNb.out.size)
  have hEc : AtQ xp yp vc ∧ Row vc q2 (rep 2) := ⟨hHeld.1.on hbc, hHeld.2.below hbc hHeld.2.lt⟩
  have hRc : Row vc vb.heap.size (rep 1) := hrc
  clear hrc hbc
  generalize vb.heap.size = q1 at *
  replace hHeld : (fun w' => AtQ xp yp w' ∧ Row w' q2 (rep 2)) _ := hEc
  refine hK.out _ _ (fun _ => hHeld) ?_
  clear hK K
  refine strong_L (S' := fun w' => (AtQ xp yp w' ∧ Row w' q2 (rep 2)) ∧ Row w' q1 (rep 1)) (fun _ h => h.1) _ _ _ _ ?_
  replace hHeld : (fun w' => (AtQ xp yp w' ∧ Row w' q2 (rep 2)) ∧ Row w' q1 (rep 1)) _ := ⟨hHeld, hRc⟩
  have hne2 : Nonempty (Sub (fun w' => (AtQ xp yp w' ∧ Row w' q2 (rep 2)) ∧ Row w' q1 (rep 1))) := ⟨⟨_, hHeld⟩⟩
  have k3 : ∀ s : Sub (fun w' => (AtQ xp yp w' ∧ Row w' q2 (rep 2)) ∧ Row w' q1 (rep 1)), (convert 39 9 (.slice (some ⟨q1, 0, none⟩) 32 32)).run Try.prog s.w = .ok (.string s1) s.w := fun s => by rw [HS1.out]; exact conv_c (row_src s.ok.2 (rep_fit 1 (by decide)))
  have k1c : ∀ s : Sub (fun w' => (AtQ xp yp w' ∧ Row w' q2 (rep 2)) ∧ Row w' q1 (rep 1)), (convert 39 9 (.slice (some ⟨yp, 0, none⟩) 32 32)).run Try.prog s.w = .ok (.string s1) s.w := fun s => by rw [HS1.out]; exact conv_c (blk_src s.ok.1.1.2 (rep_fit 1 (by decide)))
  refine take_L (i := 33) rfl (by kernel_rfl) (by kernel_rfl) (by kernel_rfl) (by kernel_rfl) (fun _ _ _ _ h => h) (by exact hHeld) (fun K hK => ?_)
  go_simp
  refine hK _ ?_
  clear hK K
  refine take_L (i := 34) rfl (by kernel_rfl) (by kernel_rfl) (by kernel_rfl) (by kernel_rfl) (fun _ _ _ _ h => h) (by exact hHeld) (fun K hK => ?_)
  go_simp
  refine hK _ ?_
  clear hK K
  refine take_L (i := 35) rfl (by kernel_rfl) (by kernel_rfl) (by kernel_rfl) (by kernel_rfl) (fun _ _ _ _ h => h) (by exact hHeld) (fun K hK => ?_)
  go_simp
  refine hK _ ?_
  clear hK K
  refine one_L (i := 36) (by kernel_rfl) rfl (fun K hK => ?_)
  go_simp
  refine hK.out _ _ (fun h => absurd rfl h) ?_
  clear hK K
  refine done_L (by kernel_rfl) ?_ _
  have R := HP.out vc HNc.out
  clear HP
  go_wp2
  exact R
end Go.Proofs.Ytjkeejbfipmidaa
