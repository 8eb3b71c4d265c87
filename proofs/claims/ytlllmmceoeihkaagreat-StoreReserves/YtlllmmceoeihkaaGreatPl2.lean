/-
  The program's region: read.
  The program's region: Open.
  The program's region: Plan, with where its blocks lie.
-/
import Derived.Test.YtlllmmceoeihkaaGreatNplace
set_option maxRecDepth 20000
namespace Go.Proofs.YtlllmmceoeihkaaGreat
open Go.RowKit
theorem blks_snoc (l : List Bk) (f : Fl) (i j : Nat) : blks l f i (j + 1) = blks l f i j ++ blk l f (i + j) := by
 unfold blks
 rw [List.range'_1_concat, List.map_append, List.flatten_append]
 simp
theorem blk_bytes {w : World} {p : Nat} {t : TypeId} {cs : List Int} {n : Nat} (h : Blk w p t cs) (hf : ∀ y ∈ cs, 0 ≤ y ∧ y ≤ 255) (hl : cs.length = n) : Bytes w (some ⟨p, 0, none⟩) n cs :=
 ⟨hl, .inr ⟨p, 0, rfl, fun k hk => by rw [Nat.zero_add, h.cell hk, List.getD_eq_getElem?_getD, List.getElem?_eq_getElem hk]; rfl⟩, hf⟩
set_option maxHeartbeats 1000000 in
theorem rread_c (Fd : Nat → Prop) (d g : Nat) (S : St) (x z : Int) (l : List Sm) (f m : Nat) (w : World) (H : RB w g x z l) (hD : PDisk Fd w d S) (hFl : ∀ k, Fd k → k < w.heap.size) (hx : I64 x) (hz : I64 z) (hf : f < 1000) (hm : m < 1000) :
  Calls Tryz.prog 88 #[.pointer (some ⟨g, 0, none⟩), .pointer (some ⟨d, 0, none⟩), .agg #[.int .i64 (f : Int), .int .i64 (m : Int)]] w fun e w' => Below w.heap.size w w' ∧
   ((S.out = true ∧ 0 < m ∧ e = .returned (.tuple #[.slice none 0 0, .int .i64 8])) ∨ ((S.out = false ∨ m = 0) ∧ ∃ a c, e = .returned (.tuple #[.slice a (32 * m) c, .int .i64 0]) ∧ Own w' w.heap.size a c (blks S.l (2, x, z) f m))) := by
 obtain ⟨Post, hPost⟩ : ∃ Post : Ending → World → Prop, Post = fun e w' => Below w.heap.size w w' ∧
   ((S.out = true ∧ 0 < m ∧ e = .returned (.tuple #[.slice none 0 0, .int .i64 8])) ∨ ((S.out = false ∨ m = 0) ∧ ∃ a c, e = .returned (.tuple #[.slice a (32 * m) c, .int .i64 0]) ∧ Own w' w.heap.size a c (blks S.l (2, x, z) f m))) := ⟨_, rfl⟩
 rw [← hPost]
 have HPd : Hid (S.out = true → 0 < m → ∀ w', Below w.heap.size w w' → Post (.returned (.tuple #[.slice none 0 0, .int .i64 8])) w') := fun h1 h2 w' h3 => by rw [hPost]; exact ⟨h3, .inl ⟨h1, h2, rfl⟩⟩
 have HPo : Hid ((S.out = false ∨ m = 0) → ∀ w' a c, Below w.heap.size w w' → Own w' w.heap.size a c (blks S.l (2, x, z) f m) → Post (.returned (.tuple #[.slice a (32 * m) c, .int .i64 0])) w') := fun h1 w' a c h2 h3 => by rw [hPost]; exact ⟨h2, .inr ⟨h1, a, c, rfl, h3⟩⟩
 clear hPost
 obtain ⟨mb, ml, hD0⟩ := hD
 have Hbk : Hid (∀ i : Nat, (blk S.l (2, x, z) i).length = 32 ∧ ∀ y ∈ blk S.l (2, x, z) i, 0 ≤ y ∧ y ≤ 255) := fun i => has_fit hD0 (2, x, z) (i : Int)
 have HD : Hid (PDisk Fd w d S) := ⟨mb, ml, hD0⟩
 have HB : Hid (RB w g x z l) := H
 have HF : Hid (∀ k, Fd k → k < w.heap.size) := hFl
 have Hx : Hid (I64 x) := hx
 have Hz : Hid (I64 z) := hz
 clear hD0 H hFl hx hz
 go_enter Tryz.func88, Tryz.ntmps88
 go_wp2_with fail
 have Hb0 : Hid (Below w.heap.size w (w.alloc (.cells #[.int .i64 (f : Int), .int .i64 (m : Int)] 97))) := (Below.refl _ _).alloc (Nat.le_refl _) _
 have hbox := heap_alloc_new w (.cells #[.int .i64 (f : Int), .int .i64 (m : Int)] 97)
 have hsz : (w.alloc (.cells #[.int .i64 (f : Int), .int .i64 (m : Int)] 97)).heap.size = w.heap.size + 1 := by simp
 have Hsz : Hid (w.heap.size < (w.alloc (.cells #[.int .i64 (f : Int), .int .i64 (m : Int)] 97)).heap.size) := by show _ < _; rw [hsz]; omega
 clear hsz
 generalize w.alloc (.cells #[.int .i64 (f : Int), .int .i64 (m : Int)] 97) = w0 at *
 have b0 : w0.cell? ⟨w.heap.size, 0, none⟩ = some (.int .i64 (f : Int)) := by rw [cell_of_row w0 _ _ _ 97 (0, 0) hbox]; rfl
 have b1 : w0.cell? ⟨w.heap.size, 1, none⟩ = some (.int .i64 (m : Int)) := by rw [cell_of_row w0 _ _ _ 97 (0, 0) hbox]; rfl
 have HB0 : Hid (RB w0 g x z l) := HB.out.on Hb0.out
 have HD0 : Hid (PDisk Fd w0 d S) := HD.out.keep (fun k hk => Hb0.out.block k (HF.out k hk))
 have HF0 : Hid (∀ k, Fd k → k < w0.heap.size) := fun k hk => Nat.lt_of_lt_of_le (HF.out k hk) Hb0.out.size
 clear hbox HB HD HF
 go_wp2_with fail
 go_loopw [8, 14] (fun s v wr => ∃ (j : Nat) (av : Option Addr) (cv : Nat), j ≤ m ∧ v = .int .i64 (j : Int) ∧ s = .slice av (32 * j) cv ∧ Hid (Own wr w0.heap.size av cv (blks S.l (2, x, z) f j)) ∧ Hid (Below w0.heap.size w0 wr) ∧ Hid (S.out = false ∨ j = 0)) (fun _ v _ => m - (intOf v).toNat)
 case atStart => exact ⟨0, none, 0, Nat.zero_le _, by go_num, rfl, Own.nil _ _, Below.refl _ _, .inr rfl⟩
 case round =>
  obtain ⟨j, av, cv, hj, rfl, rfl, HO, HBe, HSo⟩ := hrel
  by_cases hlt : j < m
  ·have hlt' : (j : Int) < (m : Int) := by omega
   have hcw : wr.cell? ⟨w.heap.size, 0, none⟩ = some (.int .i64 (f : Int)) := (HBe.out.cell (p := ⟨w.heap.size, 0, none⟩) Hsz.out).trans b0
   have HBw : Hid (RB wr g x z l) := HB0.out.keep (HBe.out.block g HB0.out.lt)
   have HDw : Hid (PDisk Fd wr d S) := HD0.out.keep (fun k hk => HBe.out.block k (HF0.out k hk))
   have HFw : Hid (∀ k, Fd k → k < wr.heap.size) := fun k hk => Nat.lt_of_lt_of_le (HF0.out k hk) HBe.out.size
   have Hbl : Hid ((blk S.l (2, x, z) (f + j)).length = 32 ∧ ∀ y ∈ blk S.l (2, x, z) (f + j), 0 ≤ y ∧ y ≤ 255) := Hbk.out (f + j)
   have Hnext : Hid (blks S.l (2, x, z) f (j + 1) = blks S.l (2, x, z) f j ++ blk S.l (2, x, z) (f + j)) := blks_snoc _ _ _ _
   have Hol : Hid ((blks S.l (2, x, z) f j).length = 32 * j) := by
    show _ = _
    clear HO HBe HSo hcw HBw HDw HFw Hbl Hnext hlt hlt' hj
    induction j with
    | zero => rfl
    | succ j ih => rw [blks_snoc, List.length_append, ih, (Hbk.out (f + j)).1]; omega
   obtain ⟨bx, hbx⟩ : ∃ bx, bx = w.heap.size := ⟨_, rfl⟩
   rw [← hbx] at hcw b0 b1 ⊢
   have Hbx : Hid (bx = w.heap.size) := hbx
   clear hbx b0 b1
   obtain ⟨I0, hI0⟩ : ∃ I0 : Int, I0 = (f : Int) + (j : Int) := ⟨_, rfl⟩
   have hI1 : 0 ≤ I0 ∧ I0 < 2000 := by omega
   have hwrap : IntKind.i64.wrap ((f : Int) + (j : Int)) = I0 := by rw [IntKind.wrap_i64]; omega
   have HI0 : Hid (I0 = ((f + j : Nat) : Int)) := by show _ = _; omega
   clear hI0
   cases hso : S.out with
   | true =>
     have Hrd : Hid (S.read (2, x, z) I0 = (8, [])) := by show _ = _; unfold St.read; rw [if_pos ⟨by omega, by omega⟩, hso, HI0.out]; rfl
     have HR : Hid (∀ w', Below w0.heap.size w0 w' → Post (.returned (.tuple #[.slice none 0 0, .int .i64 8])) w') := fun w' h => HPd.out hso (by omega) w' (Hb0.out.trans (h.mono Hb0.out.size))
     clear HPd HPo HSo
     go_wp2_with fail
     refine region_L (fun w' : World => w'.cell? ⟨bx, 0, none⟩ = some (.int .i64 (f : Int))) 12 (by kernel_rfl) ?_
     have HBa : Hid (RB wr.drew g x z l) := HBw.out.keep rfl
     have HDa : Hid (PDisk Fd wr.drew d S) := HDw.out.keep (fun _ _ => rfl)
     have HFa : Hid (∀ k, Fd k → k < wr.drew.heap.size) := HFw.out
     have Hba : Hid (Below w0.heap.size w0 wr.drew) := ⟨HBe.out.os, HBe.out.tape, HBe.out.output, HBe.out.size, HBe.out.block⟩
     have HOa : Hid (Own wr.drew w0.heap.size av cv (blks S.l (2, x, z) f j)) := HO.out
     have hca : wr.drew.cell? ⟨bx, 0, none⟩ = some (.int .i64 (f : Int)) := hcw
     clear HBw HDw HFw HBe HO hcw
     generalize wr.drew = va at *
     have hHeld : (fun w' : World => w'.cell? ⟨bx, 0, none⟩ = some (.int .i64 (f : Int))) _ := hca
     have hne : Nonempty (Sub (fun w' : World => w'.cell? ⟨bx, 0, none⟩ = some (.int .i64 (f : Int)))) := ⟨⟨_, hHeld⟩⟩
     have k0 : ∀ s : Sub (fun w' : World => w'.cell? ⟨bx, 0, none⟩ = some (.int .i64 (f : Int))), s.w.cell? ⟨bx, 0, none⟩ = some (.int .i64 (f : Int)) := fun s => s.ok
     refine take_L (i := 0) rfl (by kernel_rfl) (by kernel_rfl) (by kernel_rfl) (by kernel_rfl) (fun _ _ _ _ h => h) (by exact hHeld) (fun K hK => ?_)
     go_simp
     refine hK _ ?_
     clear hK K
     refine take_L (i := 1) rfl (by kernel_rfl) (by kernel_rfl) (by kernel_rfl) (by kernel_rfl) (fun _ _ _ _ h => h) (by exact hHeld) (fun K hK => ?_)
     go_simp
     refine hK _ ?_
     clear hK K
     refine take_L (i := 3) rfl (by kernel_rfl) (by kernel_rfl) (by kernel_rfl) (by kernel_rfl) (fun _ _ _ _ h => h) (by exact hHeld) (fun K hK => ?_)
     go_simp
     refine hK _ ?_
     clear hK K
     refine take_L (i := 4) rfl (by kernel_rfl) (by kernel_rfl) (by kernel_rfl) (by kernel_rfl) (fun _ _ _ _ h => h) (by exact hHeld) (fun K hK => ?_)
     go_simp
     refine hK _ ?_
     clear hK K
     refine take_L (i := 5) rfl (by kernel_rfl) (by kernel_rfl) (by kernel_rfl) (by kernel_rfl) (fun _ _ _ _ h => h) (by exact hHeld) (fun K hK => ?_)
     go_simp
     refine hK _ ?_
     clear hK K
     refine take_L (i := 6) rfl (by kernel_rfl) (by kernel_rfl) (by kernel_rfl) (by kernel_rfl) (fun _ _ _ _ h => h) (by exact hHeld) (fun K hK => ?_)
     go_simp
     refine hK _ ?_
     clear hK K
     refine one_L (i := 2) (by kernel_rfl) rfl (fun K hK => ?_)
     go_simp
     refine (file_c g x z l va HBa.out).mono ?_
     rintro _ vb ⟨rfl, hbv⟩
     have HDb : Hid (PDisk Fd vb d S) := HDa.out.keep (fun k hk => hbv.block k (HFa.out k hk))
     have Hbb : Hid (Below w0.heap.size w0 vb) := Hba.out.trans (hbv.mono Hba.out.size)
     have HOb : Hid (Own vb w0.heap.size av cv (blks S.l (2, x, z) f j)) := HOa.out.later hbv
     clear HDa HBa HOa
     replace hHeld : (fun w' : World => w'.cell? ⟨bx, 0, none⟩ = some (.int .i64 (f : Int))) _ := cell_below hHeld hbv
     refine hK.out _ _ (fun _ => hHeld) ?_
     clear hK K
     refine one_L (i := 7) (by kernel_rfl) rfl (fun K hK => ?_)
     go_simp
     refine (read_c Fd d S 2 x z I0 ⟨⟨show (-9223372036854775808 : Int) ≤ 2 by decide, show (2 : Int) ≤ 9223372036854775807 by decide⟩, Hx.out, Hz.out⟩ ⟨by omega, by omega⟩ vb HDb.out).mono ?_
     rintro _ vc ⟨hbc, hRc⟩
     have Hbc : Hid (Below w0.heap.size w0 vc) := Hbb.out.trans (hbc.mono Hbb.out.size)
     have HOc : Hid (Own vc w0.heap.size av cv (blks S.l (2, x, z) f j)) := HOb.out.later hbc
     rw [Hrd.out] at hRc
     rcases hRc with ⟨_, rfl⟩ | ⟨p, hp, rfl, hB, hl, hft⟩
     all_goals first | (exfalso; simp at hl; done) | skip
     replace hHeld : (fun w' : World => w'.cell? ⟨bx, 0, none⟩ = some (.int .i64 (f : Int))) _ := cell_below hHeld hbc
     refine hK.out _ _ (fun _ => hHeld) ?_
     clear hK K
     refine take_L (i := 8) rfl (by kernel_rfl) (by kernel_rfl) (by kernel_rfl) (by kernel_rfl) (fun _ _ _ _ h => h) (by exact hHeld) (fun K hK => ?_)
     go_simp
     refine hK _ ?_
     clear hK K
     refine take_L (i := 9) rfl (by kernel_rfl) (by kernel_rfl) (by kernel_rfl) (by kernel_rfl) (fun _ _ _ _ h => h) (by exact hHeld) (fun K hK => ?_)
     go_simp
     refine hK _ ?_
     clear hK K
     refine take_L (i := 10) rfl (by kernel_rfl) (by kernel_rfl) (by kernel_rfl) (by kernel_rfl) (fun _ _ _ _ h => h) (by exact hHeld) (fun K hK => ?_)
     go_simp
     refine hK _ ?_
     clear hK K
     refine take_L (i := 11) rfl (by kernel_rfl) (by kernel_rfl) (by kernel_rfl) (by kernel_rfl) (fun _ _ _ _ h => h) (by exact hHeld) (fun K hK => ?_)
     go_simp
     refine hK _ ?_
     clear hK K
     refine one_L (i := 12) (by kernel_rfl) rfl (fun K hK => ?_)
     go_simp
     refine hK.out _ _ (fun h => absurd rfl h) ?_
     clear hK K
     refine done_L (by kernel_rfl) ?_ _
     go_simp
     have R := HR.out _ Hbc.out
     clear HR
     go_wp2
     exact R
   | false =>
     have Hrd : Hid (S.read (2, x, z) I0 = (0, blk S.l (2, x, z) (f + j))) := by show _ = _; unfold St.read; rw [if_pos ⟨by omega, by omega⟩, hso, HI0.out]; rfl
     clear HPd HPo HSo
     go_wp2_with fail
     refine region_L (fun w' : World => w'.cell? ⟨bx, 0, none⟩ = some (.int .i64 (f : Int))) 12 (by kernel_rfl) ?_
     have HBa : Hid (RB wr.drew g x z l) := HBw.out.keep rfl
     have HDa : Hid (PDisk Fd wr.drew d S) := HDw.out.keep (fun _ _ => rfl)
     have HFa : Hid (∀ k, Fd k → k < wr.drew.heap.size) := HFw.out
     have Hba : Hid (Below w0.heap.size w0 wr.drew) := ⟨HBe.out.os, HBe.out.tape, HBe.out.output, HBe.out.size, HBe.out.block⟩
     have HOa : Hid (Own wr.drew w0.heap.size av cv (blks S.l (2, x, z) f j)) := HO.out
     have hca : wr.drew.cell? ⟨bx, 0, none⟩ = some (.int .i64 (f : Int)) := hcw
     clear HBw HDw HFw HBe HO hcw
     generalize wr.drew = va at *
     have hHeld : (fun w' : World => w'.cell? ⟨bx, 0, none⟩ = some (.int .i64 (f : Int))) _ := hca
     have hne : Nonempty (Sub (fun w' : World => w'.cell? ⟨bx, 0, none⟩ = some (.int .i64 (f : Int)))) := ⟨⟨_, hHeld⟩⟩
     have k0 : ∀ s : Sub (fun w' : World => w'.cell? ⟨bx, 0, none⟩ = some (.int .i64 (f : Int))), s.w.cell? ⟨bx, 0, none⟩ = some (.int .i64 (f : Int)) := fun s => s.ok
     refine take_L (i := 0) rfl (by kernel_rfl) (by kernel_rfl) (by kernel_rfl) (by kernel_rfl) (fun _ _ _ _ h => h) (by exact hHeld) (fun K hK => ?_)
     go_simp
     refine hK _ ?_
     clear hK K
     refine take_L (i := 1) rfl (by kernel_rfl) (by kernel_rfl) (by kernel_rfl) (by kernel_rfl) (fun _ _ _ _ h => h) (by exact hHeld) (fun K hK => ?_)
     go_simp
     refine hK _ ?_
     clear hK K
     refine take_L (i := 3) rfl (by kernel_rfl) (by kernel_rfl) (by kernel_rfl) (by kernel_rfl) (fun _ _ _ _ h => h) (by exact hHeld) (fun K hK => ?_)
     go_simp
     refine hK _ ?_
     clear hK K
     refine take_L (i := 4) rfl (by kernel_rfl) (by kernel_rfl) (by kernel_rfl) (by kernel_rfl) (fun _ _ _ _ h => h) (by exact hHeld) (fun K hK => ?_)
     go_simp
     refine hK _ ?_
     clear hK K
     refine take_L (i := 5) rfl (by kernel_rfl) (by kernel_rfl) (by kernel_rfl) (by kernel_rfl) (fun _ _ _ _ h => h) (by exact hHeld) (fun K hK => ?_)
     go_simp
     refine hK _ ?_
     clear hK K
     refine take_L (i := 6) rfl (by kernel_rfl) (by kernel_rfl) (by kernel_rfl) (by kernel_rfl) (fun _ _ _ _ h => h) (by exact hHeld) (fun K hK => ?_)
     go_simp
     refine hK _ ?_
     clear hK K
     refine one_L (i := 2) (by kernel_rfl) rfl (fun K hK => ?_)
     go_simp
     refine (file_c g x z l va HBa.out).mono ?_
     rintro _ vb ⟨rfl, hbv⟩
     have HDb : Hid (PDisk Fd vb d S) := HDa.out.keep (fun k hk => hbv.block k (HFa.out k hk))
     have Hbb : Hid (Below w0.heap.size w0 vb) := Hba.out.trans (hbv.mono Hba.out.size)
     have HOb : Hid (Own vb w0.heap.size av cv (blks S.l (2, x, z) f j)) := HOa.out.later hbv
     clear HDa HBa HOa
     replace hHeld : (fun w' : World => w'.cell? ⟨bx, 0, none⟩ = some (.int .i64 (f : Int))) _ := cell_below hHeld hbv
     refine hK.out _ _ (fun _ => hHeld) ?_
     clear hK K
     refine one_L (i := 7) (by kernel_rfl) rfl (fun K hK => ?_)
     go_simp
     refine (read_c Fd d S 2 x z I0 ⟨⟨show (-9223372036854775808 : Int) ≤ 2 by decide, show (2 : Int) ≤ 9223372036854775807 by decide⟩, Hx.out, Hz.out⟩ ⟨by omega, by omega⟩ vb HDb.out).mono ?_
     rintro _ vc ⟨hbc, hRc⟩
     have Hbc : Hid (Below w0.heap.size w0 vc) := Hbb.out.trans (hbc.mono Hbb.out.size)
     have HOc : Hid (Own vc w0.heap.size av cv (blks S.l (2, x, z) f j)) := HOb.out.later hbc
     rw [Hrd.out] at hRc
     rcases hRc with ⟨hr2, rfl⟩ | ⟨p, hp, rfl, hB, hl, hft⟩
     ·exact absurd Hbl.out.1 (fun e => by rw [show blk S.l (2, x, z) (f + j) = [] from hr2] at e; simp at e)
     replace hHeld : (fun w' : World => w'.cell? ⟨bx, 0, none⟩ = some (.int .i64 (f : Int))) _ := cell_below hHeld hbc
     refine hK.out _ _ (fun _ => hHeld) ?_
     clear hK K
     refine take_L (i := 8) rfl (by kernel_rfl) (by kernel_rfl) (by kernel_rfl) (by kernel_rfl) (fun _ _ _ _ h => h) (by exact hHeld) (fun K hK => ?_)
     go_simp
     refine hK _ ?_
     clear hK K
     refine take_L (i := 9) rfl (by kernel_rfl) (by kernel_rfl) (by kernel_rfl) (by kernel_rfl) (fun _ _ _ _ h => h) (by exact hHeld) (fun K hK => ?_)
     go_simp
     refine hK _ ?_
     clear hK K
     refine take_L (i := 10) rfl (by kernel_rfl) (by kernel_rfl) (by kernel_rfl) (by kernel_rfl) (fun _ _ _ _ h => h) (by exact hHeld) (fun K hK => ?_)
     go_simp
     refine hK _ ?_
     clear hK K
     refine take_L (i := 11) rfl (by kernel_rfl) (by kernel_rfl) (by kernel_rfl) (by kernel_rfl) (fun _ _ _ _ h => h) (by exact hHeld) (fun K hK => ?_)
     go_simp
     refine hK _ ?_
     clear hK K
     refine one_L (i := 12) (by kernel_rfl) rfl (fun K hK => ?_)
     go_simp
     refine hK.out _ _ (fun h => absurd rfl h) ?_
     clear hK K
     refine done_L (by kernel_rfl) ?_ _
     go_simp
     have HBy : Hid (Bytes vc (some ⟨p, 0, none⟩) 32 (blk S.l (2, x, z) (f + j))) := blk_bytes hB Hbl.out.2 hl
     have Hbd : 32 * j + 32 ≤ 140737488355328 := by omega
     clear hB hl hft Hbl
     go_wp2_with (at_builtin; refine wpList_append_bytes rfl _ _ rfl w0.heap.size av (32 * j) cv (blks S.l (2, x, z) f j) Hol.out rfl HOc.out (some ⟨p, 0, none⟩) 32 32 _ rfl HBy.out (fun h => by cases h) Hbd w0 Hbc.out Hbc.out.size ?_; intro a' c' w' HO' Hb' _)
     go_roundw
     case rel => exact ⟨j + 1, a', c', by omega, by go_num, by rw [Nat.mul_add], by rw [Hnext.out]; exact HO'.out, Hb', .inl (by first | exact hso | trivial)⟩
     case measure => simp [intOf]; omega
  ·obtain rfl : j = m := by omega
   have hge : ¬ (j : Int) < (j : Int) := by omega
   have R := HPo.out HSo.out wr av cv (Hb0.out.trans (HBe.out.mono Hb0.out.size)) (HO.out.base Hb0.out.size)
   clear HPd HPo HSo HO HBe
   go_wp2
   exact R
end Go.Proofs.YtlllmmceoeihkaaGreat
set_option maxRecDepth 20000
namespace Go.Proofs.YtlllmmceoeihkaaGreat
open Go.RowKit
theorem cut_to (a : Option Addr) (N c n : Nat) (hn : n ≤ c) (ha : a = none → c = 0) (hz : ∀ ad, a = some ad → ∃ p, ad = ⟨p, 0, none⟩) (w : World) : (Instr.sliceAt 61 (.slice a N c) none (some (.int .i64 (n : Int))) none).run Tryz.prog w = .ok (.slice a n c) w := by
 rw [run_sliceAt_slice w 61 _ _ _ _ (by kernel_rfl), run_slice_h w 61 a N c (by kernel_rfl) .i64 n (by omega) (by omega), show Tryz.prog.elem 61 = 5 by kernel_rfl, size5N, Result.andThen_ok, Int.toNat_natCast]
 unfold sliced
 by_cases hc : c = 0
 ·rw [if_pos hc]; simp
 ·rw [if_neg hc]
  cases a with
  | none => exact absurd (ha rfl) hc
  | some ad =>
    obtain ⟨p, rfl⟩ := hz ad rfl
    show Result.ok (Value.slice (some ((⟨p, 0, none⟩ : Addr).add (0 * 1))) _ _) w = _
    rw [Addr.add_mid]
    simp
theorem bytes_head {w : World} {a : Option Addr} {n m : Nat} {xs : List Int} (h : Bytes w a n xs) (hm : m ≤ n) : Bytes w a m (xs.take m) := by
 have hn := h.n
 refine ⟨by rw [List.length_take]; omega, ?_, fun z hz => h.fit z (List.mem_of_mem_take hz)⟩
 rcases h.cells with e | ⟨b, off, e, hc⟩
 ·exact .inl (by rw [e]; simp)
 ·refine .inr ⟨b, off, e, fun k hk => ?_⟩
  rw [List.length_take] at hk
  rw [List.getElem_take]
  exact hc k (by omega)
def opS (L : List Bk) (x z : Int) (h : En) : Sp × List Int := (h.1, (blks L (2, x, z) h.1.1 h.1.2).take h.2)
structure Oi (w : World) (g : Nat) (x z : Int) (L : List Bk) (hs : List En) (lb k : Nat) (wr : World) : Prop where
 it : ∃ sl : List Sm, RB wr g x z (sl ++ (hs.map mkS).drop k) ∧ sl.map (fun s => (s.sp, s.b)) = (hs.take k).map (opS L x z) ∧ ∀ s ∈ sl, Dt wr s ∧ ∀ ad, s.a = some ad → w.heap.size ≤ ad.block
 ln : LRow wr lb (hs.map (·.2))
 bel : Below w.heap.size w wr
def OpenSay (S : St) (x z : Int) (w : World) (e : Ending) (w' : World) : Prop := Below w.heap.size w w' ∧
 ((S.out = true ∧ e = .returned (.tuple #[.pointer none, .int .i64 8])) ∨ (S.out = false ∧ ¬ HdOk (headS S.l x z) ∧ e = .returned (.tuple #[.pointer none, .int .i64 4])) ∨
  (S.out = false ∧ HdOk (headS S.l x z) ∧ ∃ g F, e = .returned (.tuple #[.pointer (some ⟨g, 0, none⟩), .int .i64 0]) ∧ RGs F w' g (rhoS S.l x z) ∧ ∀ k, F k → w.heap.size ≤ k))
set_option maxHeartbeats 1000000 in
theorem open_c (Fd : Nat → Prop) (d : Nat) (S : St) (x z : Int) (w : World) (hx : I64 x) (hz : I64 z) (hD : PDisk Fd w d S) (hF : ∀ k, Fd k → k < w.heap.size) :
  Calls Tryz.prog 61 #[.pointer (some ⟨d, 0, none⟩), .int .i64 x, .int .i64 z] w (OpenSay S x z w) := by
 obtain ⟨Post, hPost⟩ : ∃ Post : Ending → World → Prop, Post = OpenSay S x z w := ⟨_, rfl⟩
 rw [← hPost]
 have HP8 : Hid (∀ w', S.out = true → Below w.heap.size w w' → Post (.returned (.tuple #[.pointer none, .int .i64 8])) w') := fun w' h1 h2 => by rw [hPost]; exact ⟨h2, .inl ⟨h1, rfl⟩⟩
 have HP4 : Hid (∀ w', S.out = false → ¬ HdOk (headS S.l x z) → Below w.heap.size w w' → Post (.returned (.tuple #[.pointer none, .int .i64 4])) w') := fun w' h1 h2 h3 => by rw [hPost]; exact ⟨h3, .inr (.inl ⟨h1, h2, rfl⟩)⟩
 have HP0 : Hid (∀ w' g F, S.out = false → HdOk (headS S.l x z) → RGs F w' g (rhoS S.l x z) → (∀ k, F k → w.heap.size ≤ k) → Below w.heap.size w w' → Post (.returned (.tuple #[.pointer (some ⟨g, 0, none⟩), .int .i64 0])) w') := fun w' g F h1 h2 h3 h4 h5 => by rw [hPost]; exact ⟨h5, .inr (.inr ⟨h1, h2, g, F, rfl, h3, h4⟩)⟩
 clear hPost
 obtain ⟨mb, ml, hD0⟩ := hD
 have Hgd : Hid (Good S.l ∧ ∀ b ∈ S.l, ∀ y ∈ b.b, 0 ≤ y ∧ y ≤ 255) := ⟨hD0.ok, hD0.fit⟩
 have HD : Hid (PDisk Fd w d S) := ⟨mb, ml, hD0⟩
 have HF : Hid (∀ k, Fd k → k < w.heap.size) := hF
 have Hx : Hid (I64 x) := hx
 have Hz : Hid (I64 z) := hz
 clear hD0 hF hx hz
 go_enter Tryz.func61, Tryz.ntmps61
 go_wp2_with fail
 generalize hw1 : w.alloc _ = w1
 have hal : w1.heap[w.heap.size]? = some (.cells (rgv x z (List.replicate 16 zS)).toArray 134 (0, 0)) := by rw [← hw1]; exact heap_alloc_new w _
 have hb1 : Below w.heap.size w w1 := by rw [← hw1]; exact (Below.refl _ _).alloc (Nat.le_refl _) _
 have HB1 : Hid (RB w1 w.heap.size x z (List.replicate 16 zS)) := ⟨hal, by simp⟩
 have Hb1 : Hid (Below w.heap.size w w1) := hb1
 have HD1 : Hid (PDisk Fd w1 d S) := HD.out.keep (fun k hk => hb1.block k (HF.out k hk))
 have HF1 : Hid (∀ k, Fd k → k < w1.heap.size) := fun k hk => Nat.lt_of_lt_of_le (HF.out k hk) hb1.size
 clear hw1 hal hb1
 refine (rread_c Fd d w.heap.size S x z (List.replicate 16 zS) 0 2 w1 HB1.out HD1.out HF1.out Hx.out Hz.out (by omega) (by omega)).mono ?_
 rintro _ w2 ⟨hb2, ⟨ho, _, rfl⟩ | ⟨ho, a, c, rfl, hO⟩⟩
 ·have R := HP8.out w2 ho (Hb1.out.trans (hb2.mono Hb1.out.size))
  clear HP8 HP4 HP0 hb2
  go_wp2
  exact R
 ·have hso : S.out = false := ho.elim id (fun h => by omega)
  have hbok := blks_ok Hgd.out.1 Hgd.out.2 (2, x, z) 2 0
  have hlen : (blks S.l (2, x, z) 0 2).length = 64 := by rw [hbok.1]
  have hby : Bytes w2 a 64 (blks S.l (2, x, z) 0 2) := hO.bytes hbok.2 64 hlen
  have hcap : 64 ≤ c := by
   rcases hO.parts with ⟨_, _, e⟩ | ⟨_, _, _, _, _, _, h⟩
   ·rw [e] at hlen; simp at hlen
   ·omega
  have HB2 : Hid (RB w2 w.heap.size x z (List.replicate 16 zS)) := HB1.out.on hb2
  have Hb2 : Hid (Below w.heap.size w w2) := Hb1.out.trans (hb2.mono Hb1.out.size)
  have HY2 : Hid (Bytes w2 a 64 (blks S.l (2, x, z) 0 2)) := hby
  have Hcap : Hid (64 ≤ c) := hcap
  have Hso : Hid (S.out = false) := hso
  clear hby hcap hO hlen hbok hb2 ho HP8 HB1 Hb1 hso HD1 HF1
  go_wp2_with fail
  refine (place_c w.heap.size x z a c (blks S.l (2, x, z) 0 2) w2 HB2.out HY2.out Hcap.out).mono ?_
  rintro _ w3 ⟨hC3, ⟨hbad, rfl⟩ | ⟨hok, rfl, hB3⟩⟩
  ·have hb3 : Below w.heap.size w w3 := Hb2.out.trans (hC3.below (fun k hk => by rw [hk]; exact Nat.le_refl _) Hb2.out.size)
   have hb4 : Below w.heap.size w (w3.alloc (.cells (lvals (List.replicate 16 0)).toArray 162)) := hb3.alloc hb3.size _
   have R := HP4.out _ Hso.out hbad hb4
   have e16 : (lvals (List.replicate 16 0)).toArray = #[.int .i64 0, .int .i64 0, .int .i64 0, .int .i64 0, .int .i64 0, .int .i64 0, .int .i64 0, .int .i64 0, .int .i64 0, .int .i64 0, .int .i64 0, .int .i64 0, .int .i64 0, .int .i64 0, .int .i64 0, .int .i64 0] := by rfl
   rw [e16] at R ⊢
   clear HP4 HP0 hb3 hb4 hC3 e16 HB2 HY2
   go_wp2
   exact R
  ·have hb3 : Below w.heap.size w w3 := Hb2.out.trans (hC3.below (fun k hk => by rw [hk]; exact Nat.le_refl _) Hb2.out.size)
   obtain ⟨hs, hhs⟩ : ∃ hs, hs = headS S.l x z := ⟨_, rfl⟩
   have ehs : entS (blks S.l (2, x, z) 0 2) = hs := hhs.symm
   rw [ehs] at hok hB3 ⊢
   have Hhl : Hid (hs.length = 16) := by show _ = _; rw [← ehs]; exact entN_len _
   have Hok : Hid (HdOk hs) := hok
   have Hhs : Hid (hs = headS S.l x z) := hhs
   obtain ⟨Y, hY⟩ : ∃ Y, Y = (lvals (hs.map (·.2))).toArray := ⟨_, rfl⟩
   have HYe : Hid (Y = (lvals (hs.map (·.2))).toArray) := hY
   rw [← hY]
   have Hys : Hid (Y.size = 16) := by show _ = _; rw [hY]; simp [lvals]; exact Hhl.out
   have Hyo : Hid (Y.all (·.oneCell') = true) := by show _ = _; rw [hY]; simp [lvals, Value.oneCell']
   have HB3 : Hid (RB w3 w.heap.size x z (hs.map mkS)) := hB3
   have Hb3 : Hid (Below w.heap.size w w3) := hb3
   clear hhs ehs hok hB3 hb3 hC3 hY HP4 HB2 HY2 Hb2
   go_wp2_with (refine wpList_store_row rfl 162 (.tmp 11) (.tmp 33) rfl w3.heap.size Y rfl rfl 162 _ (heap_alloc_new w3 _) (by rw [Hys.out]; exact size162) (by rw [Hys.out]; rfl) Hyo.out ?_)
   generalize hw4 : (w3.alloc _).setRow w3.heap.size Y = w4
   have hln : LRow w4 w3.heap.size (hs.map (·.2)) := by show _ = _; rw [← HYe.out, ← hw4]; exact setRow_heap _ w3.heap.size _ Y 162 (0, 0) (heap_alloc_new w3 _)
   have hb4 : Below w3.heap.size w3 w4 := by rw [← hw4]; exact below_setRow ((Below.refl _ _).alloc (Nat.le_refl _) _) (Nat.le_refl _)
   have HO0 : Hid (Oi w w.heap.size x z S.l hs w3.heap.size 0 w4) := ⟨⟨[], HB3.out.on hb4, rfl, fun s hs => by simp at hs⟩, hln, Hb3.out.trans (hb4.mono Hb3.out.size)⟩
   obtain ⟨lb, hlb⟩ : ∃ lb, lb = w3.heap.size := ⟨_, rfl⟩
   rw [← hlb] at HO0 ⊢
   have Hlb : Hid (w.heap.size < lb) := by show _ < _; rw [hlb]; exact HB3.out.lt
   clear hw4 hln hb4 HB3 Hb3 Hys Hyo HYe hlb
   go_loopw [38] (fun v wr => ∃ (k : Nat), k ≤ 16 ∧ v = .int .i64 (k : Int) ∧ Hid (Oi w w.heap.size x z S.l hs lb k wr)) (fun v _ => 16 - (intOf v).toNat)
   case atStart => exact ⟨0, Nat.zero_le _, by go_num, HO0⟩
   case round =>
    clear HO0
    obtain ⟨k, hk, rfl, HI⟩ := hrel
    obtain ⟨sl, hR, hmap, hDt⟩ := HI.out.it
    have hsll : sl.length = k := by
     have := congrArg List.length hmap
     rw [List.length_map, List.length_map, List.length_take, Hhl.out] at this
     omega
    by_cases hlt : k < 16
    ·have hlt' : (k : Int) < 16 := by omega
     have hkl : k < hs.length := by rw [Hhl.out]; exact hlt
     have hkr : k < (sl ++ (hs.map mkS).drop k).length := by rw [hR.n]; exact hlt
     have hgk : (sl ++ (hs.map mkS).drop k)[k] = mkS hs[k] := by
      rw [List.getElem_append_right (by omega), List.getElem_drop, List.getElem_map]
      congr 2
      omega
     obtain ⟨⟨⟨f, m⟩, n⟩, he⟩ : ∃ h, hs[k] = h := ⟨_, rfl⟩
     have q0 := (hR.cells k hkr).1
     have q1 := (hR.cells k hkr).2.1
     have q2 := (hR.cells k hkr).2.2
     rw [hgk, he] at q0 q1 q2
     simp only [mkS, List.length_nil] at q0 q1 q2
     have hent := Hok.out.ok hs[k] (List.getElem_mem hkl)
     rw [he] at hent
     have hnm : n ≤ 32 * m ∧ f < 1000 ∧ m < 1000 := by
      rcases hent with h | ⟨h1, h2, h3, h4⟩
      ·simp only [Prod.mk.injEq] at h
       omega
      ·simp only at h1 h2 h3 h4
       unfold needS at h2
       omega
     obtain ⟨hnm1, hf1, hm1⟩ := hnm
     have HR : Hid (RB wr w.heap.size x z (sl ++ (hs.map mkS).drop k)) := hR
     have HD : Hid (PDisk Fd wr d S) := HD.out.keep (fun k hk => HI.out.bel.block k (HF.out k hk))
     have HFw : Hid (∀ k, Fd k → k < wr.heap.size) := fun k hk => Nat.lt_of_lt_of_le (HF.out k hk) HI.out.bel.size
     have Hmap : Hid (sl.map (fun s => (s.sp, s.b)) = (hs.take k).map (opS S.l x z)) := hmap
     have HDt : Hid (∀ s ∈ sl, Dt wr s ∧ ∀ ad, s.a = some ad → w.heap.size ≤ ad.block) := hDt
     have He : Hid (hs[k] = ((f, m), n)) := he
     have Hbe : Hid (Below w.heap.size w wr) := HI.out.bel
     have Hln : Hid (LRow wr lb (hs.map (·.2))) := HI.out.ln
     have Hgk : Hid ((sl ++ (hs.map mkS).drop k)[k] = ⟨f, m, none, 0, []⟩) := by show _ = _; rw [hgk, he]; rfl
     clear hR hmap hDt he hgk hent HI HP0
     go_wp2_with fail
     refine (rread_c Fd d w.heap.size S x z _ f m wr HR.out HD.out HFw.out Hx.out Hz.out hf1 hm1).mono ?_
     rintro _ w5 ⟨hb5, ⟨ho, _, _⟩ | ⟨_, a5, c5, rfl, hO5⟩⟩
     ·rw [Hso.out] at ho; cases ho
     have hbok := blks_ok Hgd.out.1 Hgd.out.2 (2, x, z) m f
     have hby5 : Bytes w5 a5 (32 * m) (blks S.l (2, x, z) f m) := hO5.bytes hbok.2 _ hbok.1
     have hc5 : 32 * m ≤ c5 ∧ (a5 = none → c5 = 0) ∧ ∀ ad, a5 = some ad → ∃ p, ad = ⟨p, 0, none⟩ ∧ wr.heap.size ≤ p := by
      rcases hO5.parts with ⟨e1, e2, e3⟩ | ⟨p, e1, e2, _, _, _, h⟩
      ·have : 32 * m = 0 := by rw [← hbok.1, e3]; rfl
       exact ⟨by omega, (fun _ => e2), (fun ad had => by rw [e1] at had; cases had)⟩
      ·exact ⟨by rw [← hbok.1]; exact h, (fun h0 => by rw [e1] at h0; cases h0), (fun ad had => by rw [e1] at had; cases had; exact ⟨p, rfl, e2⟩)⟩
     obtain ⟨hc5a, hc5b, hc5c⟩ := hc5
     have hcut := cut_to a5 (32 * m) c5 n (by omega) hc5b (fun ad had => (hc5c ad had).imp (fun p hp => hp.1))
     have HR5 : Hid (RB w5 w.heap.size x z (sl ++ (hs.map mkS).drop k)) := HR.out.on hb5
     have hq5 : w5.cell? ⟨lb, k, none⟩ = some (.int .i64 (n : Int)) := by
      have := (Hln.out.on hb5).at (i := k) (by rw [List.length_map]; exact hkl)
      rw [this, List.getElem_map, He.out]
     have q61 := cell_below q2 hb5
     have f61 := HR5.out.free (2 + k * 3 + 2)
     have HO5 : Hid (Oi w w.heap.size x z S.l hs lb (k + 1) ((w5.drewN 1).setCell ⟨w.heap.size, 2 + k * 3 + 2, none⟩ (.slice a5 n c5))) := by
      have hO : Only w.heap.size w5 (w5.setCell ⟨w.heap.size, 2 + k * 3 + 2, none⟩ (.slice a5 n c5)) := (Only.refl _ _).set _ _
      have hdl : ((blks S.l (2, x, z) f m).take n).length = n := by rw [List.length_take, hbok.1]; omega
      have hset := HR5.out.setDat k a5 c5 ((blks S.l (2, x, z) f m).take n) hkr
      rw [hdl] at hset
      rw [Hgk.out] at hset
      have e : (sl ++ (hs.map mkS).drop k).set k ⟨f, m, a5, c5, (blks S.l (2, x, z) f m).take n⟩ = (sl ++ [⟨f, m, a5, c5, (blks S.l (2, x, z) f m).take n⟩]) ++ (hs.map mkS).drop (k + 1) := by
       rw [List.set_append_right _ _ (by omega), hsll, Nat.sub_self, List.drop_eq_getElem_cons (show k < (hs.map mkS).length by rw [List.length_map]; exact hkl), List.set_cons_zero, List.append_assoc]
       rfl
      simp only at hset
      rw [e] at hset
      have hbel : Below w.heap.size w (w5.setCell ⟨w.heap.size, 2 + k * 3 + 2, none⟩ (.slice a5 n c5)) := (Hbe.out.trans (hb5.mono Hbe.out.size)).setCell (p := ⟨w.heap.size, 2 + k * 3 + 2, none⟩) (Nat.le_refl _) _
      refine ⟨⟨_, hset.keep rfl, ?_, fun s hs' => ?_⟩, ?_, ⟨hbel.os, hbel.tape, hbel.output, hbel.size, hbel.block⟩⟩
      ·rw [List.map_append, Hmap.out, List.take_succ_eq_append_getElem hkl, List.map_append, He.out]
       rfl
      ·have hD5 : ∀ s, Dt w5 s → Dt ((w5.drewN 1).setCell ⟨w.heap.size, 2 + k * 3 + 2, none⟩ (.slice a5 n c5)) s := fun s hd => by
        have := bytes_away HR5.out hd.by_ _ hO
        exact ⟨⟨this.n, this.cells, this.fit⟩, hd.nil, hd.cap⟩
       rcases List.mem_append.1 hs' with h | h
       ·exact ⟨hD5 s ((HDt.out s h).1.on hb5), (HDt.out s h).2⟩
       ·rw [List.mem_singleton.1 h]
        refine ⟨hD5 _ ⟨?_, hc5b, ?_⟩, fun ad had => ?_⟩
        ·simp only
         rw [hdl]
         exact bytes_head hby5 hnm1
        ·simp only
         rw [hdl]
         omega
        ·obtain ⟨p, rfl, hp⟩ := hc5c ad had
         have := Hbe.out.size
         simp only
         omega
      ·exact (hO.block lb (by have := Hlb.out; omega)).trans (Hln.out.on hb5)
     have hq6 : (w5.drewN 1).cell? ⟨lb, k, none⟩ = some (.int .i64 (n : Int)) := hq5
     have q25 : (w5.drewN 1).cell? ⟨w.heap.size, 2 + k * 3 + 2, none⟩ = some (.slice none 0 0) := q61
     have f25 : (w5.drewN 1).frozen? ⟨w.heap.size, 2 + k * 3 + 2, none⟩ = false := f61
     clear hO5 hby5 hb5 hbok hc5c HR5 HR HD HFw Hmap HDt He Hbe Hln Hgk hq5 q61 f61 q0 q1 q2
     go_wp2_with fail
     refine wp_region_tail 11 (by kernel_rfl) (by kernel_rfl) ?_
     simp only [List.take_succ_cons, List.take_zero, List.drop_succ_cons, List.drop_zero]
     repeat still_step
     refine wpStill_nil ?_
     generalize w5.drewN 1 = w6 at *
     go_wp2
     go_roundw
     case rel => exact ⟨k + 1, by omega, by go_num, HO5⟩
     case measure => simp [intOf]; omega
    ·obtain rfl : k = 16 := by omega
     have hge : ¬ ((16 : Nat) : Int) < 16 := by omega
     have e1 : (hs.map mkS).drop 16 = [] := List.drop_of_length_le (by rw [List.length_map, Hhl.out]; exact Nat.le_refl _)
     have e2 : hs.take 16 = hs := List.take_of_length_le (by rw [Hhl.out]; exact Nat.le_refl _)
     rw [e1, List.append_nil] at hR
     rw [e2] at hmap
     have hsp : sl.map Sm.sp = (rhoS S.l x z).sp := by
      have := congrArg (List.map Prod.fst) hmap
      rw [List.map_map, List.map_map] at this
      show sl.map Sm.sp = (headS S.l x z).map (·.1)
      rw [← Hhs.out]
      exact this
     have hdt : sl.map Sm.b = (rhoS S.l x z).dat := by
      have := congrArg (List.map Prod.snd) hmap
      rw [List.map_map, List.map_map] at this
      show sl.map Sm.b = (headS S.l x z).map (fun h => (blks S.l (2, x, z) h.1.1 h.1.2).take h.2)
      rw [← Hhs.out]
      exact this
     have hok : HdOk (headS S.l x z) := by rw [← Hhs.out]; exact Hok.out
     have R := HP0.out wr w.heap.size (fun k => w.heap.size ≤ k ∧ k < wr.heap.size) Hso.out hok
      ⟨⟨sl, hR, fun s hs' => ⟨(hDt s hs').1, fun hne => by
        rcases (hDt s hs').1.by_.cells with e | ⟨b, off, e, hc⟩
        ·exact absurd e hne
        ·exact ⟨b, off, e, (hDt s hs').2 ⟨b, off, none⟩ e, World.block_lt_of_cell? wr _ (hc 0 (List.length_pos_iff.2 hne))⟩⟩, hsp, hdt⟩, rho_good Hgd.out.1 Hgd.out.2 hok, Hx.out, Hz.out, ⟨Nat.le_refl _, hR.lt⟩, fun k hk => hk.2⟩ (fun k hk => hk.1) HI.out.bel
     clear HP0 hR hmap hDt HI hsp hdt hok
     go_wp2
     exact R
end Go.Proofs.YtlllmmceoeihkaaGreat
set_option maxRecDepth 20000
namespace Go.Proofs.YtlllmmceoeihkaaGreat
open Go.RowKit
theorem own_base {B B' t k : Nat} {w : World} {v : Value} {n : Nat} {cs : List Value} (h : w.ownsRow B t k v n cs) (hB : B' ≤ B) : w.ownsRow B' t k v n cs := by
 refine ⟨h.1, ?_⟩
 rcases h.2 with h1 | ⟨g, c', cur, hv, hb, r⟩
 ·exact .inl h1
 ·exact .inr ⟨g, c', cur, hv, Nat.le_trans hB hb, r⟩
theorem rows_base {B B' : Nat} {w : World} {l : List Pb} (h : PbRows B w l) (hB : B' ≤ B) : PbRows B' w l := fun p hp => by
 obtain ⟨q, h1, h2⟩ := h p hp
 exact ⟨q, Nat.le_trans hB h1, h2⟩
def Plan2Say (ρ : Rho) (L : List Cs) (w : World) (e : Ending) (w' : World) : Prop := Below w.heap.size w w' ∧
 (((planS ρ.dat L).1 ≠ 0 ∧ ∃ pa pc, e = .returned (.tuple #[.slice pa 0 pc, .pointer none, .int .i64 (planS ρ.dat L).1])) ∨
  ((planS ρ.dat L).1 = 0 ∧ ∃ pa pc g' sp' ps, e = .returned (.tuple #[.slice pa ps.length pc, .pointer (some ⟨g', 0, none⟩), .int .i64 0]) ∧
   GoodR sp' (planS ρ.dat L).2 ∧ OwnPb w' w.heap.size pa pc ρ.file ps ∧ PbRows w.heap.size w' ps ∧ PsOk ps ∧
   ∀ L', Good L' → OnD L' ρ → OnD (putAll ρ.file L' ps) ⟨ρ.x, ρ.z, sp', (planS ρ.dat L).2⟩))
set_option maxHeartbeats 1000000 in
theorem plan2_c (F : Nat → Prop) (g : Nat) (ρ : Rho) (a : Option Addr) (n c : Nat) (l : List Cg) (w : World) (H : RGs F w g ρ) (hC : CgsAt w a l) (hn : l.length = n) (hM : n ≤ maxLen) :
  Calls Tryz.prog 74 #[.pointer (some ⟨g, 0, none⟩), .slice a n c] w (Plan2Say ρ (l.map Cg.cs) w) := by
 obtain ⟨Post, hPost⟩ : ∃ Post : Ending → World → Prop, Post = Plan2Say ρ (l.map Cg.cs) w := ⟨_, rfl⟩
 rw [← hPost]
 have HPn : Hid (∀ w' v, (planS ρ.dat (l.map Cg.cs)).1 = v → v ≠ 0 → Below w.heap.size w w' → Post (.returned (.tuple #[.slice none 0 0, .pointer none, .int .i64 v])) w') := fun w' v h1 h2 h3 => by rw [hPost]; exact ⟨h3, .inl ⟨by rw [h1]; exact h2, none, 0, by rw [h1]⟩⟩
 have HPy : Hid (∀ w' pa pc g' sp' ps, (planS ρ.dat (l.map Cg.cs)).1 = 0 → GoodR sp' (planS ρ.dat (l.map Cg.cs)).2 → OwnPb w' w.heap.size pa pc ρ.file ps → PbRows w.heap.size w' ps → PsOk ps → (∀ L', Good L' → OnD L' ρ → OnD (putAll ρ.file L' ps) ⟨ρ.x, ρ.z, sp', (planS ρ.dat (l.map Cg.cs)).2⟩) → Below w.heap.size w w' → Post (.returned (.tuple #[.slice pa ps.length pc, .pointer (some ⟨g', 0, none⟩), .int .i64 0])) w') := fun w' pa pc g' sp' ps h1 h2 h3 h4 h5 h6 h7 => by rw [hPost]; exact ⟨h7, .inr ⟨h1, pa, pc, g', sp', ps, rfl, h2, h3, h4, h5, h6⟩⟩
 clear hPost
 obtain ⟨sl, hB, hD, hsp, hdat⟩ := H.it
 have HB : Hid (RB w g ρ.x ρ.z sl) := hB
 have HD : Hid (∀ s ∈ sl, Dt w s ∧ (s.b ≠ [] → ∃ b off, s.a = some ⟨b, off, none⟩ ∧ F b)) := hD
 have Hsp : Hid (sl.map Sm.sp = ρ.sp) := hsp
 have Hdat : Hid (sl.map Sm.b = ρ.dat) := hdat
 have HG : Hid (RGs F w g ρ) := H
 have HC : Hid (CgsAt w a l) := hC
 have Hn : Hid (l.length = n) := hn
 have HM : Hid (n ≤ maxLen) := hM
 clear H hC hn hM hB hD hsp hdat
 go_enter Tryz.func74, Tryz.ntmps74
 go_wp2_with fail
 refine (apart_c ρ.dat a n c l w HC.out Hn.out HM.out).mono ?_
 rintro _ w1 ⟨rfl, hb1⟩
 cases hch : chgAll ρ.dat [] (l.map Cg.cs) with
 | none =>
   have R := HPn.out w1 1 (by unfold planS; rw [hch]) (by decide) hb1
   clear HPn HPy hb1
   simp only [Option.isSome_none]
   go_wp2
   exact bodyPost_ret (results_tmp3 (t := 4) (u := 5) (v := 6) rfl _ _ _) rfl R
 | some d' =>
   have Hb1 : Hid (Below w.heap.size w w1) := hb1
   have HB1 : Hid (RB w1 g ρ.x ρ.z sl) := HB.out.on hb1
   have HC1 : Hid (CgsAt w1 a l) := HC.out.on hb1
   have Hch : Hid (chgAll (sl.map Sm.b) [] (l.map Cg.cs) = some d') := by show _ = _; rw [Hdat.out]; exact hch
   have Hok : Hid (∀ s ∈ sl, slotOk s.sp s.b) := good_sl HG.out.good Hsp.out Hdat.out
   simp only [Option.isSome_some]
   clear hb1
   go_wp2_with fail
   refine (fits_c g ρ.x ρ.z sl d' a n c l w1 HB1.out (fun s hs => (slotOk_fit (Hok.out s hs)).2.2.1) HC1.out Hn.out HM.out Hch.out).mono ?_
   rintro _ w2 ⟨rfl, hb2⟩
   have hb12 := Hb1.out.trans (hb2.mono Hb1.out.size)
   by_cases hfit : 2 + needAll d' ≤ 40
   ·have hpl : planS ρ.dat (l.map Cg.cs) = (0, d') := by unfold planS; rw [hch]; simp only; rw [if_pos hfit]
    have Hfit : Hid (2 + needAll d' ≤ 40) := hfit
    rw [hpl] at HPy
    have HB2 : Hid (RB w2 g ρ.x ρ.z sl) := HB1.out.on hb2
    have HC2 : Hid (CgsAt w2 a l) := HC1.out.on hb2
    have HD2 : Hid (∀ s ∈ sl, Dt w2 s) := fun s hs => (HD.out s hs).1.on hb12
    have Hb2 : Hid (Below w.heap.size w w2) := hb12
    rw [decide_eq_true hfit]
    clear HPn hb2 hb12 HB1 HC1 Hb1 hpl hch hfit
    go_wp2_with fail
    refine (with_c g ρ.x ρ.z sl d' a n c l w2 HB2.out HD2.out HC2.out Hn.out HM.out Hch.out).mono ?_
    rintro _ w3 ⟨hb3, rfl, sl', hB3, hD3, hbd, hrel⟩
    have hlen : sl'.length = sl.length := hB3.n.trans HB2.out.n.symm
    have hSW : ∀ s ∈ sl', slotOk s.sp s.b ∨ s.sp = (0, 0) := fun s hs => by
     obtain ⟨k, hk, rfl⟩ := List.mem_iff_getElem.1 hs
     rcases hrel k hk (by omega) with e | h
     ·rw [e]; exact .inl (Hok.out _ (List.getElem_mem _))
     ·exact .inr (Prod.ext h.1 h.2.1)
    have hPt : Part (sl'.map Sm.sp) := by
     refine ⟨fun x hx => ?_, fun i => ?_⟩
     ·obtain ⟨s, hs, rfl⟩ := List.mem_map.1 hx
      rcases hSW s hs with h | h
      ·exact (slotOk_fit h).2.2.2.2
      ·exact .inl h
     ·refine Nat.le_trans (cnt_le_of sl sl' hlen (fun k h h' => ?_) i) ?_
      ·rcases hrel k h h' with e | h
       ·exact .inl (by rw [e])
       ·exact .inr (Prod.ext h.1 h.2.1)
      ·rw [Hsp.out]; exact HG.out.good.once i
    have hfitb : ∀ s ∈ sl', ∀ y ∈ s.b, 0 ≤ y ∧ y ≤ 255 := fun s hs => (hD3 s hs).by_.fit
    have hGd := layF_good (hB3.n) hPt hSW (by rw [hbd]; exact Hfit.out) hfitb
    rw [hbd] at hGd
    have hldat : (layF sl').map Sm.b = d' := (dat_b (layF_dat sl')).trans hbd
    have HB3 : Hid (RB w3 w2.heap.size ρ.x ρ.z sl') := hB3
    have HD3 : Hid (∀ s ∈ sl', Dt w3 s) := hD3
    have Hrel : Hid (∀ k (h : k < sl'.length) (h' : k < sl.length), sl'[k] = sl[k] ∨ New w2.heap.size sl'[k]) := hrel
    have HGd : Hid (GoodR ((layF sl').map Sm.sp) d') := hGd
    have Hld : Hid ((layF sl').map Sm.b = d') := hldat
    have Hb3 : Hid (Below w2.heap.size w2 w3) := hb3
    have Hsm : Hid (∀ s ∈ sl', s.f < 1000 ∧ s.m < 1000 ∧ s.b.length ≤ 2000) := fun s hs => by
     have hl := len_le Hfit.out (b := s.b) (by rw [← hbd]; exact List.mem_map.2 ⟨s, hs, rfl⟩)
     rcases hSW s hs with h | h
     ·have := slotOk_fit h
      have h1 : s.f < 256 := this.1
      have h2 : s.m < 256 := this.2.1
      exact ⟨by omega, by omega, by omega⟩
     ·have h1 : s.f = 0 := congrArg Prod.fst h
      have h2 : s.m = 0 := congrArg Prod.snd h
      exact ⟨by omega, by omega, by omega⟩
    have Hlen : Hid (sl'.length = sl.length) := hlen
    have Hbd : Hid (sl'.map Sm.b = d') := hbd
    clear hb3 hB3 hD3 hbd hrel hlen hSW hPt hfitb hGd hldat
    go_wp2_with fail
    refine (lay_c w2.heap.size ρ.x ρ.z sl' w3 HB3.out Hsm.out).mono ?_
    rintro _ w4 ⟨rfl, hB4, hC4⟩
    have HB4 : Hid (RB w4 w2.heap.size ρ.x ρ.z (layF sl')) := hB4
    have HC4 : Hid (Chg (fun k => k = w2.heap.size) w3 w4) := hC4
    have HD4 : Hid (∀ s ∈ layF sl', Dt w4 s) := fun s hs => by
     have hd : dOf s ∈ (layF sl').map dOf := List.mem_map.2 ⟨s, hs, rfl⟩
     rw [layF_dat] at hd
     obtain ⟨s', hs', e⟩ := List.mem_map.1 hd
     have e1 : s'.a = s.a := congrArg Prod.fst e
     have e2 : s'.c = s.c := congrArg (fun q => q.2.1) e
     have e3 : s'.b = s.b := congrArg (fun q => q.2.2) e
     obtain ⟨q1, q2, q3⟩ := HD3.out s' hs'
     have := bytes_chg HB3.out q1 HC4.out
     rw [e1, e3] at this
     rw [e1, e2] at q2
     rw [e2, e3] at q3
     exact ⟨this, q2, q3⟩
    have HGd2 : Hid (GoodR ((layF sl').map Sm.sp) ((layF sl').map Sm.b)) := by show GoodR _ _; rw [Hld.out]; exact HGd.out
    clear hB4 hC4
    go_wp2_with fail
    refine (blocks_c w2.heap.size ρ.x ρ.z (layF sl') w4 HB4.out (fit_of (good_sl HGd2.out rfl rfl)) HD4.out).mono ?_
    rintro _ w5 ⟨hb5, pa, pc, ps, rfl, hO, hR, hps⟩
    obtain ⟨hok, hput⟩ := plan_put HGd2.out hps ρ.x ρ.z
    have hs24 : w2.heap.size ≤ w4.heap.size := Nat.le_trans Hb3.out.size HC4.out.size
    have hs5 : w4.heap.size ≤ w5.heap.size := hb5.size
    have hb61 : Below w2.heap.size w2 w5 := by
     have h4 : Below w2.heap.size w3 w4 := HC4.out.below (fun k hk => by rw [hk]; exact Nat.le_refl _) Hb3.out.size
     exact (Hb3.out.trans h4).trans (hb5.mono hs24)
    have hbw5 : Below w.heap.size w w5 := Hb2.out.trans (hb61.mono Hb2.out.size)
    have hlt2 : w2.heap.size < w5.heap.size := Nat.lt_of_lt_of_le HB4.out.lt hs5
    have hws := Hb2.out.size
    have hF5 : ∀ k, (F k ∨ (w.heap.size ≤ k ∧ k < w5.heap.size)) → k < w5.heap.size := fun k hk => hk.elim (fun h => Nat.lt_of_lt_of_le (HG.out.lt k h) hbw5.size) (fun h => h.2)
    have R := HPy.out w5 pa pc w2.heap.size ((layF sl').map Sm.sp) ps trivial HGd.out (own_base hO (Nat.le_trans hws hs24)) (rows_base hR (Nat.le_trans hws hs24)) hok (fun L' _ hon => by
      have := hput ρ L' rfl rfl hon
      rw [Hld.out] at this
      exact this) hbw5
    clear HPy hO hR hps hok hput hb5 hb61 hbw5 hF5 HB3 HD3 Hrel HGd Hld Hb3 Hsm Hlen Hbd HB4 HC4 HD4 HGd2
    generalize ps.length = np at *
    go_wp2
    exact bodyPost_ret (results_tmp3 (t := 4) (u := 5) (v := 6) rfl _ _ _) rfl R
   ·have hpl : planS ρ.dat (l.map Cg.cs) = (11, []) := by unfold planS; rw [hch]; simp only; rw [if_neg hfit]
    have R := HPn.out w2 11 (by rw [hpl]) (by decide) hb12
    rw [decide_eq_false hfit]
    clear HPn HPy hb2 hb12
    go_wp2
    exact bodyPost_ret (results_tmp3 (t := 4) (u := 5) (v := 6) rfl _ _ _) rfl R
end Go.Proofs.YtlllmmceoeihkaaGreat
