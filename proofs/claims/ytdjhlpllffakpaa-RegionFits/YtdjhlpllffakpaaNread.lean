/-
  The program's region: read.
-/
import Derived.Test.YtdjhlpllffakpaaNroom
set_option maxRecDepth 20000
namespace Go.Proofs.Ytdjhlpllffakpaa
open Go.RowKit

theorem blks_snoc (l : List Bk) (f : Fl) (i j : Nat) : blks l f i (j + 1) = blks l f i j ++ blk l f (i + j) := by
  unfold blks
  rw [List.range'_1_concat, List.map_append, List.flatten_append]
  simp
theorem blk_bytes {w : World} {p : Nat} {t : TypeId} {cs : List Int} {n : Nat} (h : Blk w p t cs) (hf : ∀ y ∈ cs, 0 ≤ y ∧ y ≤ 255) (hl : cs.length = n) : Bytes w (some ⟨p, 0, none⟩) n cs :=
  ⟨hl, .inr ⟨p, 0, rfl, fun k hk => by rw [Nat.zero_add, h.cell hk, List.getD_eq_getElem?_getD, List.getElem?_eq_getElem hk]; rfl⟩, hf⟩
set_option maxHeartbeats 1000000 in
theorem rread_c (Fd : Nat → Prop) (d g : Nat) (S : St) (x z : Int) (l : List Sm) (f m : Nat) (w : World) (H : RB w g x z l) (hD : PDisk Fd w d S) (hFl : ∀ k, Fd k → k < w.heap.size) (hx : I64 x) (hz : I64 z) (hf : f < 1000) (hm : m < 1000) :
    Calls Try.prog 30 #[.pointer (some ⟨g, 0, none⟩), .pointer (some ⟨d, 0, none⟩), .agg #[.int .i64 (f : Int), .int .i64 (m : Int)]] w fun e w' => Below w.heap.size w w' ∧
      ((S.out = true ∧ 0 < m ∧ e = .returned (.tuple #[.slice none 0 0, .int .i64 8])) ∨ ((S.out = false ∨ m = 0) ∧ ∃ a c, e = .returned (.tuple #[.slice a (32 * m) c, .int .i64 0]) ∧ Own w' w.heap.size a c (blks S.l (2, x, z) f m))) := by
  obtain ⟨Post, hPost⟩ : ∃ Post : Ending → World → Prop, Post = fun e w' => Below w.heap.size w w' ∧
      ((S.out = true ∧ 0 < m ∧ e = .returned (.tuple #[.slice none 0 0, .int .i64 8])) ∨ ((S.out = false ∨ m = 0) ∧ ∃ a c, e = .returned (.tuple #[.slice a (32 * m) c, .int .i64 0]) ∧ Own w' w.heap.size a c (blks S.l (2, x, z) f m))) := ⟨_, rfl⟩
  rw [← hPost]
  have HPd : Hid (S.out = true → 0 < m → ∀ w', Below w.heap.size w w' → Post (.returned (.tuple #[.slice none 0 0, .int .i64 8])) w') := fun h1 h2 w' h3 => by rw [hPost]; exact ⟨h3, .inl ⟨h1, h2, rfl⟩⟩
  have HPo : Hid ((S.out = false ∨ m = 0) → ∀ w' a c, Below w.heap.size w w' → Own w' w.heap.size a c (blks S.l (2, x, z) f m) → Post (.returned (.tuple #[.slice a (32 * m) c, .int .i64 0])) w') := fun h1 w' a c h2 h3 => by rw [hPost]; exact ⟨h2, .inr ⟨h1, a, c, rfl, h3⟩⟩
  clear hPost
  obtain ⟨mb, ml, hD0⟩ := hD
  have Hbk : Hid (∀ i : Nat, (blk S.l (2, x, z) i).length = 32 ∧ ∀ y ∈ blk S.l (2, x, z) i, 0 ≤ y ∧ y ≤ 255) := fun i => has_fit hD0 (2, x, z) (i : Int)
  have HD : Hid (PDisk Fd w d S) := ⟨mb, ml, hD0⟩
  have HB : Hid (RB w g x z l) := H
  have HF : Hid (∀ k, Fd k → k < w.heap.size) := hFl
  have Hx : Hid (I64 x) := hx
  have Hz : Hid (I64 z) := hz
  clear hD0 H hFl hx hz
  go_enter Try.func30, Try.ntmps30
  go_wp2_with fail
  have Hb0 : Hid (Below w.heap.size w (w.alloc (.cells #[.int .i64 (f : Int), .int .i64 (m : Int)] 41))) := (Below.refl _ _).alloc (Nat.le_refl _) _
  have hbox := heap_alloc_new w (.cells #[.int .i64 (f : Int), .int .i64 (m : Int)] 41)
  have hsz : (w.alloc (.cells #[.int .i64 (f : Int), .int .i64 (m : Int)] 41)).heap.size = w.heap.size + 1 := by simp
  have Hsz : Hid (w.heap.size < (w.alloc (.cells #[.int .i64 (f : Int), .int .i64 (m : Int)] 41)).heap.size) := by show _ < _; rw [hsz]; omega
  clear hsz
  generalize w.alloc (.cells #[.int .i64 (f : Int), .int .i64 (m : Int)] 41) = w0 at *
  have b0 : w0.cell? ⟨w.heap.size, 0, none⟩ = some (.int .i64 (f : Int)) := by rw [cell_of_row w0 _ _ _ 41 (0, 0) hbox]; rfl
  have b1 : w0.cell? ⟨w.heap.size, 1, none⟩ = some (.int .i64 (m : Int)) := by rw [cell_of_row w0 _ _ _ 41 (0, 0) hbox]; rfl
  have HB0 : Hid (RB w0 g x z l) := HB.out.on Hb0.out
  have HD0 : Hid (PDisk Fd w0 d S) := HD.out.keep (fun k hk => Hb0.out.block k (HF.out k hk))
  have HF0 : Hid (∀ k, Fd k → k < w0.heap.size) := fun k hk => Nat.lt_of_lt_of_le (HF.out k hk) Hb0.out.size
  clear hbox HB HD HF
  go_wp2_with fail
  go_loopw [8, 14] (fun s v wr => ∃ (j : Nat) (av : Option Addr) (cv : Nat), j ≤ m ∧ v = .int .i64 (j : Int) ∧ s = .slice av (32 * j) cv ∧ Hid (Own wr w0.heap.size av cv (blks S.l (2, x, z) f j)) ∧ Hid (Below w0.heap.size w0 wr) ∧ Hid (S.out = false ∨ j = 0)) (fun _ v _ => m - (intOf v).toNat)
  case atStart => exact ⟨0, none, 0, Nat.zero_le _, by go_num, rfl, Own.nil _ _, Below.refl _ _, .inr rfl⟩
  case round =>
    obtain ⟨j, av, cv, hj, rfl, rfl, HO, HBe, HSo⟩ := hrel
    by_cases hlt : j < m
    · have hlt' : (j : Int) < (m : Int) := by omega
      have hcw : wr.cell? ⟨w.heap.size, 0, none⟩ = some (.int .i64 (f : Int)) := (HBe.out.cell (p := ⟨w.heap.size, 0, none⟩) Hsz.out).trans b0
      have HBw : Hid (RB wr g x z l) := HB0.out.keep (HBe.out.block g HB0.out.lt)
      have HDw : Hid (PDisk Fd wr d S) := HD0.out.keep (fun k hk => HBe.out.block k (HF0.out k hk))
      have HFw : Hid (∀ k, Fd k → k < wr.heap.size) := fun k hk => Nat.lt_of_lt_of_le (HF0.out k hk) HBe.out.size
      have Hbl : Hid ((blk S.l (2, x, z) (f + j)).length = 32 ∧ ∀ y ∈ blk S.l (2, x, z) (f + j), 0 ≤ y ∧ y ≤ 255) := Hbk.out (f + j)
      have Hnext : Hid (blks S.l (2, x, z) f (j + 1) = blks S.l (2, x, z) f j ++ blk S.l (2, x, z) (f + j)) := blks_snoc _ _ _ _
      have Hol : Hid ((blks S.l (2, x, z) f j).length = 32 * j) := by
        show _ = _
        clear HO HBe HSo hcw HBw HDw HFw Hbl Hnext hlt hlt' hj
        induction j with
        | zero => rfl
        | succ j ih => rw [blks_snoc, List.length_append, ih, (Hbk.out (f + j)).1]; omega
      obtain ⟨bx, hbx⟩ : ∃ bx, bx = w.heap.size := ⟨_, rfl⟩
      rw [← hbx] at hcw b0 b1 ⊢
      have Hbx : Hid (bx = w.heap.size) := hbx
      clear hbx b0 b1
      obtain ⟨I0, hI0⟩ : ∃ I0 : Int, I0 = (f : Int) + (j : Int) := ⟨_, rfl⟩
      have hI1 : 0 ≤ I0 ∧ I0 < 2000 := by omega
      have hwrap : IntKind.i64.wrap ((f : Int) + (j : Int)) = I0 := by rw [IntKind.wrap_i64]; omega
      have HI0 : Hid (I0 = ((f + j : Nat) : Int)) := by show _ = _; omega
      clear hI0
      cases hso : S.out with
      | true =>
        have Hrd : Hid (S.read (2, x, z) I0 = (8, [])) := by show _ = _; unfold St.read; rw [if_pos ⟨by omega, by omega⟩, hso, HI0.out]; rfl
        have HR : Hid (∀ w', Below w0.heap.size w0 w' → Post (.returned (.tuple #[.slice none 0 0, .int .i64 8])) w') := fun w' h => HPd.out hso (by omega) w' (Hb0.out.trans (h.mono Hb0.out.size))
        clear HPd HPo HSo
        go_wp2_with fail
        refine region_L (fun w' : World => w'.cell? ⟨bx, 0, none⟩ = some (.int .i64 (f : Int))) 12 (by kernel_rfl) ?_
        have HBa : Hid (RB wr.drew g x z l) := HBw.out.keep rfl
        have HDa : Hid (PDisk Fd wr.drew d S) := HDw.out.keep (fun _ _ => rfl)
        have HFa : Hid (∀ k, Fd k → k < wr.drew.heap.size) := HFw.out
        have Hba : Hid (Below w0.heap.size w0 wr.drew) := ⟨HBe.out.os, HBe.out.tape, HBe.out.output, HBe.out.size, HBe.out.block⟩
        have HOa : Hid (Own wr.drew w0.heap.size av cv (blks S.l (2, x, z) f j)) := HO.out
        have hca : wr.drew.cell? ⟨bx, 0, none⟩ = some (.int .i64 (f : Int)) := hcw
        clear HBw HDw HFw HBe HO hcw
        generalize wr.drew = va at *
        have hHeld : (fun w' : World => w'.cell? ⟨bx, 0, none⟩ = some (.int .i64 (f : Int))) _ := hca
        have hne : Nonempty (Sub (fun w' : World => w'.cell? ⟨bx, 0, none⟩ = some (.int .i64 (f : Int)))) := ⟨⟨_, hHeld⟩⟩
        have k0 : ∀ s : Sub (fun w' : World => w'.cell? ⟨bx, 0, none⟩ = some (.int .i64 (f : Int))), s.w.cell? ⟨bx, 0, none⟩ = some (.int .i64 (f : Int)) := fun s => s.ok
        refine take_L (i := 0) rfl (by kernel_rfl) (by kernel_rfl) (by kernel_rfl) (by kernel_rfl) (fun _ _ _ _ h => h) (by exact hHeld) (fun K hK => ?_)
        go_simp
        refine hK _ ?_
        clear hK K
        refine take_L (i := 1) rfl (by kernel_rfl) (by kernel_rfl) (by kernel_rfl) (by kernel_rfl) (fun _ _ _ _ h => h) (by exact hHeld) (fun K hK => ?_)
        go_simp
        refine hK _ ?_
        clear hK K
        refine take_L (i := 3) rfl (by kernel_rfl) (by kernel_rfl) (by kernel_rfl) (by kernel_rfl) (fun _ _ _ _ h => h) (by exact hHeld) (fun K hK => ?_)
        go_simp
        refine hK _ ?_
        clear hK K
        refine take_L (i := 4) rfl (by kernel_rfl) (by kernel_rfl) (by kernel_rfl) (by kernel_rfl) (fun _ _ _ _ h => h) (by exact hHeld) (fun K hK => ?_)
        go_simp
        refine hK _ ?_
        clear hK K
        refine take_L (i := 5) rfl (by kernel_rfl) (by kernel_rfl) (by kernel_rfl) (by kernel_rfl) (fun _ _ _ _ h => h) (by exact hHeld) (fun K hK => ?_)
        go_simp
        refine hK _ ?_
        clear hK K
        refine take_L (i := 6) rfl (by kernel_rfl) (by kernel_rfl) (by kernel_rfl) (by kernel_rfl) (fun _ _ _ _ h => h) (by exact hHeld) (fun K hK => ?_)
        go_simp
        refine hK _ ?_
        clear hK K
        refine one_L (i := 2) (by kernel_rfl) rfl (fun K hK => ?_)
        go_simp
        refine (file_c g x z l va HBa.out).mono ?_
        rintro _ vb ⟨rfl, hbv⟩
        have HDb : Hid (PDisk Fd vb d S) := HDa.out.keep (fun k hk => hbv.block k (HFa.out k hk))
        have Hbb : Hid (Below w0.heap.size w0 vb) := Hba.out.trans (hbv.mono Hba.out.size)
        have HOb : Hid (Own vb w0.heap.size av cv (blks S.l (2, x, z) f j)) := HOa.out.later hbv
        clear HDa HBa HOa
        replace hHeld : (fun w' : World => w'.cell? ⟨bx, 0, none⟩ = some (.int .i64 (f : Int))) _ := cell_below hHeld hbv
        refine hK.out _ _ (fun _ => hHeld) ?_
        clear hK K
        refine one_L (i := 7) (by kernel_rfl) rfl (fun K hK => ?_)
        go_simp
        refine (read_c Fd d S 2 x z I0 ⟨⟨show (-9223372036854775808 : Int) ≤ 2 by decide, show (2 : Int) ≤ 9223372036854775807 by decide⟩, Hx.out, Hz.out⟩ ⟨by omega, by omega⟩ vb HDb.out).mono ?_
        rintro _ vc ⟨hbc, hRc⟩
        have Hbc : Hid (Below w0.heap.size w0 vc) := Hbb.out.trans (hbc.mono Hbb.out.size)
        have HOc : Hid (Own vc w0.heap.size av cv (blks S.l (2, x, z) f j)) := HOb.out.later hbc
        rw [Hrd.out] at hRc
        rcases hRc with ⟨_, rfl⟩ | ⟨p, hp, rfl, hB, hl, hft⟩
        all_goals first | (exfalso; simp at hl; done) | skip
        replace hHeld : (fun w' : World => w'.cell? ⟨bx, 0, none⟩ = some (.int .i64 (f : Int))) _ := cell_below hHeld hbc
        refine hK.out _ _ (fun _ => hHeld) ?_
        clear hK K
        refine take_L (i := 8) rfl (by kernel_rfl) (by kernel_rfl) (by kernel_rfl) (by kernel_rfl) (fun _ _ _ _ h => h) (by exact hHeld) (fun K hK => ?_)
        go_simp
        refine hK _ ?_
        clear hK K
        refine take_L (i := 9) rfl (by kernel_rfl) (by kernel_rfl) (by kernel_rfl) (by kernel_rfl) (fun _ _ _ _ h => h) (by exact hHeld) (fun K hK => ?_)
        go_simp
        refine hK _ ?_
        clear hK K
        refine take_L (i := 10) rfl (by kernel_rfl) (by kernel_rfl) (by kernel_rfl) (by kernel_rfl) (fun _ _ _ _ h => h) (by exact hHeld) (fun K hK => ?_)
        go_simp
        refine hK _ ?_
        clear hK K
        refine take_L (i := 11) rfl (by kernel_rfl) (by kernel_rfl) (by kernel_rfl) (by kernel_rfl) (fun _ _ _ _ h => h) (by exact hHeld) (fun K hK => ?_)
        go_simp
        refine hK _ ?_
        clear hK K
        refine one_L (i := 12) (by kernel_rfl) rfl (fun K hK => ?_)
        go_simp
        refine hK.out _ _ (fun h => absurd rfl h) ?_
        clear hK K
        refine done_L (by kernel_rfl) ?_ _
        go_simp
        have R := HR.out _ Hbc.out
        clear HR
        go_wp2
        exact R
      | false =>
        have Hrd : Hid (S.read (2, x, z) I0 = (0, blk S.l (2, x, z) (f + j))) := by show _ = _; unfold St.read; rw [if_pos ⟨by omega, by omega⟩, hso, HI0.out]; rfl
        clear HPd HPo HSo
        go_wp2_with fail
        refine region_L (fun w' : World => w'.cell? ⟨bx, 0, none⟩ = some (.int .i64 (f : Int))) 12 (by kernel_rfl) ?_
        have HBa : Hid (RB wr.drew g x z l) := HBw.out.keep rfl
        have HDa : Hid (PDisk Fd wr.drew d S) := HDw.out.keep (fun _ _ => rfl)
        have HFa : Hid (∀ k, Fd k → k < wr.drew.heap.size) := HFw.out
        have Hba : Hid (Below w0.heap.size w0 wr.drew) := ⟨HBe.out.os, HBe.out.tape, HBe.out.output, HBe.out.size, HBe.out.block⟩
        have HOa : Hid (Own wr.drew w0.heap.size av cv (blks S.l (2, x, z) f j)) := HO.out
        have hca : wr.drew.cell? ⟨bx, 0, none⟩ = some (.int .i64 (f : Int)) := hcw
        clear HBw HDw HFw HBe HO hcw
        generalize wr.drew = va at *
        have hHeld : (fun w' : World => w'.cell? ⟨bx, 0, none⟩ = some (.int .i64 (f : Int))) _ := hca
        have hne : Nonempty (Sub (fun w' : World => w'.cell? ⟨bx, 0, none⟩ = some (.int .i64 (f : Int)))) := ⟨⟨_, hHeld⟩⟩
        have k0 : ∀ s : Sub (fun w' : World => w'.cell? ⟨bx, 0, none⟩ = some (.int .i64 (f : Int))), s.w.cell? ⟨bx, 0, none⟩ = some (.int .i64 (f : Int)) := fun s => s.ok
        refine take_L (i := 0) rfl (by kernel_rfl) (by kernel_rfl) (by kernel_rfl) (by kernel_rfl) (fun _ _ _ _ h => h) (by exact hHeld) (fun K hK => ?_)
        go_simp
        refine hK _ ?_
        clear hK K
        refine take_L (i := 1) rfl (by kernel_rfl) (by kernel_rfl) (by kernel_rfl) (by kernel_rfl) (fun _ _ _ _ h => h) (by exact hHeld) (fun K hK => ?_)
        go_simp
        refine hK _ ?_
        clear hK K
        refine take_L (i := 3) rfl (by kernel_rfl) (by kernel_rfl) (by kernel_rfl) (by kernel_rfl) (fun _ _ _ _ h => h) (by exact hHeld) (fun K hK => ?_)
        go_simp
        refine hK _ ?_
        clear hK K
        refine take_L (i := 4) rfl (by kernel_rfl) (by kernel_rfl) (by kernel_rfl) (by kernel_rfl) (fun _ _ _ _ h => h) (by exact hHeld) (fun K hK => ?_)
        go_simp
        refine hK _ ?_
        clear hK K
        refine take_L (i := 5) rfl (by kernel_rfl) (by kernel_rfl) (by kernel_rfl) (by kernel_rfl) (fun _ _ _ _ h => h) (by exact hHeld) (fun K hK => ?_)
        go_simp
        refine hK _ ?_
        clear hK K
        refine take_L (i := 6) rfl (by kernel_rfl) (by kernel_rfl) (by kernel_rfl) (by kernel_rfl) (fun _ _ _ _ h => h) (by exact hHeld) (fun K hK => ?_)
        go_simp
        refine hK _ ?_
        clear hK K
        refine one_L (i := 2) (by kernel_rfl) rfl (fun K hK => ?_)
        go_simp
        refine (file_c g x z l va HBa.out).mono ?_
        rintro _ vb ⟨rfl, hbv⟩
        have HDb : Hid (PDisk Fd vb d S) := HDa.out.keep (fun k hk => hbv.block k (HFa.out k hk))
        have Hbb : Hid (Below w0.heap.size w0 vb) := Hba.out.trans (hbv.mono Hba.out.size)
        have HOb : Hid (Own vb w0.heap.size av cv (blks S.l (2, x, z) f j)) := HOa.out.later hbv
        clear HDa HBa HOa
        replace hHeld : (fun w' : World => w'.cell? ⟨bx, 0, none⟩ = some (.int .i64 (f : Int))) _ := cell_below hHeld hbv
        refine hK.out _ _ (fun _ => hHeld) ?_
        clear hK K
        refine one_L (i := 7) (by kernel_rfl) rfl (fun K hK => ?_)
        go_simp
        refine (read_c Fd d S 2 x z I0 ⟨⟨show (-9223372036854775808 : Int) ≤ 2 by decide, show (2 : Int) ≤ 9223372036854775807 by decide⟩, Hx.out, Hz.out⟩ ⟨by omega, by omega⟩ vb HDb.out).mono ?_
        rintro _ vc ⟨hbc, hRc⟩
        have Hbc : Hid (Below w0.heap.size w0 vc) := Hbb.out.trans (hbc.mono Hbb.out.size)
        have HOc : Hid (Own vc w0.heap.size av cv (blks S.l (2, x, z) f j)) := HOb.out.later hbc
        rw [Hrd.out] at hRc
        rcases hRc with ⟨hr2, rfl⟩ | ⟨p, hp, rfl, hB, hl, hft⟩
        · exact absurd Hbl.out.1 (fun e => by rw [show blk S.l (2, x, z) (f + j) = [] from hr2] at e; simp at e)
        replace hHeld : (fun w' : World => w'.cell? ⟨bx, 0, none⟩ = some (.int .i64 (f : Int))) _ := cell_below hHeld hbc
        refine hK.out _ _ (fun _ => hHeld) ?_
        clear hK K
        refine take_L (i := 8) rfl (by kernel_rfl) (by kernel_rfl) (by kernel_rfl) (by kernel_rfl) (fun _ _ _ _ h => h) (by exact hHeld) (fun K hK => ?_)
        go_simp
        refine hK _ ?_
        clear hK K
        refine take_L (i := 9) rfl (by kernel_rfl) (by kernel_rfl) (by kernel_rfl) (by kernel_rfl) (fun _ _ _ _ h => h) (by exact hHeld) (fun K hK => ?_)
        go_simp
        refine hK _ ?_
        clear hK K
        refine take_L (i := 10) rfl (by kernel_rfl) (by kernel_rfl) (by kernel_rfl) (by kernel_rfl) (fun _ _ _ _ h => h) (by exact hHeld) (fun K hK => ?_)
        go_simp
        refine hK _ ?_
        clear hK K
        refine take_L (i := 11) rfl (by kernel_rfl) (by kernel_rfl) (by kernel_rfl) (by kernel_rfl) (fun _ _ _ _ h => h) (by exact hHeld) (fun K hK => ?_)
        go_simp
        refine hK _ ?_
        clear hK K
        refine one_L (i := 12) (by kernel_rfl) rfl (fun K hK => ?_)
        go_simp
        refine hK.out _ _ (fun h => absurd rfl h) ?_
        clear hK K
        refine done_L (by kernel_rfl) ?_ _
        go_simp
        have HBy : Hid (Bytes vc (some ⟨p, 0, none⟩) 32 (blk S.l (2, x, z) (f + j))) := blk_bytes hB Hbl.out.2 hl
        have Hbd : 32 * j + 32 ≤ 140737488355328 := by omega
        clear hB hl hft Hbl
        go_wp2_with (at_builtin; refine wpList_append_bytes rfl _ _ rfl w0.heap.size av (32 * j) cv (blks S.l (2, x, z) f j) Hol.out rfl HOc.out (some ⟨p, 0, none⟩) 32 32 _ rfl HBy.out (fun h => by cases h) Hbd w0 Hbc.out Hbc.out.size ?_; intro a' c' w' HO' Hb' _)
        go_roundw
        case rel => exact ⟨j + 1, a', c', by omega, by go_num, by rw [Nat.mul_add], by rw [Hnext.out]; exact HO'.out, Hb', .inl (by first | exact hso | trivial)⟩
        case measure => simp [intOf]; omega
    · obtain rfl : j = m := by omega
      have hge : ¬ (j : Int) < (j : Int) := by omega
      have R := HPo.out HSo.out wr av cv (Hb0.out.trans (HBe.out.mono Hb0.out.size)) (HO.out.base Hb0.out.size)
      clear HPd HPo HSo HO HBe
      go_wp2
      exact R
end Go.Proofs.Ytdjhlpllffakpaa
