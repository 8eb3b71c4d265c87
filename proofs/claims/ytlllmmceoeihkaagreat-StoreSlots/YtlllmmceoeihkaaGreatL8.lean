/-
  The laws' awake: the chapter's example.
  StoreBack.
  StoreSlots.
-/
import Derived.Test.YtlllmmceoeihkaaGreatLb
import Derived.Lib.Bytes
import Derived.Test.YtlllmmceoeihkaaGreatSp
import Derived.Deep.DeepCutAuto
import Derived.Test.YtlllmmceoeihkaaGreatKRenp
set_option maxRecDepth 20000
namespace Go.Proofs.YtlllmmceoeihkaaGreat
open Go.RowKit
theorem runN_rep (c : Int) (rest : List Int) (h : rest.head? ≠ some c) : ∀ n, K.runN c (List.replicate n c ++ rest) = n
 | 0 => by
   cases rest with
   | nil => rfl
   | cons x r =>
     show K.runN c (x :: r) = 0
     unfold K.runN
     rw [if_neg (fun e => h (by rw [e]; rfl))]
 | n + 1 => by
   rw [List.replicate_succ, List.cons_append]
   unfold K.runN
   rw [if_pos rfl, runN_rep c rest h n]
theorem encR_rep (l : List Int) (c : Int) (rest : List Int) (h : rest.head? ≠ some c) (n : Nat) : K.encR l (List.replicate (n + 1) c ++ rest) = K.putL ((n + 1 : Nat) : Int) ++ (K.plc l c : Int) :: K.encR l rest := by
 rw [List.replicate_succ, List.cons_append, K.encR_cons, runN_rep c rest h n]
 congr 2
 rw [List.drop_append, List.drop_of_length_le (by simp), List.length_replicate, Nat.sub_self]
 rfl
def cellsN (n : Nat) : List Int := List.replicate 5 16 ++ (List.replicate 1 3 ++ (List.replicate (n + 1) 16 ++ []))
theorem head_rep (c : Int) (n : Nat) (r : List Int) : (List.replicate (n + 1) c ++ r).head? = some c := by rw [List.replicate_succ]; rfl
theorem enc_cellsN (n : Nat) (hp3 : (K.putL ((n + 1 : Nat) : Int)).length ≤ 3) : (K.encL (cellsN n)).length ≤ 27 := by
 have h1 : (K.oneL (cellsN n)).length ≤ 27 := by
  unfold K.oneL cellsN
  have hp := K.pal_len (List.replicate 5 16 ++ (List.replicate 1 3 ++ (List.replicate (n + 1) 16 ++ [])))
  generalize K.pal (List.replicate 5 16 ++ (List.replicate 1 3 ++ (List.replicate (n + 1) 16 ++ []))) = pl at *
  rw [encR_rep pl 16 _ (by rw [head_rep 3 0]; decide) 4, encR_rep pl 3 _ (by rw [head_rep 16 n]; decide) 0, encR_rep pl 16 _ (by simp) n, K.encR_nil]
  rw [show K.putL ((4 + 1 : Nat) : Int) = [5] by decide, show K.putL ((0 + 1 : Nat) : Int) = [1] by decide]
  unfold K.headL
  simp only [List.length_append, List.length_cons, List.length_nil]
  omega
 unfold K.encL
 split
 ·exact h1
 ·rename_i h
  have := K.wid_is (K.pal (cellsN n)).length
  omega
theorem set_repN (n : Nat) : (List.replicate (n + 7) (16 : Int)).set 5 3 = cellsN n := by
 unfold cellsN
 rw [List.append_nil]
 rfl
def cells0 : List Int := cellsN 32761
theorem enc_cells0 : (K.encL cells0).length ≤ 27 := enc_cellsN 32761 (by decide)
theorem cellsW0 (a : Option Addr) : cellsW ⟨0, 0, a, 1, 1, [(5, 3)], 0, 0⟩ = cells0 := by
 unfold cells0
 rw [← set_repN 32761]
 show fill2 (fill1 (remN 0 60 + 2) (remN 0 700)) [(5, 3)] 1 = _
 rw [show remN 0 700 = 0 by decide]
 show (List.replicate 32768 (16 : Int)).set (remN 5 32768) ((remN 3 17 : Nat) : Int) = _
 rw [show remN 5 32768 = 5 by decide, show remN 3 17 = 3 by decide]
 rfl
theorem sumN_le {f g : Nat → Nat} : ∀ {n : Nat}, (∀ i, i < n → f i ≤ g i) → sumN f n ≤ sumN g n
 | 0, _ => Nat.le_refl _
 | n + 1, h => by
   have h1 := sumN_le (f := f) (g := g) (n := n) (fun i hi => h i (by omega))
   have h2 := h n (by omega)
   show sumN f n + f n ≤ sumN g n + g n
   omega
theorem fits_one (e : Eb) (h : e.ok) (hl : (K.encL e.b).length ≤ 1000) : fits E0 [e] := by
 intro q hq
 obtain rfl := List.mem_singleton.1 hq
 unfold fitR
 rw [needAll_reg]
 have h1 : sumN (fun i => needS (encK (setE E0 [q] (ownX (q.x / 4) i) (ownZ (q.z / 4) i))).length) 16 ≤ sumN (fun i => if i = slotN q.x q.z then 32 else 0) 16 := by
  refine sumN_le (fun i hi => ?_)
  show needS (encK ((E0.put q.x q.z q.cells) _ _)).length ≤ _
  unfold Ed.put
  by_cases hx : ownX (q.x / 4) i = q.x ∧ ownZ (q.z / 4) i = q.z
  ·rw [if_pos hx, if_pos ((own_eq hi).1 hx).2.2, Eb.dat_enc q h]
   unfold Eb.dat
   split
   ·decide
   ·unfold needS; omega
  ·rw [if_neg hx]
   show needS (encK []).length ≤ _
   exact Nat.zero_le _
 rw [sumN_one (slotN_lt _ _)] at h1
 omega
theorem i64_lit {x : Int} (h : -1000000 ≤ x ∧ x ≤ 1000000) : I64 x := ⟨by omega, by omega⟩
theorem once_one (e : Eb) : Once [e] := List.pairwise_singleton _ _
set_option maxHeartbeats 4000000 in
theorem awake_l (w : World) : Calls Tryz.prog 9 #[] w fun e w' => e = .returned (.bool true) ∧ Below w.heap.size w w' := by
 obtain ⟨Post, hPost⟩ : ∃ Post : Ending → World → Prop, Post = fun e w' => e = .returned (.bool true) ∧ Below w.heap.size w w' := ⟨_, rfl⟩
 rw [← hPost]
 have HP : Hid (∀ w', Below w.heap.size w w' → Post (.returned (.bool true)) w') := fun w' h => by rw [hPost]; exact ⟨rfl, h⟩
 clear hPost
 go_enter Tryz.func9, Tryz.ntmps9
 go_wp2_with fail
 refine (new_c w).mono ?_
 rintro _ w1 ⟨⟨d, F, rfl, hD, hF, hl⟩, hb1⟩
 have hL1 : LD w.heap.size w1 d St.new E0 := ld_new hD hF hl
 have hop := lopen_c hL1 hb1.size ⟨rfl, rfl⟩ (by decide)
 have Hb1 : Hid (Below w.heap.size w w1) := hb1
 clear hD hF hl hL1 hb1
 go_wp2_with fail
 refine hop.mono ?_
 clear hop
 rintro _ w2 ⟨hb2, s, S2, rfl, hS2, hf2, hw2⟩
 have Hb2 : Hid (Below w.heap.size w w2) := Hb1.out.trans hb2
 have Hf2 : Hid S2.free := hf2
 have hwr : S2.writes ≤ 2000 := by have : St.new.writes = 0 := rfl; omega
 obtain ⟨G, hG, hsv⟩ := lsaveg_c hS2 (Nat.le_trans (Nat.le_refl _) (Nat.le_trans Hb1.out.size hb2.size)) hf2 (by omega)
 have HG : Hid (∀ k, G k → k < w2.heap.size) := hG
 have HSV : Hid _ := hsv
 clear Hb1 hb2 hf2 hw2 hS2 hG hsv
 go_wp2_with fail
 have hbc : Below w2.heap.size w2 (w2.alloc (.cells #[.int .i64 5, .int .i64 3] 80)) := (Below.refl _ _).alloc (Nat.le_refl _) _
 have hcx := heap_alloc_new w2 (.cells #[.int .i64 5, .int .i64 3] 80)
 have hwk : WkL (w2.alloc (.cells #[.int .i64 5, .int .i64 3] 80)) ⟨0, 0, some ⟨w2.heap.size, 0, none⟩, 1, 1, [(5, 3)], 0, 0⟩ := by
  refine ⟨rfl, fun k hk => ?_, ⟨@i64_lit 0 (by omega), @i64_lit 0 (by omega), @i64_lit 0 (by omega), @i64_lit 0 (by omega)⟩, by show (1 : Nat) ≤ _; unfold maxLen; omega⟩
  obtain rfl : k = 0 := by simp at hk; exact hk
  refine ⟨w2.heap.size, 0, rfl, ?_, ?_⟩
  ·rw [cell_of_row _ _ _ _ 80 (0, 0) hcx]; rfl
  ·rw [cell_of_row _ _ _ _ 80 (0, 0) hcx]; rfl
 refine (lcells_c ⟨0, 0, some ⟨w2.heap.size, 0, none⟩, 1, 1, [(5, 3)], 0, 0⟩ _ hwk).mono ?_
 rintro _ w3 ⟨hb3, g, hg, rfl, hBk⟩
 rw [cellsW0] at hBk
 have Hok : Hid (cells0.length = 32768 ∧ K.Kinds cells0) := by have := cellsW_ok ⟨0, 0, none, 1, 1, [(5, 3)], 0, 0⟩; rwa [cellsW0] at this
 have Hel : Hid ((K.encL cells0).length ≤ 1000) := by have := enc_cells0; show _ ≤ _; omega
 have Hnn : Hid (Z.noneB cells0 = false) := by
  show _ = _
  unfold Z.noneB
  rw [List.all_eq_false]
  refine ⟨3, ?_, by decide⟩
  unfold cells0 cellsN
  exact List.mem_append_right _ (List.mem_append_left _ (by decide))
 generalize cells0 = cs at *
 have hb23 : Below w2.heap.size w2 w3 := hbc.trans (hb3.mono hbc.size)
 have Hb3 : Hid (Below w.heap.size w w3) := Hb2.out.trans (hb23.mono Hb2.out.size)
 have Hg2 : Hid (w2.heap.size ≤ g) := Nat.le_trans hbc.size hg
 have Hb23 : Hid (Below w2.heap.size w2 w3) := hb23
 have HBk : Hid (K.Blk w3 g 5 cs) := hBk
 clear hbc hcx hwk hb3 hg hBk hb23 Hb2
 go_wp2_with fail
 have hbe : Below w3.heap.size w3 (w3.alloc (.cells #[.int .i64 (-1), .int .i64 2, .slice (some ⟨g, 0, none⟩) 32768 32768] 82)) := (Below.refl _ _).alloc (Nat.le_refl _) _
 have hex := heap_alloc_new w3 (.cells #[.int .i64 (-1), .int .i64 2, .slice (some ⟨g, 0, none⟩) 32768 32768] 82)
 have hbk4 := (hbe.block g (Array.getElem?_eq_some_iff.1 HBk.out).1).trans HBk.out
 have heds : EdsAt (w3.alloc (.cells #[.int .i64 (-1), .int .i64 2, .slice (some ⟨g, 0, none⟩) 32768 32768] 82)) (some ⟨w3.heap.size, 0, none⟩) [(⟨-1, 2, some ⟨g, 0, none⟩, 32768, 32768, cs⟩ : Eb)] := fun k hk => by
  obtain rfl : k = 0 := by simp at hk; exact hk
  refine ⟨w3.heap.size, 0, rfl, ?_, ?_, ?_, blk_bytes hbk4 (fun y hy => by have := Hok.out.2 y hy; omega) Hok.out.1, @i64_lit (-1) (by omega), @i64_lit 2 (by omega)⟩
  ·rw [cell_of_row _ _ _ _ 82 (0, 0) hex]; rfl
  ·rw [cell_of_row _ _ _ _ 82 (0, 0) hex]; rfl
  ·rw [cell_of_row _ _ _ _ 82 (0, 0) hex]; rfl
 have hsv := HSV.out _ (Hb23.out.trans (hbe.mono Hb23.out.size)) _ 1 _ heds (by simp) (fun e he => by obtain rfl := List.mem_singleton.1 he; exact Hok.out) (fun e he => by obtain rfl := List.mem_singleton.1 he; exact ⟨i64_lit (by show (-1000000 : Int) ≤ -1 ∧ (-1 : Int) ≤ 1000000; omega), i64_lit (by show (-1000000 : Int) ≤ 2 ∧ (2 : Int) ≤ 1000000; omega)⟩)
 refine hsv.mono ?_
 clear hsv
 rintro _ w4 ⟨⟨hb4, ⟨Er, rfl, _, _, hno, _⟩ | ⟨_, _, rfl, S4, hS4, hf4, hw4⟩⟩, hch⟩
 ·exact (hno ⟨once_one _, fits_one (⟨-1, 2, some ⟨g, 0, none⟩, 32768, 32768, cs⟩ : Eb) Hok.out Hel.out⟩).elim
 have hE1 : setE E0 [(⟨-1, 2, some ⟨g, 0, none⟩, 32768, 32768, cs⟩ : Eb)] (-1) 2 = cs := by
  show (if (-1 : Int) = -1 ∧ (2 : Int) = 2 then Eb.cells (⟨-1, 2, some ⟨g, 0, none⟩, 32768, 32768, cs⟩ : Eb) else E0 (-1) 2) = cs
  rw [if_pos ⟨rfl, rfl⟩]
  unfold Eb.cells
  simp only [Hnn.out]
  rfl
 have hE2 : setE E0 [(⟨-1, 2, some ⟨g, 0, none⟩, 32768, 32768, cs⟩ : Eb)] 3 2 = [] := by
  show (if (3 : Int) = -1 ∧ (2 : Int) = 2 then Eb.cells (⟨-1, 2, some ⟨g, 0, none⟩, 32768, 32768, cs⟩ : Eb) else E0 3 2) = []
  rw [if_neg (by decide)]
  rfl
 have hEO : EdOk (setE E0 [(⟨-1, 2, some ⟨g, 0, none⟩, 32768, 32768, cs⟩ : Eb)]) := setE_ok ed0_ok (fun e he => by obtain rfl := List.mem_singleton.1 he; exact Hok.out)
 have HL1 : Hid (∀ W, Below w4.heap.size w4 W → Calls Tryz.prog 27 #[.pointer (some ⟨s, 0, none⟩), valA (-1) 2] W (LoadSay cs W)) := fun W hb => by
  have := lload_c (hS4.on hb) hEO hf4 (-1) 2 (i64_lit (by omega)) (i64_lit (by omega))
  rwa [hE1] at this
 have HL2 : Hid (∀ W, Below w4.heap.size w4 W → Calls Tryz.prog 27 #[.pointer (some ⟨s, 0, none⟩), valA 3 2] W (LoadSay [] W)) := fun W hb => by
  have := lload_c (hS4.on hb) hEO hf4 3 2 (i64_lit (by omega)) (i64_lit (by omega))
  rwa [hE2] at this
 have Hb4 : Hid (Below w.heap.size w w4) := (Hb3.out.trans (hbe.mono Hb3.out.size)).trans hb4
 have hgk : w4.heap[g]? = _ := (hch.block g (Array.getElem?_eq_some_iff.1 hbk4).1 (fun h => by have := HG.out g h; have := Hg2.out; omega)).trans hbk4
 have HBk4 : Hid (∀ W, Below w4.heap.size w4 W → K.Blk W g 5 cs) := fun W hb => (hb.block g (Array.getElem?_eq_some_iff.1 hgk).1).trans hgk
 clear hbe hex hbk4 heds hb4 hS4 hf4 hE1 hE2 hEO HSV HG Hg2 Hb23 HBk Hb3 Hel Hnn Hf2 hch hgk
 go_wp2_with fail
 refine (HL1.out _ (Below.refl _ _)).mono ?_
 rintro _ w5 ⟨hb5, ⟨h0, _⟩ | ⟨_, g5, _, rfl, hB5⟩⟩
 ·have := Hok.out.1; rw [h0] at this; cases this
 have HB5 : Hid (K.Blk w5 g5 122 cs) := hB5
 have Hb5 : Hid (Below w4.heap.size w4 w5) := hb5
 clear hB5 hb5 HL1
 go_wp2_with fail
 refine (HL2.out _ Hb5.out).mono ?_
 rintro _ w6 ⟨hb6, ⟨_, rfl⟩ | ⟨h0, _⟩⟩
 rotate_left
 ·exact absurd rfl h0
 have HB6 : Hid (K.Blk w6 g5 122 cs) := (hb6.block g5 (Array.getElem?_eq_some_iff.1 HB5.out).1).trans HB5.out
 have HG6 : Hid (K.Blk w6 g 5 cs) := HBk4.out _ (Hb5.out.trans (hb6.mono Hb5.out.size))
 have Hb6 : Hid (Below w.heap.size w w6) := Hb4.out.trans ((Hb5.out.trans (hb6.mono Hb5.out.size)).mono Hb4.out.size)
 clear HB5 HBk4 hb6 HL2 Hb5 Hb4
 have HKB : Hid _ := fun (W : World) (h : K.Blk W g5 122 cs) => K.bytes_c g5 cs W h Hok.out.1
 go_upto_region 11 with fail
 refine Z.region_L (fun u => Below w6.heap.size w6 u) 99 (by kernel_rfl) ?_
 have hdr : Below w6.heap.size w6 w6.drew := ⟨rfl, rfl, rfl, Nat.le_refl _, fun _ _ => rfl⟩
 have h_va : (fun u => Below w6.heap.size w6 u) w6.drew := hdr
 clear hdr
 generalize w6.drew = va at *
 have hne : Nonempty (Z.Sub (fun u => Below w6.heap.size w6 u)) := ⟨⟨_, h_va⟩⟩
 have q0 : ∀ s : Z.Sub (fun u => Below w6.heap.size w6 u), (convert 61 9 (.slice (some ⟨g, 0, none⟩) 32768 32768)).run Tryz.prog s.w = .ok (.string (strOfNums cs)) s.w := fun s => by
  have h6 := HG6.out
  have hb : K.Blk s.w g 5 cs := (s.ok.block g (Array.getElem?_eq_some_iff.1 h6).1).trans h6
  exact hb.conv Hok.out.1 Hok.out.2
 refine Z.gen_L (by intro d v c a w h; cases d <;> exact h) (fun QX HQP HQX => ?_)
 refine Z.one_L (i := 0) (by kernel_rfl) rfl (fun K hK => ?_)
 go_simp
 refine hK.out _ _ (fun _ => h_va) ?_
 clear hK K
 refine Z.one_L (i := 1) (by kernel_rfl) rfl (fun K hK => ?_)
 go_simp
 refine hK.out _ _ (fun _ => h_va) ?_
 clear hK K
 refine Z.one_L (i := 2) (by kernel_rfl) rfl (fun K hK => ?_)
 go_simp
 refine hK.out _ _ (fun _ => h_va) ?_
 clear hK K
 refine Z.one_L (i := 3) (by kernel_rfl) rfl (fun K hK => ?_)
 go_simp
 refine hK.out _ _ (fun _ => h_va) ?_
 clear hK K
 refine Z.one_L (i := 4) (by kernel_rfl) rfl (fun K hK => ?_)
 go_simp
 refine hK.out _ _ (fun _ => h_va) ?_
 clear hK K
 refine Z.one_L (i := 5) (by kernel_rfl) rfl (fun K hK => ?_)
 go_simp
 refine hK.out _ _ (fun _ => h_va) ?_
 clear hK K
 refine Z.one_L (i := 6) (by kernel_rfl) rfl (fun K hK => ?_)
 go_simp
 refine hK.out _ _ (fun _ => h_va) ?_
 clear hK K
 refine Z.one_L (i := 7) (by kernel_rfl) rfl (fun K hK => ?_)
 go_simp
 refine hK.out _ _ (fun _ => h_va) ?_
 clear hK K
 refine Z.one_L (i := 8) (by kernel_rfl) rfl (fun K hK => ?_)
 go_simp
 refine hK.out _ _ (fun _ => h_va) ?_
 clear hK K
 refine Z.one_L (i := 9) (by kernel_rfl) rfl (fun K hK => ?_)
 go_simp
 refine hK.out _ _ (fun _ => h_va) ?_
 clear hK K
 refine Z.one_L (i := 10) (by kernel_rfl) rfl (fun K hK => ?_)
 go_simp
 refine hK.out _ _ (fun _ => h_va) ?_
 clear hK K
 refine Z.take_L (i := 11) rfl (by kernel_rfl) (by kernel_rfl) (by kernel_rfl) (by kernel_rfl) (fun _ _ _ _ h => HQP.out _ _ _ _ _ h) (by exact h_va) (fun K hK => ?_)
 go_simp
 refine hK _ ?_
 clear hK K
 refine Z.take_L (i := 14) rfl (by kernel_rfl) (by kernel_rfl) (by kernel_rfl) (by kernel_rfl) (fun _ _ _ _ h => HQP.out _ _ _ _ _ h) (by exact h_va) (fun K hK => ?_)
 go_simp
 refine hK _ ?_
 clear hK K
 refine Z.take_L (i := 15) rfl (by kernel_rfl) (by kernel_rfl) (by kernel_rfl) (by kernel_rfl) (fun _ _ _ _ h => HQP.out _ _ _ _ _ h) (by exact h_va) (fun K hK => ?_)
 go_simp
 refine hK _ ?_
 clear hK K
 refine Z.one_L (i := 12) (by kernel_rfl) rfl (fun K hK => ?_)
 go_simp
 go_simp
 have hB5 : KB va g5 122 cs := (Below.block h_va g5 (Array.getElem?_eq_some_iff.1 HB6.out).1).trans HB6.out
 refine (HKB.out _ hB5).mono ?_
 rintro _ v1 ⟨rfl, hBk, hb1⟩
 have h_v1 : (fun u => Below w6.heap.size w6 u) v1 := Below.trans h_va (hb1.mono (Below.size h_va))
 have hcv := hBk.conv Hok.out.1 Hok.out.2
 refine hK.out _ _ (fun _ => h_v1) ?_
 clear hK K hB5 hBk hb1
 refine Z.one_L (i := 13) (by kernel_rfl) rfl (fun K hK => ?_)
 go_simp
 refine hK.out _ _ (fun _ => h_v1) ?_
 clear hK K
 refine Z.one_L (i := 16) (by kernel_rfl) rfl (fun K hK => ?_)
 go_simp
 refine hK.out _ _ (fun _ => h_v1) ?_
 clear hK K
 refine Z.one_L (i := 17) (by kernel_rfl) rfl (fun K hK => ?_)
 go_simp
 refine hK.out _ _ (fun _ => h_v1) ?_
 clear hK K
 refine Z.one_L (i := 18) (by kernel_rfl) rfl (fun K hK => ?_)
 go_simp
 refine hK.out _ _ (fun _ => h_v1) ?_
 clear hK K
 refine Z.one_L (i := 19) (by kernel_rfl) rfl (fun K hK => ?_)
 go_simp
 refine hK.out _ _ (fun _ => h_v1) ?_
 clear hK K
 refine Z.one_L (i := 20) (by kernel_rfl) rfl (fun K hK => ?_)
 go_simp
 refine hK.out _ _ (fun _ => h_v1) ?_
 clear hK K
 refine Z.one_L (i := 21) (by kernel_rfl) rfl (fun K hK => ?_)
 go_simp
 refine hK.out _ _ (fun _ => h_v1) ?_
 clear hK K
 refine Z.one_L (i := 22) (by kernel_rfl) rfl (fun K hK => ?_)
 go_simp
 refine hK.out _ _ (fun _ => h_v1) ?_
 clear hK K
 refine Z.one_L (i := 23) (by kernel_rfl) rfl (fun K hK => ?_)
 go_simp
 refine hK.out _ _ (fun _ => h_v1) ?_
 clear hK K
 refine Z.one_L (i := 24) (by kernel_rfl) rfl (fun K hK => ?_)
 go_simp
 refine hK.out _ _ (fun _ => h_v1) ?_
 clear hK K
 refine Z.one_L (i := 25) (by kernel_rfl) rfl (fun K hK => ?_)
 go_simp
 refine hK.out _ _ (fun _ => h_v1) ?_
 clear hK K
 refine Z.one_L (i := 26) (by kernel_rfl) rfl (fun K hK => ?_)
 go_simp
 refine hK.out _ _ (fun _ => h_v1) ?_
 clear hK K
 refine Z.done_L (by kernel_rfl) ?_ _
 refine HQX.out _ _ ?_
 clear HQX HQP QX
 have R := HP.out _ (Hb6.out.trans (Below.mono h_v1 Hb6.out.size))
 clear HKB HP Hb6 HG6 HB6 Hok q0 h_v1
 go_simp
 go_wp2
 exact R
end Go.Proofs.YtlllmmceoeihkaaGreat
set_option maxRecDepth 20000
namespace Go.Proofs.YtlllmmceoeihkaaGreat
open Go.RowKit
theorem wE_at {l : List Wk} (ho : Once (wE l)) {k : Nat} (h : k < l.length) : setE E0 (wE l) l[k].x l[k].z = if Z.noneB (cellsW l[k]) then [] else cellsW l[k] :=
 setE_mem (E := E0) ho ⟨l[k].x, l[k].z, none, 0, 0, cellsW l[k]⟩ (List.mem_map.2 ⟨l[k], List.getElem_mem h, rfl⟩)
theorem near_i64 {o : Wk} (h : Near o) : I64 o.x ∧ I64 o.z := ⟨⟨by have := h.1.1; omega, by have := h.1.2; omega⟩, ⟨by have := h.2.1; omega, by have := h.2.2; omega⟩⟩
theorem kblk_bytes {w : World} {p : Nat} {cs : List Int} (h : K.Blk w p 5 cs) (ho : cs.length = 32768 ∧ K.Kinds cs) : K.Bytes w (some ⟨p, 0, none⟩) 32768 cs :=
 (blk_bytes h (fun y hy => by have := ho.2 y hy; omega) ho.1).toK
end Go.Proofs.YtlllmmceoeihkaaGreat
set_option maxRecDepth 20000
namespace Go.Proofs.YtlllmmceoeihkaaGreat
open Go.RowKit
theorem blk_pfx {w : World} {p : Nat} {cs : List Int} (h : K.Blk w p 5 cs) : K.Pfx w p cs := by
 refine ⟨_, h, fun k hk => ?_⟩
 simp [K.vals, List.getD_eq_getElem?_getD, List.getElem?_eq_getElem hk]
theorem kbytes_conv {w : World} {a : Option Addr} {n c : Nat} {xs : List Int} (h : K.Bytes w a n xs) : (convert 61 9 (.slice a n c)).run Tryz.prog w = .ok (.string (strOfNums xs)) w := K.conv_c h.src
theorem enc_say (cs : List Int) (hl : cs.length = 32768) : (Z.noneB cs = true ∧ encK (if Z.noneB cs then [] else cs) = []) ∨ (Z.noneB cs = false ∧ encK (if Z.noneB cs then [] else cs) = K.encL cs) := by
 cases Z.noneB cs with
 | true => exact .inl ⟨rfl, rfl⟩
 | false =>
   refine .inr ⟨rfl, ?_⟩
   simp only [Bool.false_eq_true, if_false]
   unfold encK
   rw [if_neg]
   intro h
   rw [h] at hl
   cases hl
set_option maxHeartbeats 4000000 in
theorem storeSlots_l (w : World) (a : Option Addr) (n c : Nat) (l : List Wk) (hW : WksAt w a l) (hl : l.length = n) (hn : n ≤ maxLen) : Calls Tryz.prog 8 #[.slice a n c] w fun e w' => e = .returned (.bool true) ∧ Below w.heap.size w w' := by
 obtain ⟨Post, hPost⟩ : ∃ Post : Ending → World → Prop, Post = fun e w' => e = .returned (.bool true) ∧ Below w.heap.size w w' := ⟨_, rfl⟩
 rw [← hPost]
 have HP : Hid (∀ w', Below w.heap.size w w' → Post (.returned (.bool true)) w') := fun w' h => by rw [hPost]; exact ⟨rfl, h⟩
 clear hPost
 have HW : Hid (WksAt w a l) := hW
 have Hl : Hid (l.length = n) := hl
 have hmx : n ≤ 9223372036854775807 := hn
 clear hW hl hn
 go_enter Tryz.func8, Tryz.ntmps8
 go_wp2_with fail
 refine (awake_l _).mono ?_
 rintro _ w1 ⟨rfl, hb1⟩
 replace HP : Hid (∀ w', Below w1.heap.size w1 w' → Post (.returned (.bool true)) w') := fun w' h => HP.out w' (hb1.trans (h.mono hb1.size))
 have HW1 : Hid (WksAt w1 a l) := HW.out.on hb1
 clear hb1 HW
 go_wp2_with fail
 refine (new_c w1).mono ?_
 rintro _ w2 ⟨⟨d, F, rfl, hD, hF, hdl⟩, hb2⟩
 have HD : Hid (LD w1.heap.size w2 d St.new E0) := ld_new hD hF hdl
 have HB2 : Hid (Below w1.heap.size w1 w2) := hb2
 clear hD hF hdl hb2
 go_wp2_with fail
 refine (inner_c a n c l w2 (HW1.out.on HB2.out) Hl.out hmx).mono ?_
 rintro _ w3 ⟨hb3, hnr⟩
 have HB3 : Hid (Below w1.heap.size w1 w3) := HB2.out.trans (hb3.mono HB2.out.size)
 have HD3 : Hid (LD w1.heap.size w3 d St.new E0) := HD.out.on hb3
 clear hb3 HD HB2
 obtain ⟨nb, rfl, HNr⟩ : ∃ nb : Bool, _ = Ending.returned (Value.bool nb) ∧ Hid (nb = true → ∀ o ∈ l, Near o) := by
  rcases hnr with ⟨h1, h2⟩ | ⟨h1, h2⟩
  ·exact ⟨true, h1, fun _ => h2⟩
  ·exact ⟨false, h1, fun h => by cases h⟩
 clear hnr
 by_cases h6 : 6 < n
 ·have h6' : (6 : Int) < (n : Int) := by omega
  have R := HP.out w3 HB3.out
  clear HP HW1 HD3 HB3 HNr Hl
  go_wp2
  exact R
 have h6' : ¬ (6 : Int) < (n : Int) := by omega
 cases nb with
 | false =>
   have R := HP.out w3 HB3.out
   clear HP HW1 HD3 HB3 HNr Hl
   go_wp2
   exact R
 | true =>
 replace HNr : Hid (∀ o ∈ l, Near o) := HNr.out rfl
 have hbg := begun_c (B := w1.heap.size) (S := St.new) HD3.out HB3.out.size ⟨rfl, rfl⟩ (by decide) a n c l (HW1.out.on HB3.out) Hl.out (by omega) (fun W hb => HW1.out.on (HB3.out.trans hb))
 clear HD3
 go_wp2_with fail
 refine hbg.mono ?_
 clear hbg
 rintro _ w4 ⟨hb4, s, S4, hf4, _, hbs⟩
 have HB4 : Hid (Below w1.heap.size w1 w4) := HB3.out.trans hb4
 obtain ⟨φ, rfl, HFi⟩ : ∃ φ : Bool, _ = Ending.returned (.tuple #[.pointer (some ⟨s, 0, none⟩), .bool φ]) ∧ Hid (φ = true → Once (wE l) ∧ LS w1.heap.size w4 s d S4 (setE E0 (wE l)) R0 0) := by
  rcases hbs with ⟨h1, h2, h3⟩ | ⟨h1, h2, h3, _⟩
  ·exact ⟨false, h1, fun h => by cases h⟩
  ·exact ⟨true, h1, fun _ => ⟨h3, h2⟩⟩
 replace HP : Hid (∀ w', Below w4.heap.size w4 w' → Post (.returned (.bool true)) w') := fun w' h => HP.out w' (HB4.out.trans (h.mono HB4.out.size))
 have HW4 : Hid (∀ W, Below w4.heap.size w4 W → WksAt W a l) := fun W hb => HW1.out.on (HB4.out.trans (hb.mono HB4.out.size))
 have Hf4 : Hid S4.free := hf4
 clear hbs hb4 hf4 HB3 HW1
 go_wp2
 go_loopw [8] (fun iv wr => ∃ (k : Nat), iv = .int .i64 (k : Int) ∧ k ≤ n ∧ Hid (Below w4.heap.size w4 wr)) (fun iv _ => n - (intOf iv).toNat)
 case atStart => exact ⟨0, rfl, Nat.zero_le _, Below.refl _ _⟩
 case round =>
  obtain ⟨k, rfl, hk, HI⟩ := hrel
  by_cases hlt : k < n
  ·have hlt' : (k : Int) < (n : Int) := by omega
   cases φ with
   | false =>
     have R := HP.out wr HI.out
     clear HP HW4 HI HNr Hl HFi HB4 Hf4
     go_wp2
     exact R
   | true =>
   have hkl : k < l.length := by rw [Hl.out]; exact hlt
   obtain ⟨lb, lo, rfl, hat⟩ := (HW4.out wr HI.out) k hkl
   have HA : Hid (∀ W, Below w4.heap.size w4 W → WkAt W lb lo k l[k]) := fun W hb => by
    obtain ⟨b, off, e, h⟩ := (HW4.out W hb) k hkl
    cases e
    exact h
   obtain ⟨ho, hS4⟩ := HFi.out rfl
   have HIk : Hid _ := near_i64 (HNr.out l[k] (List.getElem_mem hkl))
   have HR : Hid (∀ W, Below w4.heap.size w4 W → Calls Tryz.prog 33 #[.pointer (some ⟨s, 0, none⟩), .int .i64 (l[k].x / 4), .int .i64 (l[k].z / 4)] W fun e w' => Below W.heap.size W w' ∧ ∃ g F sp, e = .returned (.tuple #[.pointer (some ⟨g, 0, none⟩), .int .i64 0]) ∧ RGs F w' g ⟨l[k].x / 4, l[k].z / 4, sp, regD (setE E0 (wE l)) (l[k].x / 4) (l[k].z / 4)⟩) := fun W hb => lregion_c (hS4.on hb) Hf4.out _ _ (div_i64 HIk.out.1) (div_i64 HIk.out.2)
   have HSl : Hid _ := regD_slot (setE E0 (wE l)) l[k].x l[k].z
   have HSn : Hid _ := slotN_int l[k].x l[k].z
   have HSlt : Hid _ := slotN_lt l[k].x l[k].z
   rw [wE_at ho hkl] at HSl
   have HRs : Hid _ := enc_say (cellsW l[k]) (cellsW_ok _).1
   have Hok : Hid ((cellsW l[k]).length = 32768 ∧ K.Kinds (cellsW l[k])) := cellsW_ok _
   have HCe : Hid (∀ W, WkL W l[k] → Calls Tryz.prog 26 #[wkv l[k]] W fun e w' => Below W.heap.size W w' ∧ ∃ g, W.heap.size ≤ g ∧ e = .returned (.slice (some ⟨g, 0, none⟩) 32768 32768) ∧ K.Blk w' g 5 (cellsW l[k])) := fun W h => lcells_c l[k] W h
   generalize (if Z.noneB (cellsW l[k]) then [] else cellsW l[k]) = Ek at *
   generalize cellsW l[k] = cs at *
   have c0 := hat.c0
   have c1 := hat.c1
   obtain ⟨o, hoe⟩ : ∃ o, o = l[k] := ⟨_, rfl⟩
   rw [← hoe] at HA c0 c1 HCe HIk HSl HSn HSlt HR
   generalize regD (setE E0 (wE l)) (o.x / 4) (o.z / 4) = dat at *
   clear hoe hat ho hS4 HNr HFi HB4 Hf4
   have hrg := Z.rregion_c o.x o.z HIk.out.1 HIk.out.2 wr
   go_wp2_with fail
   refine hrg.mono ?_
   clear hrg c0 c1
   rintro _ v1 ⟨rfl, hb1⟩
   have HV1 : Hid (Below w4.heap.size w4 v1) := HI.out.trans (hb1.mono HI.out.size)
   clear hb1 HI
   have hal : Below v1.heap.size v1 (v1.alloc (.cells #[.int .i64 (o.x / 4), .int .i64 (o.z / 4)] 39)) := (Below.refl _ _).alloc (Nat.le_refl _) _
   have HV1a : Hid (Below w4.heap.size w4 (v1.alloc (.cells #[.int .i64 (o.x / 4), .int .i64 (o.z / 4)] 39))) := HV1.out.trans (hal.mono HV1.out.size)
   clear hal
   go_wp2_with fail
   refine (HR.out _ HV1a.out).mono ?_
   rintro _ v2 ⟨hb2, g, FR, sp, rfl, hRG⟩
   have HV2 : Hid (Below w4.heap.size w4 v2) := HV1a.out.trans (hb2.mono HV1a.out.size)
   have HRG : Hid (∀ W, Below v2.heap.size v2 W → RGs FR W g ⟨o.x / 4, o.z / 4, sp, dat⟩) := fun W hb => hRG.keep (fun k hk => hb.block k (hRG.lt k hk)) hb.size
   clear hb2 hRG HR HV1 HV1a
   have hA := HA.out v2 HV2.out
   have hce := HCe.out v2 hA.l
   have c0 := hA.c0
   have c1 := hA.c1
   have c2 := hA.c2
   have c3 := hA.c3
   have c4 := hA.c4
   clear hA
   go_wp2_with fail
   refine hce.mono ?_
   clear hce c0 c1 c2 c3 c4 HCe
   rintro _ v3 ⟨hb3, gb, _, rfl, hBk⟩
   have HV3 : Hid (Below v2.heap.size v2 v3) := hb3
   have HBk : Hid (K.Blk v3 gb 5 cs) := hBk
   clear hb3 hBk
   have hno := Z.rnone_c (c := 32768) (kblk_bytes HBk.out Hok.out) (by omega)
   go_wp2_with fail
   refine hno.mono ?_
   clear hno
   rintro _ v3' ⟨rfl, hve⟩
   replace hve := hve.symm
   subst hve
   rcases HRs.out with ⟨hnb, hEk⟩ | ⟨hnb, hEk⟩
   ·skip
    have HV : Hid (Below v2.heap.size v2 v3) := HV3.out
    obtain ⟨v4, hv4⟩ : ∃ v4, v4 = v3 := ⟨_, rfl⟩
    rw [hnb]
    clear hnb HBk HV3
    rw [← hv4] at HV ⊢
    clear hv4 v3
    have hA := HA.out v4 (HV2.out.trans (HV.out.mono HV2.out.size))
    have c0 := hA.c0
    have c1 := hA.c1
    clear hA
    go_upto_region 21 with fail
    clear c0 c1
    refine Z.region_L (fun u => Below v4.heap.size v4 u) 99 (by kernel_rfl) ?_
    have h_va : (fun u => Below v4.heap.size v4 u) v4.drew := (⟨rfl, rfl, rfl, Nat.le_refl _, fun _ _ => rfl⟩ : Below v4.heap.size v4 v4.drew)
    have hne : Nonempty (Z.Sub (fun u => Below v4.heap.size v4 u)) := ⟨⟨_, h_va⟩⟩
    generalize v4.drew = va at *
    have q0 : ∀ s : Z.Sub (fun u => Below v4.heap.size v4 u), s.w.cell? ⟨lb, lo + k * 5, none⟩ = some (.int .i64 o.x) := fun s => (HA.out s.w (HV2.out.trans ((HV.out.trans (Below.mono s.ok HV.out.size)).mono HV2.out.size))).c0
    have q1 : ∀ s : Z.Sub (fun u => Below v4.heap.size v4 u), s.w.cell? ⟨lb, lo + k * 5 + 1, none⟩ = some (.int .i64 o.z) := fun s => (HA.out s.w (HV2.out.trans ((HV.out.trans (Below.mono s.ok HV.out.size)).mono HV2.out.size))).c1
    have hmx0 : 0 ≤ o.x % 4 ∧ o.x % 4 < 4 := by omega
    have hmz0 : 0 ≤ o.z % 4 ∧ o.z % 4 < 4 := by omega
    have HMz : Hid (∀ W, Calls Tryz.prog 35 #[.int .i64 o.z, .int .i64 4] W fun e w' => e = .returned (.int .i64 (o.z % 4)) ∧ w' = W) := fun W => Z.fmod_c o.z HIk.out.2 W
    have HMx : Hid (∀ W, Calls Tryz.prog 35 #[.int .i64 o.x, .int .i64 4] W fun e w' => e = .returned (.int .i64 (o.x % 4)) ∧ w' = W) := fun W => Z.fmod_c o.x HIk.out.1 W
    have HG : Hid (∀ W, Below v2.heap.size v2 W → Calls Tryz.prog 36 #[.pointer (some ⟨g, 0, none⟩), .int .i64 (o.z % 4 * 4 + o.x % 4)] W fun e w' => Below W.heap.size W w' ∧ ∃ a c, e = .returned (.slice a ([] : List Int).length c) ∧ Bytes w' a ([] : List Int).length ([] : List Int) ∧ ([] : List Int).length ≤ c) := fun W hb => by
     have h := rget_c (HRG.out W hb) (slotN o.x o.z) HSlt.out
     rw [HSn.out] at h
     have e : dat.getD (slotN o.x o.z) [] = ([] : List Int) := by rw [HSl.out, hEk]
     simp only [e] at h
     exact h
    clear HSlt HSn HSl HRG hEk
    generalize o.z % 4 = zm at *
    generalize o.x % 4 = xm at *
    refine Z.gen_L (by intro d v c a w h; cases d <;> exact h) (fun QX HQP HQX => ?_)
    refine Z.take_L (i := 0) rfl (by kernel_rfl) (by kernel_rfl) (by kernel_rfl) (by kernel_rfl) (fun _ _ _ _ h => HQP.out _ _ _ _ _ h) (by exact h_va) (fun K hK => ?_)
    go_simp
    refine hK _ ?_
    clear hK K
    refine Z.take_L (i := 1) rfl (by kernel_rfl) (by kernel_rfl) (by kernel_rfl) (by kernel_rfl) (fun _ _ _ _ h => HQP.out _ _ _ _ _ h) (by exact h_va) (fun K hK => ?_)
    go_simp
    refine hK _ ?_
    clear hK K
    refine Z.take_L (i := 2) rfl (by kernel_rfl) (by kernel_rfl) (by kernel_rfl) (by kernel_rfl) (fun _ _ _ _ h => HQP.out _ _ _ _ _ h) (by exact h_va) (fun K hK => ?_)
    go_simp
    refine hK _ ?_
    clear hK K
    refine Z.take_L (i := 3) rfl (by kernel_rfl) (by kernel_rfl) (by kernel_rfl) (by kernel_rfl) (fun _ _ _ _ h => HQP.out _ _ _ _ _ h) (by exact h_va) (fun K hK => ?_)
    go_simp
    refine hK _ ?_
    clear hK K
    refine Z.take_L (i := 4) rfl (by kernel_rfl) (by kernel_rfl) (by kernel_rfl) (by kernel_rfl) (fun _ _ _ _ h => HQP.out _ _ _ _ _ h) (by exact h_va) (fun K hK => ?_)
    go_simp
    refine hK _ ?_
    clear hK K
    refine Z.take_L (i := 5) rfl (by kernel_rfl) (by kernel_rfl) (by kernel_rfl) (by kernel_rfl) (fun _ _ _ _ h => HQP.out _ _ _ _ _ h) (by exact h_va) (fun K hK => ?_)
    go_simp
    refine hK _ ?_
    clear hK K
    refine Z.take_L (i := 8) rfl (by kernel_rfl) (by kernel_rfl) (by kernel_rfl) (by kernel_rfl) (fun _ _ _ _ h => HQP.out _ _ _ _ _ h) (by exact h_va) (fun K hK => ?_)
    go_simp
    refine hK _ ?_
    clear hK K
    refine Z.take_L (i := 9) rfl (by kernel_rfl) (by kernel_rfl) (by kernel_rfl) (by kernel_rfl) (fun _ _ _ _ h => HQP.out _ _ _ _ _ h) (by exact h_va) (fun K hK => ?_)
    go_simp
    refine hK _ ?_
    clear hK K
    refine Z.take_L (i := 10) rfl (by kernel_rfl) (by kernel_rfl) (by kernel_rfl) (by kernel_rfl) (fun _ _ _ _ h => HQP.out _ _ _ _ _ h) (by exact h_va) (fun K hK => ?_)
    go_simp
    refine hK _ ?_
    clear hK K
    refine Z.take_L (i := 11) rfl (by kernel_rfl) (by kernel_rfl) (by kernel_rfl) (by kernel_rfl) (fun _ _ _ _ h => HQP.out _ _ _ _ _ h) (by exact h_va) (fun K hK => ?_)
    go_simp
    refine hK _ ?_
    clear hK K
    refine Z.take_L (i := 12) rfl (by kernel_rfl) (by kernel_rfl) (by kernel_rfl) (by kernel_rfl) (fun _ _ _ _ h => HQP.out _ _ _ _ _ h) (by exact h_va) (fun K hK => ?_)
    go_simp
    refine hK _ ?_
    clear hK K
    refine Z.take_L (i := 13) rfl (by kernel_rfl) (by kernel_rfl) (by kernel_rfl) (by kernel_rfl) (fun _ _ _ _ h => HQP.out _ _ _ _ _ h) (by exact h_va) (fun K hK => ?_)
    go_simp
    refine hK _ ?_
    clear hK K
    refine Z.one_L (i := 6) (by kernel_rfl) rfl (fun K hK => ?_)
    go_simp
    go_simp
    refine (HMz.out _).mono ?_
    rintro _ ve ⟨rfl, hve⟩
    replace hve := hve.symm
    subst hve
    refine hK.out _ _ (fun _ => h_va) ?_
    clear hK K
    refine Z.take_L (i := 7) rfl (by kernel_rfl) (by kernel_rfl) (by kernel_rfl) (by kernel_rfl) (fun _ _ _ _ h => HQP.out _ _ _ _ _ h) (by exact h_va) (fun K hK => ?_)
    go_simp
    refine hK _ ?_
    clear hK K
    refine Z.one_L (i := 14) (by kernel_rfl) rfl (fun K hK => ?_)
    go_simp
    go_simp
    refine (HMx.out _).mono ?_
    rintro _ ve ⟨rfl, hve⟩
    replace hve := hve.symm
    subst hve
    refine hK.out _ _ (fun _ => h_va) ?_
    clear hK K
    refine Z.one_L (i := 15) (by kernel_rfl) rfl (fun K hK => ?_)
    go_simp
    refine hK.out _ _ (fun _ => h_va) ?_
    clear hK K
    refine Z.one_L (i := 16) (by kernel_rfl) rfl (fun K hK => ?_)
    go_simp
    refine hK.out _ _ (fun _ => h_va) ?_
    clear hK K
    refine Z.done_L (by kernel_rfl) ?_ _
    refine HQX.out _ _ ?_
    clear HQX HQP QX
    have HV5 : Hid (Below v2.heap.size v2 va) := HV.out.trans (Below.mono h_va HV.out.size)
    clear HMz HMx q0 q1 hne HV h_va
    go_simp
    go_wp2_with fail
    refine (HG.out _ HV5.out).mono ?_
    rintro _ v6 ⟨hb6, ga, gc, rfl, hgb, _⟩
    have hI6 : Hid (Below w4.heap.size w4 v6) := HV2.out.trans ((HV5.out.trans (hb6.mono HV5.out.size)).mono HV2.out.size)
    have hcg := kbytes_conv (c := gc) hgb.toK
    clear HG HV5 HV2 hb6 hgb HA HIk HRs Hok HW4 Hl
    rw [show strOfNums ([] : List Int) = { data := #[] } from rfl, List.length_nil] at hcg
    go_wp2
    go_roundw
    case rel => exact ⟨k + 1, by go_num, by omega, hI6.out⟩
    case measure => simp [intOf]; omega
   ·skip
    have hen := K.rencode_p 32768 gb cs v3 (blk_pfx HBk.out) Hok.out.1 Hok.out.2
    rw [hnb]
    clear hnb
    go_wp2_with fail
    refine hen.mono ?_
    clear hen
    rintro _ v4 ⟨ea, ec, rfl, hOw, hb4⟩
    have HV : Hid (Below v2.heap.size v2 v4) := HV3.out.trans (hb4.mono HV3.out.size)
    have hcv : (convert 61 9 (.slice ea (K.encL cs).length ec)).run Tryz.prog v4 = .ok (.string (strOfNums (K.encL cs))) v4 := kbytes_conv (hOw.bytes (K.enc_fit Hok.out.2 Hok.out.1) _ rfl)
    clear HBk HV3 hOw hb4
    have hA := HA.out v4 (HV2.out.trans (HV.out.mono HV2.out.size))
    have c0 := hA.c0
    have c1 := hA.c1
    clear hA
    go_upto_region 21 with fail
    clear hcv c0 c1
    refine Z.region_L (fun u => Below v4.heap.size v4 u) 99 (by kernel_rfl) ?_
    have h_va : (fun u => Below v4.heap.size v4 u) v4.drew := (⟨rfl, rfl, rfl, Nat.le_refl _, fun _ _ => rfl⟩ : Below v4.heap.size v4 v4.drew)
    have hne : Nonempty (Z.Sub (fun u => Below v4.heap.size v4 u)) := ⟨⟨_, h_va⟩⟩
    generalize v4.drew = va at *
    have q0 : ∀ s : Z.Sub (fun u => Below v4.heap.size v4 u), s.w.cell? ⟨lb, lo + k * 5, none⟩ = some (.int .i64 o.x) := fun s => (HA.out s.w (HV2.out.trans ((HV.out.trans (Below.mono s.ok HV.out.size)).mono HV2.out.size))).c0
    have q1 : ∀ s : Z.Sub (fun u => Below v4.heap.size v4 u), s.w.cell? ⟨lb, lo + k * 5 + 1, none⟩ = some (.int .i64 o.z) := fun s => (HA.out s.w (HV2.out.trans ((HV.out.trans (Below.mono s.ok HV.out.size)).mono HV2.out.size))).c1
    have hmx0 : 0 ≤ o.x % 4 ∧ o.x % 4 < 4 := by omega
    have hmz0 : 0 ≤ o.z % 4 ∧ o.z % 4 < 4 := by omega
    have HMz : Hid (∀ W, Calls Tryz.prog 35 #[.int .i64 o.z, .int .i64 4] W fun e w' => e = .returned (.int .i64 (o.z % 4)) ∧ w' = W) := fun W => Z.fmod_c o.z HIk.out.2 W
    have HMx : Hid (∀ W, Calls Tryz.prog 35 #[.int .i64 o.x, .int .i64 4] W fun e w' => e = .returned (.int .i64 (o.x % 4)) ∧ w' = W) := fun W => Z.fmod_c o.x HIk.out.1 W
    have HG : Hid (∀ W, Below v2.heap.size v2 W → Calls Tryz.prog 36 #[.pointer (some ⟨g, 0, none⟩), .int .i64 (o.z % 4 * 4 + o.x % 4)] W fun e w' => Below W.heap.size W w' ∧ ∃ a c, e = .returned (.slice a (K.encL cs).length c) ∧ Bytes w' a (K.encL cs).length (K.encL cs) ∧ (K.encL cs).length ≤ c) := fun W hb => by
     have h := rget_c (HRG.out W hb) (slotN o.x o.z) HSlt.out
     rw [HSn.out] at h
     have e : dat.getD (slotN o.x o.z) [] = (K.encL cs) := by rw [HSl.out, hEk]
     simp only [e] at h
     exact h
    clear HSlt HSn HSl HRG hEk
    generalize o.z % 4 = zm at *
    generalize o.x % 4 = xm at *
    refine Z.gen_L (by intro d v c a w h; cases d <;> exact h) (fun QX HQP HQX => ?_)
    refine Z.take_L (i := 0) rfl (by kernel_rfl) (by kernel_rfl) (by kernel_rfl) (by kernel_rfl) (fun _ _ _ _ h => HQP.out _ _ _ _ _ h) (by exact h_va) (fun K hK => ?_)
    go_simp
    refine hK _ ?_
    clear hK K
    refine Z.take_L (i := 1) rfl (by kernel_rfl) (by kernel_rfl) (by kernel_rfl) (by kernel_rfl) (fun _ _ _ _ h => HQP.out _ _ _ _ _ h) (by exact h_va) (fun K hK => ?_)
    go_simp
    refine hK _ ?_
    clear hK K
    refine Z.take_L (i := 2) rfl (by kernel_rfl) (by kernel_rfl) (by kernel_rfl) (by kernel_rfl) (fun _ _ _ _ h => HQP.out _ _ _ _ _ h) (by exact h_va) (fun K hK => ?_)
    go_simp
    refine hK _ ?_
    clear hK K
    refine Z.take_L (i := 3) rfl (by kernel_rfl) (by kernel_rfl) (by kernel_rfl) (by kernel_rfl) (fun _ _ _ _ h => HQP.out _ _ _ _ _ h) (by exact h_va) (fun K hK => ?_)
    go_simp
    refine hK _ ?_
    clear hK K
    refine Z.take_L (i := 4) rfl (by kernel_rfl) (by kernel_rfl) (by kernel_rfl) (by kernel_rfl) (fun _ _ _ _ h => HQP.out _ _ _ _ _ h) (by exact h_va) (fun K hK => ?_)
    go_simp
    refine hK _ ?_
    clear hK K
    refine Z.take_L (i := 5) rfl (by kernel_rfl) (by kernel_rfl) (by kernel_rfl) (by kernel_rfl) (fun _ _ _ _ h => HQP.out _ _ _ _ _ h) (by exact h_va) (fun K hK => ?_)
    go_simp
    refine hK _ ?_
    clear hK K
    refine Z.take_L (i := 8) rfl (by kernel_rfl) (by kernel_rfl) (by kernel_rfl) (by kernel_rfl) (fun _ _ _ _ h => HQP.out _ _ _ _ _ h) (by exact h_va) (fun K hK => ?_)
    go_simp
    refine hK _ ?_
    clear hK K
    refine Z.take_L (i := 9) rfl (by kernel_rfl) (by kernel_rfl) (by kernel_rfl) (by kernel_rfl) (fun _ _ _ _ h => HQP.out _ _ _ _ _ h) (by exact h_va) (fun K hK => ?_)
    go_simp
    refine hK _ ?_
    clear hK K
    refine Z.take_L (i := 10) rfl (by kernel_rfl) (by kernel_rfl) (by kernel_rfl) (by kernel_rfl) (fun _ _ _ _ h => HQP.out _ _ _ _ _ h) (by exact h_va) (fun K hK => ?_)
    go_simp
    refine hK _ ?_
    clear hK K
    refine Z.take_L (i := 11) rfl (by kernel_rfl) (by kernel_rfl) (by kernel_rfl) (by kernel_rfl) (fun _ _ _ _ h => HQP.out _ _ _ _ _ h) (by exact h_va) (fun K hK => ?_)
    go_simp
    refine hK _ ?_
    clear hK K
    refine Z.take_L (i := 12) rfl (by kernel_rfl) (by kernel_rfl) (by kernel_rfl) (by kernel_rfl) (fun _ _ _ _ h => HQP.out _ _ _ _ _ h) (by exact h_va) (fun K hK => ?_)
    go_simp
    refine hK _ ?_
    clear hK K
    refine Z.take_L (i := 13) rfl (by kernel_rfl) (by kernel_rfl) (by kernel_rfl) (by kernel_rfl) (fun _ _ _ _ h => HQP.out _ _ _ _ _ h) (by exact h_va) (fun K hK => ?_)
    go_simp
    refine hK _ ?_
    clear hK K
    refine Z.one_L (i := 6) (by kernel_rfl) rfl (fun K hK => ?_)
    go_simp
    go_simp
    refine (HMz.out _).mono ?_
    rintro _ ve ⟨rfl, hve⟩
    replace hve := hve.symm
    subst hve
    refine hK.out _ _ (fun _ => h_va) ?_
    clear hK K
    refine Z.take_L (i := 7) rfl (by kernel_rfl) (by kernel_rfl) (by kernel_rfl) (by kernel_rfl) (fun _ _ _ _ h => HQP.out _ _ _ _ _ h) (by exact h_va) (fun K hK => ?_)
    go_simp
    refine hK _ ?_
    clear hK K
    refine Z.one_L (i := 14) (by kernel_rfl) rfl (fun K hK => ?_)
    go_simp
    go_simp
    refine (HMx.out _).mono ?_
    rintro _ ve ⟨rfl, hve⟩
    replace hve := hve.symm
    subst hve
    refine hK.out _ _ (fun _ => h_va) ?_
    clear hK K
    refine Z.one_L (i := 15) (by kernel_rfl) rfl (fun K hK => ?_)
    go_simp
    refine hK.out _ _ (fun _ => h_va) ?_
    clear hK K
    refine Z.one_L (i := 16) (by kernel_rfl) rfl (fun K hK => ?_)
    go_simp
    refine hK.out _ _ (fun _ => h_va) ?_
    clear hK K
    refine Z.done_L (by kernel_rfl) ?_ _
    refine HQX.out _ _ ?_
    clear HQX HQP QX
    have HV5 : Hid (Below v2.heap.size v2 va) := HV.out.trans (Below.mono h_va HV.out.size)
    clear HMz HMx q0 q1 hne HV h_va
    go_simp
    go_wp2_with fail
    refine (HG.out _ HV5.out).mono ?_
    rintro _ v6 ⟨hb6, ga, gc, rfl, hgb, _⟩
    have hI6 : Hid (Below w4.heap.size w4 v6) := HV2.out.trans ((HV5.out.trans (hb6.mono HV5.out.size)).mono HV2.out.size)
    have hcg := kbytes_conv (c := gc) hgb.toK
    clear HG HV5 HV2 hb6 hgb HA HIk HRs Hok HW4 Hl
    go_wp2
    go_roundw
    case rel => exact ⟨k + 1, by go_num, by omega, hI6.out⟩
    case measure => simp [intOf]; omega
  ·obtain rfl : k = n := by omega
   have R := HP.out wr HI.out
   clear HP HW4 HI HNr Hl HFi HB4 Hf4
   go_wp2
   exact R
end Go.Proofs.YtlllmmceoeihkaaGreat
