/-
  The laws' awake: the chapter's example.
  StoreBack.
  What was reserved is saved (plain); a row of works.
  StoreReserves.
-/
import Derived.Test.YtlllmmceoeihkaaGreatRw
import Derived.Lib.Bytes
import Derived.Test.YtlllmmceoeihkaaGreatSr
import Derived.Test.YtlllmmceoeihkaaGreatDv
import Derived.Test.YtlllmmceoeihkaaGreatKRpure
import Derived.Deep.RegionWith
import Derived.Test.YtlllmmceoeihkaaGreatCl
import Derived.Deep.DeepCutAuto
set_option maxRecDepth 20000
namespace Go.Proofs.YtlllmmceoeihkaaGreat
open Go.RowKit
theorem runN_rep (c : Int) (rest : List Int) (h : rest.head? ≠ some c) : ∀ n, K.runN c (List.replicate n c ++ rest) = n
 | 0 => by
   cases rest with
   | nil => rfl
   | cons x r =>
     show K.runN c (x :: r) = 0
     unfold K.runN
     rw [if_neg (fun e => h (by rw [e]; rfl))]
 | n + 1 => by
   rw [List.replicate_succ, List.cons_append]
   unfold K.runN
   rw [if_pos rfl, runN_rep c rest h n]
theorem encR_rep (l : List Int) (c : Int) (rest : List Int) (h : rest.head? ≠ some c) (n : Nat) : K.encR l (List.replicate (n + 1) c ++ rest) = K.putL ((n + 1 : Nat) : Int) ++ (K.plc l c : Int) :: K.encR l rest := by
 rw [List.replicate_succ, List.cons_append, K.encR_cons, runN_rep c rest h n]
 congr 2
 rw [List.drop_append, List.drop_of_length_le (by simp), List.length_replicate, Nat.sub_self]
 rfl
def cellsN (n : Nat) : List Int := List.replicate 5 16 ++ (List.replicate 1 3 ++ (List.replicate (n + 1) 16 ++ []))
theorem head_rep (c : Int) (n : Nat) (r : List Int) : (List.replicate (n + 1) c ++ r).head? = some c := by rw [List.replicate_succ]; rfl
theorem enc_cellsN (n : Nat) (hp3 : (K.putL ((n + 1 : Nat) : Int)).length ≤ 3) : (K.encL (cellsN n)).length ≤ 27 := by
 have h1 : (K.oneL (cellsN n)).length ≤ 27 := by
  unfold K.oneL cellsN
  have hp := K.pal_len (List.replicate 5 16 ++ (List.replicate 1 3 ++ (List.replicate (n + 1) 16 ++ [])))
  generalize K.pal (List.replicate 5 16 ++ (List.replicate 1 3 ++ (List.replicate (n + 1) 16 ++ []))) = pl at *
  rw [encR_rep pl 16 _ (by rw [head_rep 3 0]; decide) 4, encR_rep pl 3 _ (by rw [head_rep 16 n]; decide) 0, encR_rep pl 16 _ (by simp) n, K.encR_nil]
  rw [show K.putL ((4 + 1 : Nat) : Int) = [5] by decide, show K.putL ((0 + 1 : Nat) : Int) = [1] by decide]
  unfold K.headL
  simp only [List.length_append, List.length_cons, List.length_nil]
  omega
 unfold K.encL
 split
 ·exact h1
 ·rename_i h
  have := K.wid_is (K.pal (cellsN n)).length
  omega
theorem set_repN (n : Nat) : (List.replicate (n + 7) (16 : Int)).set 5 3 = cellsN n := by
 unfold cellsN
 rw [List.append_nil]
 rfl
def cells0 : List Int := cellsN 32761
theorem enc_cells0 : (K.encL cells0).length ≤ 27 := enc_cellsN 32761 (by decide)
theorem cellsW0 (a : Option Addr) : cellsW ⟨0, 0, a, 1, 1, [(5, 3)], 0, 0⟩ = cells0 := by
 unfold cells0
 rw [← set_repN 32761]
 show fill2 (fill1 (remN 0 60 + 2) (remN 0 700)) [(5, 3)] 1 = _
 rw [show remN 0 700 = 0 by decide]
 show (List.replicate 32768 (16 : Int)).set (remN 5 32768) ((remN 3 17 : Nat) : Int) = _
 rw [show remN 5 32768 = 5 by decide, show remN 3 17 = 3 by decide]
 rfl
theorem sumN_le {f g : Nat → Nat} : ∀ {n : Nat}, (∀ i, i < n → f i ≤ g i) → sumN f n ≤ sumN g n
 | 0, _ => Nat.le_refl _
 | n + 1, h => by
   have h1 := sumN_le (f := f) (g := g) (n := n) (fun i hi => h i (by omega))
   have h2 := h n (by omega)
   show sumN f n + f n ≤ sumN g n + g n
   omega
theorem fits_one (e : Eb) (h : e.ok) (hl : (K.encL e.b).length ≤ 1000) : fits E0 [e] := by
 intro q hq
 obtain rfl := List.mem_singleton.1 hq
 unfold fitR
 rw [needAll_reg]
 have h1 : sumN (fun i => needS (encK (setE E0 [q] (ownX (q.x / 4) i) (ownZ (q.z / 4) i))).length) 16 ≤ sumN (fun i => if i = slotN q.x q.z then 32 else 0) 16 := by
  refine sumN_le (fun i hi => ?_)
  show needS (encK ((E0.put q.x q.z q.cells) _ _)).length ≤ _
  unfold Ed.put
  by_cases hx : ownX (q.x / 4) i = q.x ∧ ownZ (q.z / 4) i = q.z
  ·rw [if_pos hx, if_pos ((own_eq hi).1 hx).2.2, Eb.dat_enc q h]
   unfold Eb.dat
   split
   ·decide
   ·unfold needS; omega
  ·rw [if_neg hx]
   show needS (encK []).length ≤ _
   exact Nat.zero_le _
 rw [sumN_one (slotN_lt _ _)] at h1
 omega
theorem i64_lit {x : Int} (h : -1000000 ≤ x ∧ x ≤ 1000000) : I64 x := ⟨by omega, by omega⟩
theorem once_one (e : Eb) : Once [e] := List.pairwise_singleton _ _
set_option maxHeartbeats 4000000 in
theorem awake_l (w : World) : Calls Tryz.prog 9 #[] w fun e w' => e = .returned (.bool true) ∧ Below w.heap.size w w' := by
 obtain ⟨Post, hPost⟩ : ∃ Post : Ending → World → Prop, Post = fun e w' => e = .returned (.bool true) ∧ Below w.heap.size w w' := ⟨_, rfl⟩
 rw [← hPost]
 have HP : Hid (∀ w', Below w.heap.size w w' → Post (.returned (.bool true)) w') := fun w' h => by rw [hPost]; exact ⟨rfl, h⟩
 clear hPost
 go_enter Tryz.func9, Tryz.ntmps9
 go_wp2_with fail
 refine (new_c w).mono ?_
 rintro _ w1 ⟨⟨d, F, rfl, hD, hF, hl⟩, hb1⟩
 have hL1 : LD w.heap.size w1 d St.new E0 := ld_new hD hF hl
 have hop := lopen_c hL1 hb1.size ⟨rfl, rfl⟩ (by decide)
 have Hb1 : Hid (Below w.heap.size w w1) := hb1
 clear hD hF hl hL1 hb1
 go_wp2_with fail
 refine hop.mono ?_
 clear hop
 rintro _ w2 ⟨hb2, s, S2, rfl, hS2, hf2, hw2⟩
 have Hb2 : Hid (Below w.heap.size w w2) := Hb1.out.trans hb2
 have Hf2 : Hid S2.free := hf2
 have hwr : S2.writes ≤ 2000 := by have : St.new.writes = 0 := rfl; omega
 obtain ⟨G, hG, hsv⟩ := lsaveg_c hS2 (Nat.le_trans (Nat.le_refl _) (Nat.le_trans Hb1.out.size hb2.size)) hf2 (by omega)
 have HG : Hid (∀ k, G k → k < w2.heap.size) := hG
 have HSV : Hid _ := hsv
 clear Hb1 hb2 hf2 hw2 hS2 hG hsv
 go_wp2_with fail
 have hbc : Below w2.heap.size w2 (w2.alloc (.cells #[.int .i64 5, .int .i64 3] 80)) := (Below.refl _ _).alloc (Nat.le_refl _) _
 have hcx := heap_alloc_new w2 (.cells #[.int .i64 5, .int .i64 3] 80)
 have hwk : WkL (w2.alloc (.cells #[.int .i64 5, .int .i64 3] 80)) ⟨0, 0, some ⟨w2.heap.size, 0, none⟩, 1, 1, [(5, 3)], 0, 0⟩ := by
  refine ⟨rfl, fun k hk => ?_, ⟨@i64_lit 0 (by omega), @i64_lit 0 (by omega), @i64_lit 0 (by omega), @i64_lit 0 (by omega)⟩, by show (1 : Nat) ≤ _; unfold maxLen; omega⟩
  obtain rfl : k = 0 := by simp at hk; exact hk
  refine ⟨w2.heap.size, 0, rfl, ?_, ?_⟩
  ·rw [cell_of_row _ _ _ _ 80 (0, 0) hcx]; rfl
  ·rw [cell_of_row _ _ _ _ 80 (0, 0) hcx]; rfl
 refine (lcells_c ⟨0, 0, some ⟨w2.heap.size, 0, none⟩, 1, 1, [(5, 3)], 0, 0⟩ _ hwk).mono ?_
 rintro _ w3 ⟨hb3, g, hg, rfl, hBk⟩
 rw [cellsW0] at hBk
 have Hok : Hid (cells0.length = 32768 ∧ K.Kinds cells0) := by have := cellsW_ok ⟨0, 0, none, 1, 1, [(5, 3)], 0, 0⟩; rwa [cellsW0] at this
 have Hel : Hid ((K.encL cells0).length ≤ 1000) := by have := enc_cells0; show _ ≤ _; omega
 have Hnn : Hid (Z.noneB cells0 = false) := by
  show _ = _
  unfold Z.noneB
  rw [List.all_eq_false]
  refine ⟨3, ?_, by decide⟩
  unfold cells0 cellsN
  exact List.mem_append_right _ (List.mem_append_left _ (by decide))
 generalize cells0 = cs at *
 have hb23 : Below w2.heap.size w2 w3 := hbc.trans (hb3.mono hbc.size)
 have Hb3 : Hid (Below w.heap.size w w3) := Hb2.out.trans (hb23.mono Hb2.out.size)
 have Hg2 : Hid (w2.heap.size ≤ g) := Nat.le_trans hbc.size hg
 have Hb23 : Hid (Below w2.heap.size w2 w3) := hb23
 have HBk : Hid (K.Blk w3 g 5 cs) := hBk
 clear hbc hcx hwk hb3 hg hBk hb23 Hb2
 go_wp2_with fail
 have hbe : Below w3.heap.size w3 (w3.alloc (.cells #[.int .i64 (-1), .int .i64 2, .slice (some ⟨g, 0, none⟩) 32768 32768] 82)) := (Below.refl _ _).alloc (Nat.le_refl _) _
 have hex := heap_alloc_new w3 (.cells #[.int .i64 (-1), .int .i64 2, .slice (some ⟨g, 0, none⟩) 32768 32768] 82)
 have hbk4 := (hbe.block g (Array.getElem?_eq_some_iff.1 HBk.out).1).trans HBk.out
 have heds : EdsAt (w3.alloc (.cells #[.int .i64 (-1), .int .i64 2, .slice (some ⟨g, 0, none⟩) 32768 32768] 82)) (some ⟨w3.heap.size, 0, none⟩) [(⟨-1, 2, some ⟨g, 0, none⟩, 32768, 32768, cs⟩ : Eb)] := fun k hk => by
  obtain rfl : k = 0 := by simp at hk; exact hk
  refine ⟨w3.heap.size, 0, rfl, ?_, ?_, ?_, blk_bytes hbk4 (fun y hy => by have := Hok.out.2 y hy; omega) Hok.out.1, @i64_lit (-1) (by omega), @i64_lit 2 (by omega)⟩
  ·rw [cell_of_row _ _ _ _ 82 (0, 0) hex]; rfl
  ·rw [cell_of_row _ _ _ _ 82 (0, 0) hex]; rfl
  ·rw [cell_of_row _ _ _ _ 82 (0, 0) hex]; rfl
 have hsv := HSV.out _ (Hb23.out.trans (hbe.mono Hb23.out.size)) _ 1 _ heds (by simp) (fun e he => by obtain rfl := List.mem_singleton.1 he; exact Hok.out) (fun e he => by obtain rfl := List.mem_singleton.1 he; exact ⟨i64_lit (by show (-1000000 : Int) ≤ -1 ∧ (-1 : Int) ≤ 1000000; omega), i64_lit (by show (-1000000 : Int) ≤ 2 ∧ (2 : Int) ≤ 1000000; omega)⟩)
 refine hsv.mono ?_
 clear hsv
 rintro _ w4 ⟨⟨hb4, ⟨Er, rfl, _, _, hno, _⟩ | ⟨_, _, rfl, S4, hS4, hf4, hw4⟩⟩, hch⟩
 ·exact (hno ⟨once_one _, fits_one (⟨-1, 2, some ⟨g, 0, none⟩, 32768, 32768, cs⟩ : Eb) Hok.out Hel.out⟩).elim
 have hE1 : setE E0 [(⟨-1, 2, some ⟨g, 0, none⟩, 32768, 32768, cs⟩ : Eb)] (-1) 2 = cs := by
  show (if (-1 : Int) = -1 ∧ (2 : Int) = 2 then Eb.cells (⟨-1, 2, some ⟨g, 0, none⟩, 32768, 32768, cs⟩ : Eb) else E0 (-1) 2) = cs
  rw [if_pos ⟨rfl, rfl⟩]
  unfold Eb.cells
  simp only [Hnn.out]
  rfl
 have hE2 : setE E0 [(⟨-1, 2, some ⟨g, 0, none⟩, 32768, 32768, cs⟩ : Eb)] 3 2 = [] := by
  show (if (3 : Int) = -1 ∧ (2 : Int) = 2 then Eb.cells (⟨-1, 2, some ⟨g, 0, none⟩, 32768, 32768, cs⟩ : Eb) else E0 3 2) = []
  rw [if_neg (by decide)]
  rfl
 have hEO : EdOk (setE E0 [(⟨-1, 2, some ⟨g, 0, none⟩, 32768, 32768, cs⟩ : Eb)]) := setE_ok ed0_ok (fun e he => by obtain rfl := List.mem_singleton.1 he; exact Hok.out)
 have HL1 : Hid (∀ W, Below w4.heap.size w4 W → Calls Tryz.prog 27 #[.pointer (some ⟨s, 0, none⟩), valA (-1) 2] W (LoadSay cs W)) := fun W hb => by
  have := lload_c (hS4.on hb) hEO hf4 (-1) 2 (i64_lit (by omega)) (i64_lit (by omega))
  rwa [hE1] at this
 have HL2 : Hid (∀ W, Below w4.heap.size w4 W → Calls Tryz.prog 27 #[.pointer (some ⟨s, 0, none⟩), valA 3 2] W (LoadSay [] W)) := fun W hb => by
  have := lload_c (hS4.on hb) hEO hf4 3 2 (i64_lit (by omega)) (i64_lit (by omega))
  rwa [hE2] at this
 have Hb4 : Hid (Below w.heap.size w w4) := (Hb3.out.trans (hbe.mono Hb3.out.size)).trans hb4
 have hgk : w4.heap[g]? = _ := (hch.block g (Array.getElem?_eq_some_iff.1 hbk4).1 (fun h => by have := HG.out g h; have := Hg2.out; omega)).trans hbk4
 have HBk4 : Hid (∀ W, Below w4.heap.size w4 W → K.Blk W g 5 cs) := fun W hb => (hb.block g (Array.getElem?_eq_some_iff.1 hgk).1).trans hgk
 clear hbe hex hbk4 heds hb4 hS4 hf4 hE1 hE2 hEO HSV HG Hg2 Hb23 HBk Hb3 Hel Hnn Hf2 hch hgk
 go_wp2_with fail
 refine (HL1.out _ (Below.refl _ _)).mono ?_
 rintro _ w5 ⟨hb5, ⟨h0, _⟩ | ⟨_, g5, _, rfl, hB5⟩⟩
 ·have := Hok.out.1; rw [h0] at this; cases this
 have HB5 : Hid (K.Blk w5 g5 122 cs) := hB5
 have Hb5 : Hid (Below w4.heap.size w4 w5) := hb5
 clear hB5 hb5 HL1
 go_wp2_with fail
 refine (HL2.out _ Hb5.out).mono ?_
 rintro _ w6 ⟨hb6, ⟨_, rfl⟩ | ⟨h0, _⟩⟩
 rotate_left
 ·exact absurd rfl h0
 have HB6 : Hid (K.Blk w6 g5 122 cs) := (hb6.block g5 (Array.getElem?_eq_some_iff.1 HB5.out).1).trans HB5.out
 have HG6 : Hid (K.Blk w6 g 5 cs) := HBk4.out _ (Hb5.out.trans (hb6.mono Hb5.out.size))
 have Hb6 : Hid (Below w.heap.size w w6) := Hb4.out.trans ((Hb5.out.trans (hb6.mono Hb5.out.size)).mono Hb4.out.size)
 clear HB5 HBk4 hb6 HL2 Hb5 Hb4
 have HKB : Hid _ := fun (W : World) (h : K.Blk W g5 122 cs) => K.bytes_c g5 cs W h Hok.out.1
 go_upto_region 11 with fail
 refine Z.region_L (fun u => Below w6.heap.size w6 u) 99 (by kernel_rfl) ?_
 have hdr : Below w6.heap.size w6 w6.drew := ⟨rfl, rfl, rfl, Nat.le_refl _, fun _ _ => rfl⟩
 have h_va : (fun u => Below w6.heap.size w6 u) w6.drew := hdr
 clear hdr
 generalize w6.drew = va at *
 have hne : Nonempty (Z.Sub (fun u => Below w6.heap.size w6 u)) := ⟨⟨_, h_va⟩⟩
 have q0 : ∀ s : Z.Sub (fun u => Below w6.heap.size w6 u), (convert 61 9 (.slice (some ⟨g, 0, none⟩) 32768 32768)).run Tryz.prog s.w = .ok (.string (strOfNums cs)) s.w := fun s => by
  have h6 := HG6.out
  have hb : K.Blk s.w g 5 cs := (s.ok.block g (Array.getElem?_eq_some_iff.1 h6).1).trans h6
  exact hb.conv Hok.out.1 Hok.out.2
 refine Z.gen_L (by intro d v c a w h; cases d <;> exact h) (fun QX HQP HQX => ?_)
 refine Z.one_L (i := 0) (by kernel_rfl) rfl (fun K hK => ?_)
 go_simp
 refine hK.out _ _ (fun _ => h_va) ?_
 clear hK K
 refine Z.one_L (i := 1) (by kernel_rfl) rfl (fun K hK => ?_)
 go_simp
 refine hK.out _ _ (fun _ => h_va) ?_
 clear hK K
 refine Z.one_L (i := 2) (by kernel_rfl) rfl (fun K hK => ?_)
 go_simp
 refine hK.out _ _ (fun _ => h_va) ?_
 clear hK K
 refine Z.one_L (i := 3) (by kernel_rfl) rfl (fun K hK => ?_)
 go_simp
 refine hK.out _ _ (fun _ => h_va) ?_
 clear hK K
 refine Z.one_L (i := 4) (by kernel_rfl) rfl (fun K hK => ?_)
 go_simp
 refine hK.out _ _ (fun _ => h_va) ?_
 clear hK K
 refine Z.one_L (i := 5) (by kernel_rfl) rfl (fun K hK => ?_)
 go_simp
 refine hK.out _ _ (fun _ => h_va) ?_
 clear hK K
 refine Z.one_L (i := 6) (by kernel_rfl) rfl (fun K hK => ?_)
 go_simp
 refine hK.out _ _ (fun _ => h_va) ?_
 clear hK K
 refine Z.one_L (i := 7) (by kernel_rfl) rfl (fun K hK => ?_)
 go_simp
 refine hK.out _ _ (fun _ => h_va) ?_
 clear hK K
 refine Z.one_L (i := 8) (by kernel_rfl) rfl (fun K hK => ?_)
 go_simp
 refine hK.out _ _ (fun _ => h_va) ?_
 clear hK K
 refine Z.one_L (i := 9) (by kernel_rfl) rfl (fun K hK => ?_)
 go_simp
 refine hK.out _ _ (fun _ => h_va) ?_
 clear hK K
 refine Z.one_L (i := 10) (by kernel_rfl) rfl (fun K hK => ?_)
 go_simp
 refine hK.out _ _ (fun _ => h_va) ?_
 clear hK K
 refine Z.take_L (i := 11) rfl (by kernel_rfl) (by kernel_rfl) (by kernel_rfl) (by kernel_rfl) (fun _ _ _ _ h => HQP.out _ _ _ _ _ h) (by exact h_va) (fun K hK => ?_)
 go_simp
 refine hK _ ?_
 clear hK K
 refine Z.take_L (i := 14) rfl (by kernel_rfl) (by kernel_rfl) (by kernel_rfl) (by kernel_rfl) (fun _ _ _ _ h => HQP.out _ _ _ _ _ h) (by exact h_va) (fun K hK => ?_)
 go_simp
 refine hK _ ?_
 clear hK K
 refine Z.take_L (i := 15) rfl (by kernel_rfl) (by kernel_rfl) (by kernel_rfl) (by kernel_rfl) (fun _ _ _ _ h => HQP.out _ _ _ _ _ h) (by exact h_va) (fun K hK => ?_)
 go_simp
 refine hK _ ?_
 clear hK K
 refine Z.one_L (i := 12) (by kernel_rfl) rfl (fun K hK => ?_)
 go_simp
 go_simp
 have hB5 : KB va g5 122 cs := (Below.block h_va g5 (Array.getElem?_eq_some_iff.1 HB6.out).1).trans HB6.out
 refine (HKB.out _ hB5).mono ?_
 rintro _ v1 ⟨rfl, hBk, hb1⟩
 have h_v1 : (fun u => Below w6.heap.size w6 u) v1 := Below.trans h_va (hb1.mono (Below.size h_va))
 have hcv := hBk.conv Hok.out.1 Hok.out.2
 refine hK.out _ _ (fun _ => h_v1) ?_
 clear hK K hB5 hBk hb1
 refine Z.one_L (i := 13) (by kernel_rfl) rfl (fun K hK => ?_)
 go_simp
 refine hK.out _ _ (fun _ => h_v1) ?_
 clear hK K
 refine Z.one_L (i := 16) (by kernel_rfl) rfl (fun K hK => ?_)
 go_simp
 refine hK.out _ _ (fun _ => h_v1) ?_
 clear hK K
 refine Z.one_L (i := 17) (by kernel_rfl) rfl (fun K hK => ?_)
 go_simp
 refine hK.out _ _ (fun _ => h_v1) ?_
 clear hK K
 refine Z.one_L (i := 18) (by kernel_rfl) rfl (fun K hK => ?_)
 go_simp
 refine hK.out _ _ (fun _ => h_v1) ?_
 clear hK K
 refine Z.one_L (i := 19) (by kernel_rfl) rfl (fun K hK => ?_)
 go_simp
 refine hK.out _ _ (fun _ => h_v1) ?_
 clear hK K
 refine Z.one_L (i := 20) (by kernel_rfl) rfl (fun K hK => ?_)
 go_simp
 refine hK.out _ _ (fun _ => h_v1) ?_
 clear hK K
 refine Z.one_L (i := 21) (by kernel_rfl) rfl (fun K hK => ?_)
 go_simp
 refine hK.out _ _ (fun _ => h_v1) ?_
 clear hK K
 refine Z.one_L (i := 22) (by kernel_rfl) rfl (fun K hK => ?_)
 go_simp
 refine hK.out _ _ (fun _ => h_v1) ?_
 clear hK K
 refine Z.one_L (i := 23) (by kernel_rfl) rfl (fun K hK => ?_)
 go_simp
 refine hK.out _ _ (fun _ => h_v1) ?_
 clear hK K
 refine Z.one_L (i := 24) (by kernel_rfl) rfl (fun K hK => ?_)
 go_simp
 refine hK.out _ _ (fun _ => h_v1) ?_
 clear hK K
 refine Z.one_L (i := 25) (by kernel_rfl) rfl (fun K hK => ?_)
 go_simp
 refine hK.out _ _ (fun _ => h_v1) ?_
 clear hK K
 refine Z.one_L (i := 26) (by kernel_rfl) rfl (fun K hK => ?_)
 go_simp
 refine hK.out _ _ (fun _ => h_v1) ?_
 clear hK K
 refine Z.done_L (by kernel_rfl) ?_ _
 refine HQX.out _ _ ?_
 clear HQX HQP QX
 have R := HP.out _ (Hb6.out.trans (Below.mono h_v1 Hb6.out.size))
 clear HKB HP Hb6 HG6 HB6 Hok q0 h_v1
 go_simp
 go_wp2
 exact R
end Go.Proofs.YtlllmmceoeihkaaGreat
set_option maxRecDepth 20000
namespace Go.Proofs.YtlllmmceoeihkaaGreat
open Go.RowKit
theorem kblk_bytes {w : World} {p : Nat} {cs : List Int} (h : K.Blk w p 5 cs) (ho : cs.length = 32768 ∧ K.Kinds cs) : K.Bytes w (some ⟨p, 0, none⟩) 32768 cs :=
 (blk_bytes h (fun y hy => by have := ho.2 y hy; omega) ho.1).toK
end Go.Proofs.YtlllmmceoeihkaaGreat
set_option maxRecDepth 20000
namespace Go.Proofs.YtlllmmceoeihkaaGreat
open Go.RowKit
def wE1 (o : Wk) : Eb := ⟨o.x, o.z, none, 0, 0, cellsW o⟩
theorem wE_append (l : List Wk) (o : Wk) : wE (l ++ [o]) = wE l ++ [wE1 o] := by simp [wE, wE1]
theorem setE_append (E : Ed) (l : List Eb) (e : Eb) : setE E (l ++ [e]) = (setE E l).put e.x e.z e.cells := by simp [setE, List.foldl_append]
theorem datB_dat (o : Wk) : encK (wE1 o).cells = datB (cellsW o) := Eb.dat_enc (wE1 o) (cellsW_ok o)
structure HadOk (l : List Wk) (R : Rf) : Prop where
 once : Once (wE l)
 many : ∀ x z, manyR R E0 x z = needS (encK (setE E0 (wE l) x z)).length
 ok : RfOk R
 fit : fits E0 (wE l)
theorem had_nil : HadOk [] R0 := ⟨List.Pairwise.nil, fun _ _ => rfl, rfok0, fun e he => by cases he⟩
theorem othN_congr {R R' : Rf} {E : Ed} {X Y : Int} {slot : Nat} (h : ∀ i, i < 16 → i ≠ slot → manyR R E (ownX X i) (ownZ Y i) = manyR R' E (ownX X i) (ownZ Y i)) : othN R E X Y slot 16 = othN R' E X Y slot 16 := by
 unfold othN
 refine sumN_congr (fun i hi => ?_)
 by_cases e : i = slot
 ·rw [if_pos e, if_pos e]
 ·rw [if_neg e, if_neg e]; exact h i hi e
theorem had_next {l : List Wk} {R : Rf} (h : HadOk l R) {o : Wk} (hno : ∀ j (hj : j < l.length), ¬ (l[j].x = o.x ∧ l[j].z = o.z)) (hfit : resN R E0 o.x o.z (cellsW o) ≤ 40) : HadOk (l ++ [o]) (R.put o.x o.z (needS (datB (cellsW o)).length : Int)) := by
 have hM : ∀ x z, manyR (R.put o.x o.z (needS (datB (cellsW o)).length : Int)) E0 x z = needS (encK (setE E0 (wE (l ++ [o])) x z)).length := fun x z => by
  rw [wE_append, setE_append]
  unfold Ed.put
  show manyR _ E0 x z = needS (encK (if x = o.x ∧ z = o.z then _ else _)).length
  by_cases e : x = o.x ∧ z = o.z
  ·rw [if_pos e, datB_dat]
   unfold manyR Rf.put
   rw [if_pos e]
   rfl
  ·rw [if_neg e, ← h.many x z]
   unfold manyR Rf.put
   rw [if_neg e]
 have hfo : fitR (setE E0 (wE (l ++ [o]))) (o.x / 4) (o.z / 4) := by
  unfold fitR
  rw [needAll_reg, sumN_congr (g := fun i => manyR (R.put o.x o.z (needS (datB (cellsW o)).length : Int)) E0 (ownX (o.x / 4) i) (ownZ (o.z / 4) i)) (fun i _ => (hM _ _).symm), sumN_out _ (slotN_lt o.x o.z)]
  have h1 := othN_congr (R := R.put o.x o.z (needS (datB (cellsW o)).length : Int)) (R' := R) (E := E0) (X := o.x / 4) (Y := o.z / 4) (slot := slotN o.x o.z) (fun i hi hne => by
   unfold manyR Rf.put
   rw [if_neg (fun e => hne ((own_eq hi).1 e).2.2)])
  unfold othN at h1
  rw [h1]
  have h2 : manyR (R.put o.x o.z (needS (datB (cellsW o)).length : Int)) E0 (ownX (o.x / 4) (slotN o.x o.z)) (ownZ (o.z / 4) (slotN o.x o.z)) = needS (datB (cellsW o)).length := by
   rw [(own_slot o.x o.z).1, (own_slot o.x o.z).2]
   unfold manyR Rf.put
   rw [if_pos ⟨rfl, rfl⟩]
   rfl
  rw [h2]
  have h3 : resN R E0 o.x o.z (cellsW o) = 2 + sumN (fun i => if i = slotN o.x o.z then 0 else manyR R E0 (ownX (o.x / 4) i) (ownZ (o.z / 4) i)) 16 + needS (datB (cellsW o)).length := rfl
  omega
 refine ⟨?_, hM, put_rfok h.ok ⟨by omega, ?_⟩, fun e he => ?_⟩
 ·rw [wE_append]
  unfold Once
  rw [List.pairwise_append]
  refine ⟨h.once, List.pairwise_singleton _ _, fun a ha b hb => ?_⟩
  obtain rfl := List.mem_singleton.1 hb
  obtain ⟨q, hq, rfl⟩ := List.mem_map.1 ha
  obtain ⟨j, hj, rfl⟩ := List.mem_iff_getElem.1 hq
  exact hno j hj
 ·have : needS (datB (cellsW o)).length ≤ resN R E0 o.x o.z (cellsW o) := by unfold resN; omega
  omega
 ·by_cases hr : e.x / 4 = o.x / 4 ∧ e.z / 4 = o.z / 4
  ·rw [hr.1, hr.2]
   exact hfo
  ·have hel : e ∈ wE l := by
    rw [wE_append] at he
    rcases List.mem_append.1 he with he | he
    ·exact he
    ·obtain rfl := List.mem_singleton.1 he
     exact absurd ⟨rfl, rfl⟩ hr
   have := h.fit e hel
   unfold fitR at this ⊢
   rw [regD_congr (E' := setE E0 (wE l)) (fun x z hx hz => ?_)]
   ·exact this
   ·rw [wE_append, setE_append]
    unfold Ed.put
    rw [if_neg]
    rintro ⟨e1, e2⟩
    exact hr ⟨by rw [← hx, e1]; rfl, by rw [← hz, e2]; rfl⟩
/-! ### a row of works -/
def wkc (o : Wk) : List Value := [.int .i64 o.x, .int .i64 o.z, .slice o.a o.n o.c, .int .i64 o.ev, .int .i64 o.mn]
def wkCells (l : List Wk) : List Value := l.flatMap wkc
theorem wkCells_append (a b : List Wk) : wkCells (a ++ b) = wkCells a ++ wkCells b := by simp [wkCells]
theorem wkCells_at : ∀ (l : List Wk) (k : Nat) (h : k < l.length) (j : Nat), j < 5 → (wkCells l)[k * 5 + j]? = (wkc l[k])[j]?
 | p :: l, 0, _, j, hj => by
   show (wkc p ++ wkCells l)[0 * 5 + j]? = _
   rw [Nat.zero_mul, Nat.zero_add, List.getElem?_append_left (by show j < 5; exact hj)]
   rfl
 | p :: l, k + 1, h, j, hj => by
   have ih := wkCells_at l k (by simpa using h) j hj
   show (wkc p ++ wkCells l)[(k + 1) * 5 + j]? = _
   rw [show (k + 1) * 5 + j = 5 + (k * 5 + j) by omega, List.getElem?_append_right (by show 5 ≤ _; omega)]
   simp only [List.getElem_cons_succ]
   rw [← ih]
   congr 1
   show 5 + (k * 5 + j) - 5 = _
   omega
abbrev WRow (B : Nat) (w : World) (av : Option Addr) (cv : Nat) (l : List Wk) : Prop := w.ownsRow B 42 5 (.slice av l.length cv) l.length (wkCells l)
theorem WRow.wks {B : Nat} {w : World} {av : Option Addr} {cv : Nat} {l : List Wk} (h : WRow B w av cv l) (hl : ∀ o ∈ l, WkL w o) : WksAt w av l := fun k hk => by
 rcases h.2 with ⟨_, h0⟩ | ⟨g, c', cur, e, _⟩
 ·omega
 ·simp only [Value.slice.injEq] at e
  have e1 := e.1
  subst e1
  have hc := h.cells (g := g) rfl
  have c : ∀ j v, j < 5 → (wkc l[k])[j]? = some v → w.cell? ⟨g, 0 + k * 5 + j, none⟩ = some v := fun j v hj hv => by
   have := hc (k * 5 + j) v (by rw [wkCells_at l k hk j hj]; exact hv)
   rw [Addr.add_lit, Nat.zero_add] at this
   rw [Nat.zero_add]
   exact this
  exact ⟨g, 0, rfl, c 0 _ (by omega) rfl, c 1 _ (by omega) rfl, c 2 _ (by omega) rfl, c 3 _ (by omega) rfl, c 4 _ (by omega) rfl, hl _ (List.getElem_mem hk)⟩
theorem info42 : (Tryz.prog.info? 42).map (fun i => (i.zero, i.size, i.bytes)) = some (some (.agg #[.int .i64 0, .int .i64 0, .slice none 0 0, .int .i64 0, .int .i64 0]), 5, 56) := by kernel_rfl
structure RI (w5 : World) (F : Nat → Prop) (s d m n : Nat) (S : St) (V : List Bk) (R : Rf) (l : List Wk) (wr : World) (av : Option Addr) (cv : Nat) (had : List Wk) : Prop where
 chg : Chg (fun k => k = m) w5 wr
 row : WRow w5.heap.size wr av cv had
 sub : ∀ o ∈ had, o ∈ l
 so : SO F wr s d m n S V R
 ok : HadOk had R
 lt : (∀ k, F k → k < w5.heap.size) ∧ s < w5.heap.size ∧ m < w5.heap.size
theorem RI.on {w5 : World} {F : Nat → Prop} {s d m n : Nat} {S : St} {V : List Bk} {R : Rf} {l : List Wk} {wr wr' : World} {av : Option Addr} {cv : Nat} {had : List Wk} (h : RI w5 F s d m n S V R l wr av cv had) (hb : Below wr.heap.size wr wr') : RI w5 F s d m n S V R l wr' av cv had :=
 ⟨h.chg.grow hb, own_keep h.row (fun b _ hb1 _ _ => hb.block b (Array.getElem?_eq_some_iff.1 hb1).1), h.sub, h.so.on hb, h.ok, h.lt⟩
theorem RI.put {w5 : World} {F : Nat → Prop} {s d m n : Nat} {S : St} {V : List Bk} {R : Rf} {l : List Wk} {w1 w2 w3 w4 : World} {av : Option Addr} {cv : Nat} {had : List Wk} (h : RI w5 F s d m n S V R l w1 av cv had) {o : Wk} (ho : o ∈ l) (hno : ∀ j (hj : j < had.length), ¬ (had[j].x = o.x ∧ had[j].z = o.z)) (hfit : resN R E0 o.x o.z (cellsW o) ≤ 40)
  (hC : Chg (fun k => k = m) w1 w2) (hS : SO F w2 s d m (n + 1) S V (R.put o.x o.z (needS (datB (cellsW o)).length : Int))) (hb : Below w2.heap.size w2 w3) {ga c' : Nat} (hr : w4.ownsRow w5.heap.size 42 5 (.slice (some ⟨ga, 0, none⟩) (had.length + 1 : Nat) c') (had.length + 1) (wkCells had ++ wkc o)) (hgr : w3.grownBy w4 (Value.ownBlock (.slice av had.length cv))) :
  RI w5 F s d m (n + 1) S V (R.put o.x o.z (needS (datB (cellsW o)).length : Int)) l w4 (some ⟨ga, 0, none⟩) c' (had ++ [o]) := by
 have hrow2 : w2.ownsRow w5.heap.size 42 5 (.slice av had.length cv) had.length (wkCells had) := own_keep h.row (fun b _ hb1 hB _ => hC.block b (Array.getElem?_eq_some_iff.1 hb1).1 (fun e => by have := h.lt.2.2; omega))
 have hrow3 : w3.ownsRow w5.heap.size 42 5 (.slice av had.length cv) had.length (wkCells had) := own_keep hrow2 (fun b cur hb1 _ _ => hb.block b (Array.getElem?_eq_some_iff.1 hb1).1)
 have hb4 : Below w5.heap.size w3 w4 := below_grown ((Below.refl w3.heap.size w3).mono (Nat.le_trans h.chg.size (Nat.le_trans hC.size hb.size))) hgr (fun b e => (row_block_of hrow3 e).1) (Nat.le_trans h.chg.size (Nat.le_trans hC.size hb.size))
 have hS3 := hS.on hb
 have hA := (h.chg.idem hC).grow hb
 refine ⟨⟨hb4.os.trans hA.os, hb4.tape.trans hA.tape, hb4.output.trans hA.output, Nat.le_trans hA.size hb4.size, fun k hk hf => (hb4.block k hk).trans (hA.block k hk hf)⟩, ?_, fun q hq => ?_, ?_, had_next h.ok hno hfit, h.lt⟩
 ·unfold WRow
  rw [wkCells_append]
  simp only [List.length_append, List.length_cons, List.length_nil, Nat.zero_add]
  show w4.ownsRow _ 42 5 _ _ (wkCells had ++ (wkc o ++ []))
  rw [List.append_nil]
  exact hr
 ·rcases List.mem_append.1 hq with hq | hq
  ·exact h.sub q hq
  ·obtain rfl := List.mem_singleton.1 hq
   exact ho
 ·exact hS3.keep (fun k hk => hb4.block k (h.lt.1 k hk)) (hb4.block s h.lt.2.1) (hb4.block m h.lt.2.2) hgr.size
end Go.Proofs.YtlllmmceoeihkaaGreat
set_option maxRecDepth 20000
namespace Go.Proofs.YtlllmmceoeihkaaGreat
open Go.RowKit
set_option maxHeartbeats 4000000 in
theorem storeReserves_l (w : World) (a : Option Addr) (n c : Nat) (l : List Wk) (hW : WksAt w a l) (hl : l.length = n) (hn : n ≤ maxLen) : Calls Tryz.prog 6 #[.slice a n c] w fun e w' => e = .returned (.bool true) ∧ Below w.heap.size w w' := by
 obtain ⟨Post, hPost⟩ : ∃ Post : Ending → World → Prop, Post = fun e w' => e = .returned (.bool true) ∧ Below w.heap.size w w' := ⟨_, rfl⟩
 rw [← hPost]
 have HP : Hid (∀ w', Below w.heap.size w w' → Post (.returned (.bool true)) w') := fun w' h => by rw [hPost]; exact ⟨rfl, h⟩
 clear hPost
 have HW : Hid (WksAt w a l) := hW
 have Hl : Hid (l.length = n) := hl
 have hmx : n ≤ 9223372036854775807 := hn
 clear hW hl hn
 go_enter Tryz.func6, Tryz.ntmps6
 go_wp2_with fail
 refine (awake_l _).mono ?_
 rintro _ w1 ⟨rfl, hb1⟩
 replace HP : Hid (∀ w', Below w1.heap.size w1 w' → Post (.returned (.bool true)) w') := fun w' h => HP.out w' (hb1.trans (h.mono hb1.size))
 have HW1 : Hid (WksAt w1 a l) := HW.out.on hb1
 clear hb1 HW
 go_wp2_with fail
 refine (new_c w1).mono ?_
 rintro _ w2 ⟨⟨d, F, rfl, hD, hF, hdl⟩, hb2⟩
 have HD : Hid (LD w1.heap.size w2 d St.new E0) := ld_new hD hF hdl
 have HB2 : Hid (Below w1.heap.size w1 w2) := hb2
 clear hD hF hdl hb2
 go_wp2_with fail
 refine (inner_c a n c l w2 (HW1.out.on HB2.out) Hl.out hmx).mono ?_
 rintro _ w3 ⟨hb3, hnr⟩
 have HB3 : Hid (Below w1.heap.size w1 w3) := HB2.out.trans (hb3.mono HB2.out.size)
 have HD3 : Hid (LD w1.heap.size w3 d St.new E0) := HD.out.on hb3
 clear hb3 HD HB2
 obtain ⟨nb, rfl, HNr⟩ : ∃ nb : Bool, _ = Ending.returned (Value.bool nb) ∧ Hid (nb = true → ∀ o ∈ l, Near o) := by
  rcases hnr with ⟨h1, h2⟩ | ⟨h1, h2⟩
  ·exact ⟨true, h1, fun _ => h2⟩
  ·exact ⟨false, h1, fun h => by cases h⟩
 clear hnr
 by_cases h6 : 6 < n
 ·have h6' : (6 : Int) < (n : Int) := by omega
  have R := HP.out w3 HB3.out
  clear HP HW1 HD3 HB3 HNr Hl
  go_wp2
  exact R
 have h6' : ¬ (6 : Int) < (n : Int) := by omega
 cases nb with
 | false =>
   have R := HP.out w3 HB3.out
   clear HP HW1 HD3 HB3 HNr Hl
   go_wp2
   exact R
 | true =>
 replace HNr : Hid (∀ o ∈ l, Near o) := HNr.out rfl
 have hop := lopen_c HD3.out HB3.out.size ⟨rfl, rfl⟩ (by decide)
 clear HD3
 go_wp2_with fail
 refine hop.mono ?_
 clear hop
 rintro _ w5 ⟨hb5, s, S5, rfl, hS5, hf5, hw5⟩
 have HB5 : Hid (Below w1.heap.size w1 w5) := HB3.out.trans hb5
 have hwz : S5.writes ≤ 2000 := by have : St.new.writes = 0 := rfl; omega
 have Hf5 : Hid S5.free := hf5
 obtain ⟨F5, V, m, n5, hSO, hHas, hF5, hs5, hm5, hn5⟩ := hS5.it
 obtain rfl : n5 = 0 := by omega
 have HHas : Hid (Has V E0) := hHas
 have HBs : Hid ((∀ k, F5 k → w1.heap.size ≤ k) ∧ w1.heap.size ≤ s ∧ w1.heap.size ≤ m) := ⟨hF5, hs5, hm5⟩
 have HI0 : Hid (RI w5 F5 s d m 0 S5 V R0 l w5 none 0 []) := ⟨Chg.refl _ _, World.ownsRow_nil w5 w5.heap.size 42 5, fun o ho => (by cases ho), hSO, had_nil, hSO.lt, hSO.lts.1, hSO.lts.2⟩
 have HW5 : Hid (∀ W, Chg (fun k => k = m) w5 W → WksAt W a l) := fun W hC => by
  refine HW1.out.on ⟨hC.os.trans HB5.out.os, hC.tape.trans HB5.out.tape, hC.output.trans HB5.out.output, Nat.le_trans HB5.out.size hC.size, fun k hk => ?_⟩
  rw [hC.block k (Nat.lt_of_lt_of_le hk HB5.out.size) (fun e => by omega)]
  exact HB5.out.block k hk
 clear hS5 hSO hHas hF5 hs5 hm5 hn5 hb5 hf5 hw5 HB3 HW1
 go_wp2
 go_loopw [8, 9] (fun av iv wr => ∃ (k : Nat) (ra : Option Addr) (rc : Nat) (R : Rf) (had : List Wk), av = .slice ra (had.length : Nat) rc ∧ iv = .int .i64 (k : Int) ∧ k ≤ n ∧ had.length ≤ k ∧ Hid (RI w5 F5 s d m had.length S5 V R l wr ra rc had)) (fun _ iv _ => n - (intOf iv).toNat)
 case atStart => exact ⟨0, none, 0, R0, [], rfl, rfl, Nat.zero_le _, Nat.zero_le _, HI0.out⟩
 case round =>
  obtain ⟨k, ra, rc, R, had, rfl, rfl, hk, hhk, HI⟩ := hrel
  by_cases hlt : k < n
  ·have hlt' : (k : Int) < (n : Int) := by omega
   have hkl : k < l.length := by rw [Hl.out]; exact hlt
   obtain ⟨lb, lo, rfl, hat0⟩ := (HW5.out wr HI.out.chg) k hkl
   clear hat0
   have HA : Hid (∀ W, Chg (fun k => k = m) w5 W → WkAt W lb lo k l[k]) := fun W hC => by
    obtain ⟨b, off, e, h⟩ := (HW5.out W hC) k hkl
    cases e
    exact h
   have HHd : Hid (∀ W, Chg (fun k => k = m) w5 W → WRow w5.heap.size W ra rc had → WksAt W ra had) := fun W hC hr => hr.wks (fun o ho => by
    obtain ⟨j, hj, rfl⟩ := List.mem_iff_getElem.1 (HI.out.sub o ho)
    obtain ⟨_, _, _, h⟩ := (HW5.out W hC) j hj
    exact h.l)
   have Hmem : Hid (l[k] ∈ l) := List.getElem_mem hkl
   have HNk : Hid (Near l[k]) := HNr.out _ (List.getElem_mem hkl)
   have Hok : Hid ((cellsW l[k]).length = 32768 ∧ K.Kinds (cellsW l[k])) := cellsW_ok _
   obtain ⟨o, hoe⟩ : ∃ o, o = l[k] := ⟨_, rfl⟩
   rw [← hoe] at HA Hmem HNk Hok
   clear hoe
   obtain ⟨wo, hwo⟩ : ∃ wo : World, wo = wr := ⟨_, rfl⟩
   rw [← hwo] at HI ⊢
   clear hwo wr
   go_wp2
   go_loopw [10, 11] (fun tv jv wr => ∃ (j : Nat) (β : Bool), tv = .bool β ∧ jv = .int .i64 (j : Int) ∧ j ≤ had.length ∧ Hid (Below wo.heap.size wo wr) ∧ Hid (β = false → ∀ i (h : i < had.length), i < j → ¬ (had[i].x = o.x ∧ had[i].z = o.z))) (fun _ jv _ => had.length - (intOf jv).toNat)
   case atStart => exact ⟨0, false, rfl, rfl, Nat.zero_le _, Below.refl _ _, fun _ i _ hi => absurd hi (by omega)⟩
   case round =>
    obtain ⟨j, β, rfl, rfl, hj, HJ, HNm⟩ := hrel
    have HI2 : Hid _ := HI.out.on HJ.out
    by_cases hjl : j < had.length
    ·have hjl' : (j : Int) < (had.length : Int) := by omega
     obtain ⟨hb, hof, rfl, hat⟩ := HHd.out wr HI2.out.chg HI2.out.row j hjl
     have h0 := hat.c0
     have h1 := hat.c1
     have hA := HA.out wr HI2.out.chg
     have c0 := hA.c0
     have c1 := hA.c1
     have HDr : Hid (∀ nq, Below wo.heap.size wo (wr.drewN nq)) := fun nq => HJ.out.trans ((Z.below_drewN wr nq).mono HJ.out.size)
     obtain ⟨q, hq⟩ : ∃ q, q = had[j] := ⟨_, rfl⟩
     rw [← hq] at h0 h1
     have Hq : Hid (q = had[j]) := hq
     clear hat hA hq HI2 HJ HHd HA HW5 HI
     cases β with
     | true =>
       go_wp2
       go_big_quiet (fail)
       go_wp2
       go_roundw
       case rel => exact ⟨j + 1, true, rfl, by go_num, by omega, HDr.out nq, (fun h => (by cases h))⟩
       case measure => simp [intOf]; omega
     | false =>
       by_cases hx : q.x = o.x
       ·by_cases hz : q.z = o.z
        ·rw [hx] at h0
         rw [hz] at h1
         go_wp2
         go_big_quiet (fail)
         go_wp2
         go_roundw
         case rel => exact ⟨j + 1, true, rfl, by go_num, by omega, HDr.out nq, (fun h => (by cases h))⟩
         case measure => simp [intOf]; omega
        ·rw [hx] at h0
         have HNe : Hid (∀ i (h : i < had.length), i < j + 1 → ¬ (had[i].x = o.x ∧ had[i].z = o.z)) := fun i hi hij => (by
          by_cases e : i = j
          ·subst e; rw [← Hq.out]; exact fun h => hz h.2
          ·exact HNm.out rfl i hi (by omega))
         clear HNm
         go_wp2
         go_big_quiet (fail)
         go_wp2
         go_roundw
         case rel => exact ⟨j + 1, false, rfl, by go_num, by omega, HDr.out nq, (fun _ => HNe.out)⟩
         case measure => simp [intOf]; omega
       ·have HNe : Hid (∀ i (h : i < had.length), i < j + 1 → ¬ (had[i].x = o.x ∧ had[i].z = o.z)) := fun i hi hij => (by
         by_cases e : i = j
         ·subst e; rw [← Hq.out]; exact fun h => hx h.1
         ·exact HNm.out rfl i hi (by omega))
        clear HNm
        go_wp2
        go_big_quiet (fail)
        go_wp2
        go_roundw
        case rel => exact ⟨j + 1, false, rfl, by go_num, by omega, HDr.out nq, (fun _ => HNe.out)⟩
        case measure => simp [intOf]; omega
    ·obtain rfl : j = had.length := by omega
     have HI3 : Hid _ := HI2.out
     have HNo : Hid (β = false → ∀ i (h : i < had.length), ¬ (had[i].x = o.x ∧ had[i].z = o.z)) := fun h i hi => HNm.out h i hi hi
     have hA := HA.out wr HI3.out.chg
     have c0 := hA.c0
     have c1 := hA.c1
     have c2 := hA.c2
     have c3 := hA.c3
     have c4 := hA.c4
     have hce := lcells_c o wr hA.l
     clear hA HI2 HJ HI HNm HHd HW5
     go_wp2_with fail
     refine hce.mono ?_
     clear hce c0 c1 c2 c3 c4
     rintro _ v1 ⟨hb1, g, _, rfl, hBk⟩
     have hfr := K.from_c (some ⟨g, 0, none⟩) 32768 32768 (cellsW o) v1 (K.Bytes.src (kblk_bytes hBk Hok.out)) (by omega)
     have HI4 : Hid _ := HI3.out.on hb1
     clear HI3 hb1 hBk
     go_wp2_with fail
     refine hfr.mono ?_
     clear hfr
     rintro _ v2 ⟨hb2, ⟨_, rfl, hCh⟩ | ⟨h0, _⟩⟩
     rotate_left
     ·exact absurd (K.Kinds.may Hok.out.2 Hok.out.1) h0
     have HI5 : Hid _ := HI4.out.on hb2
     have HCh : Hid (K.Blk v2 v1.heap.size 122 (cellsW o)) := hCh
     clear hb2 hCh HI4
     generalize v1.heap.size = cg at *
     clear v1
     have hA := HA.out v2 HI5.out.chg
     have c0 := hA.c0
     have c1 := hA.c1
     clear hA
     cases β with
     | true =>
       clear HNo HA HNk Hok HCh c0 c1
       go_wp2
       go_roundw
       case rel => exact ⟨k + 1, _, _, R, had, rfl, by go_num, by omega, by omega, HI5.out⟩
       case measure => simp [intOf]; omega
     | false =>
       have hrs := reserve_c HI5.out.so HHas.out HI5.out.ok.ok Hf5.out.1 (by unfold maxLen; omega) HNk.out.1 HNk.out.2 HCh.out Hok.out.1 Hok.out.2
       go_wp2_with fail
       refine hrs.mono ?_
       clear hrs c0 c1 HCh
       rintro _ v3 (⟨_, rfl, hb3⟩ | ⟨hft, rfl, hC3, hS3⟩)
       ·have HI6 : Hid _ := HI5.out.on hb3
        clear hb3 HNo HA HNk Hok HI5
        go_wp2
        go_roundw
        case rel => exact ⟨k + 1, _, _, R, had, rfl, by go_num, by omega, by omega, HI6.out⟩
        case measure => simp [intOf]; omega
       ·have hA := HA.out v3 (HI5.out.chg.idem hC3)
        have c0 := hA.c0
        have c1 := hA.c1
        have c2 := hA.c2
        have c3 := hA.c3
        have c4 := hA.c4
        have hrow3 : v3.ownsRow w5.heap.size 42 5 (.slice ra had.length rc) had.length (wkCells had) := own_keep HI5.out.row (fun b _ hb1 hB _ => hC3.block b (Array.getElem?_eq_some_iff.1 hb1).1 (fun e => by have := HI5.out.lt.2.2; omega))
        have hal : Below v3.heap.size v3 (v3.alloc (.cells #[.int .i64 o.x, .int .i64 o.z, .slice o.a o.n o.c, .int .i64 o.ev, .int .i64 o.mn] 42)) := (Below.refl _ _).alloc (Nat.le_refl _) _
        have Hrow : Hid _ := own_keep hrow3 (fun b _ hb1 _ _ => hal.block b (Array.getElem?_eq_some_iff.1 hb1).1)
        have Hal : Hid _ := hal
        have Hnw : Hid _ := heap_alloc_new v3 (.cells #[.int .i64 o.x, .int .i64 o.z, .slice o.a o.n o.c, .int .i64 o.ev, .int .i64 o.mn] 42)
        have Hsz : Hid (w5.heap.size ≤ (v3.alloc (.cells #[.int .i64 o.x, .int .i64 o.z, .slice o.a o.n o.c, .int .i64 o.ev, .int .i64 o.mn] 42)).heap.size) := Nat.le_trans HI5.out.chg.size (Nat.le_trans hC3.size hal.size)
        have HS3 : Hid (Chg (fun k => k = m) v2 v3 ∧ SO F5 v3 s d m (had.length + 1) S5 V (R.put o.x o.z (needS (datB (cellsW o)).length : Int)) ∧ resN R E0 o.x o.z (cellsW o) ≤ 40) := ⟨hC3, hS3, hft⟩
        clear hA hrow3 hal hC3 hS3 hft HA HNk Hok
        have hh6 : had.length ≤ 6 := by omega
        go_wp2_with (at_builtin; (refine wpList_append_one Tryz.underlying35 info42 rfl (by decide) (by decide) rfl _ _ rfl w5.heap.size ra rc had.length (wkCells had) rfl Hrow.out v3.heap.size 1 [.int .i64 o.x, .int .i64 o.z, .slice o.a o.n o.c, .int .i64 o.ev, .int .i64 o.mn] rfl Hnw.out rfl (by intro u hu; simp at hu; rcases hu with rfl | rfl | rfl | rfl | rfl <;> rfl) (by omega) Hsz.out ?_; clear Hnw Hsz; intro ga cc v4 hrow hgr _ _; have HN : Hid _ := HI5.out.put Hmem.out (HNo.out (by first | exact rfl | trivial)) HS3.out.2.2 HS3.out.1 HS3.out.2.1 Hal.out hrow hgr; clear hrow hgr Hal HS3 HNo HI5 Hrow))
        go_roundw
        case rel => exact ⟨k + 1, _, _, _, had ++ [o], by rw [List.length_append]; rfl, by go_num, by omega, by simp; omega, by have := HN.out; rwa [show had.length + 1 = (had ++ [o]).length by simp] at this⟩
        case measure => simp [intOf]; omega
  ·obtain rfl : k = n := by omega
   have HI3 : Hid _ := HI.out
   have hWk : WksAt wr ra had := HI.out.row.wks (fun o ho => by
    obtain ⟨j, hj, rfl⟩ := List.mem_iff_getElem.1 (HI.out.sub o ho)
    obtain ⟨_, _, _, h⟩ := (HW5.out wr HI.out.chg) j hj
    exact h.l)
   have hed := edits_c ra had.length rc had wr hWk rfl (by omega)
   clear HW5 hWk HI HNr Hl HI0
   go_wp2_with fail
   refine hed.mono ?_
   clear hed
   rintro _ w6 ⟨hb6, ea, ec, es, rfl, hrow, hof⟩
   have hes : es.length ≤ 6 := by have := hof.1; omega
   have hLS : LS w1.heap.size w6 s d S5 E0 R had.length := ⟨F5, V, m, had.length, HI3.out.so.on hb6, HHas.out, HBs.out.1, HBs.out.2.1, HBs.out.2.2, Nat.le_refl _⟩
   have hsv := lsave_c hLS (Nat.le_trans HB5.out.size (Nat.le_trans HI3.out.chg.size hb6.size)) Hf5.out (c := ec) hrow.eds hes (fun e he => (hrow.dat e he).2.2.2.1) (fun e he => (hrow.dat e he).2.2.2.2) (by omega)
   have hcore := of_core hof
   have honce := once_core es
   have hfits := fits_core E0 es
   rw [hcore] at honce hfits
   have Hgood : Hid (Once es ∧ fits E0 es) := ⟨honce.1 HI3.out.ok.once, hfits.1 HI3.out.ok.fit⟩
   have HB6 : Hid (Below w1.heap.size w1 w6) := HB5.out.trans ((chg_below HI3.out.chg (fun k e => by have := HBs.out.2.2; omega) HB5.out.size).trans (hb6.mono (Nat.le_trans HB5.out.size HI3.out.chg.size)))
   clear hcore honce hfits hLS hrow hof hb6 HI3 HHas HBs HB5 Hf5
   go_wp2_with fail
   refine hsv.mono ?_
   clear hsv
   rintro _ w7 ⟨hb7, ⟨Er, rfl, _, _, hno, _⟩ | ⟨_, _, rfl, _⟩⟩
   ·exact absurd Hgood.out hno
   ·have R := HP.out w7 (HB6.out.trans hb7)
    clear HP Hgood HB6 hb7
    go_wp2
    exact R
end Go.Proofs.YtlllmmceoeihkaaGreat
