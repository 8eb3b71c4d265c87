/-
  The laws' awake: the chapter's example.
  StoreBack.
  StoreSlots.
  The law's look at both stores: loads.
  The law's look at a region: whole.
  The law's look at all chunks: all.
  A store and a disk through power cuts; all of theirs lies outside of what the law holds.
  The document's Reserve.
  StoreWhole.
  Both stores, and a call of both: does.
-/
import Derived.Test.YtlllmmceoeihkaaGreatRv
import Derived.Lib.Bytes
import Derived.Test.YtlllmmceoeihkaaGreatSp
import Derived.Deep.DeepCutAuto
import Derived.Test.YtlllmmceoeihkaaGreatKRenp
import Derived.Test.YtlllmmceoeihkaaGreatRw
import Derived.Test.YtlllmmceoeihkaaGreatJSrcs
set_option maxRecDepth 20000
namespace Go.Proofs.YtlllmmceoeihkaaGreat
open Go.RowKit
theorem runN_rep (c:Int) (rest:List Int) (h:rest.head?≠some c):∀ n,K.runN c (List.replicate n c++rest)=n
 | 0 => by
   cases rest with
   | nil=>rfl
   | cons x r =>
     show K.runN c (x::r)=0
     unfold K.runN
     rw [if_neg (fun e=>h (by rw [e];rfl))]
 | n+1=>by
   rw [List.replicate_succ,List.cons_append]
   unfold K.runN
   rw [if_pos rfl,runN_rep c rest h n]
theorem encR_rep (l:List Int) (c:Int) (rest:List Int) (h:rest.head?≠some c) (n:Nat):K.encR l (List.replicate (n+1) c++rest)=K.putL ((n+1:Nat):Int)++(K.plc l c:Int)::K.encR l rest:=by
 rw [List.replicate_succ,List.cons_append,K.encR_cons,runN_rep c rest h n]
 congr 2
 rw [List.drop_append,List.drop_of_length_le (by simp),List.length_replicate,Nat.sub_self]
 rfl
def cellsN (n:Nat):List Int:=List.replicate 5 16++(List.replicate 1 3++(List.replicate (n+1) 16++[]))
theorem head_rep (c:Int) (n:Nat) (r:List Int):(List.replicate (n+1) c++r).head?=some c:=by rw [List.replicate_succ];rfl
theorem enc_cellsN (n:Nat) (hp3:(K.putL ((n+1:Nat):Int)).length<=3):(K.encL (cellsN n)).length<=27:=by
 have h1:(K.oneL (cellsN n)).length<=27:=by
  unfold K.oneL cellsN
  have hp:=K.pal_len (List.replicate 5 16++(List.replicate 1 3++(List.replicate (n+1) 16++[])))
  generalize K.pal (List.replicate 5 16++(List.replicate 1 3++(List.replicate (n+1) 16++[])))=pl at *
  rw [encR_rep pl 16 _ (by rw [head_rep 3 0];decide) 4,encR_rep pl 3 _ (by rw [head_rep 16 n];decide) 0,encR_rep pl 16 _ (by simp) n,K.encR_nil]
  rw [show K.putL ((4+1:Nat):Int)=[5] by decide,show K.putL ((0+1:Nat):Int)=[1] by decide]
  unfold K.headL
  simp only [List.length_append,List.length_cons,List.length_nil]
  omega
 unfold K.encL
 split
 ·exact h1
 ·rename_i h
  have:=K.wid_is (K.pal (cellsN n)).length
  omega
theorem set_repN (n:Nat):(List.replicate (n+7) (16:Int)).set 5 3=cellsN n:=by
 unfold cellsN
 rw [List.append_nil]
 rfl
def cells0:List Int:=cellsN 32761
theorem enc_cells0:(K.encL cells0).length<=27:=enc_cellsN 32761 (by decide)
theorem cellsW0 (a:Option Addr):cellsW ⟨0,0,a,1,1,[(5,3)],0,0⟩=cells0:=by
 unfold cells0
 rw [<- set_repN 32761]
 show fill2 (fill1 (remN 0 60+2) (remN 0 700)) [(5,3)] 1=_
 rw [show remN 0 700=0 by decide]
 show (List.replicate 32768 (16:Int)).set (remN 5 32768) ((remN 3 17:Nat):Int)=_
 rw [show remN 5 32768=5 by decide,show remN 3 17=3 by decide]
 rfl
theorem sumN_le {f g:Nat->Nat}:∀ {n:Nat},(∀ i,i<n->f i<=g i)->sumN f n<=sumN g n
 | 0,_=>Nat.le_refl _
 | n+1,h=>by
   have h1:=sumN_le (f:=f) (g:=g) (n:=n) (fun i hi=>h i (by omega))
   have h2:=h n (by omega)
   show sumN f n+f n<=sumN g n+g n
   omega
theorem fits_one (e:Eb) (h:e.ok) (hl:(K.encL e.b).length<=1000):fits E0 [e]:=by
 intro q hq
 obtain rfl:=List.mem_singleton.1 hq
 unfold fitR
 rw [needAll_reg]
 have h1:sumN (fun i=>needS (encK (setE E0 [q] (ownX (q.x/4) i) (ownZ (q.z/4) i))).length) 16<=sumN (fun i=>if i=slotN q.x q.z then 32 else 0) 16:=by
  refine sumN_le (fun i hi=>?_)
  show needS (encK ((E0.put q.x q.z q.cells) _ _)).length<=_
  unfold Ed.put
  by_cases hx:ownX (q.x/4) i=q.x∧ownZ (q.z/4) i=q.z
  ·rw [if_pos hx,if_pos ((own_eq hi).1 hx).2.2,Eb.dat_enc q h]
   unfold Eb.dat
   split
   ·decide
   ·unfold needS;omega
  ·rw [if_neg hx]
   show needS (encK []).length<=_
   exact Nat.zero_le _
 rw [sumN_one (slotN_lt _ _)] at h1
 omega
theorem i64_lit {x:Int} (h : -1000000<=x∧x<=1000000):I64 x:=⟨by omega,by omega⟩
theorem once_one (e:Eb):Once [e]:=List.pairwise_singleton _ _
set_option maxHeartbeats 4000000 in
theorem awake_l (w:World):Calls Tryz.prog 9 #[] w fun e w'=>e = .returned (.bool true)∧Below w.heap.size w w':=by
 obtain ⟨Post,hPost⟩:∃ Post:Ending->World->Prop,Post=fun e w'=>e = .returned (.bool true)∧Below w.heap.size w w':=⟨_,rfl⟩
 rw [<- hPost]
 have HP:Hid (∀ w',Below w.heap.size w w'->Post (.returned (.bool true)) w'):=fun w' h=>by rw [hPost];exact ⟨rfl,h⟩
 clear hPost
 go_enter Tryz.func9,Tryz.ntmps9
 go_wp2_with fail
 refine (new_c w).mono ?_
 rintro _ w1 ⟨⟨d,F,rfl,hD,hF,hl⟩,hb1⟩
 have hL1:LD w.heap.size w1 d St.new E0:=ld_new hD hF hl
 have hop:=lopen_c hL1 hb1.size ⟨rfl,rfl⟩ (by decide)
 have Hb1:Hid (Below w.heap.size w w1):=hb1
 clear hD hF hl hL1 hb1
 go_wp2_with fail
 refine hop.mono ?_
 clear hop
 rintro _ w2 ⟨hb2,s,S2,rfl,hS2,hf2,hw2⟩
 have Hb2:Hid (Below w.heap.size w w2):=Hb1.out.trans hb2
 have Hf2:Hid S2.free:=hf2
 have hwr:S2.writes<=2000:=by have:St.new.writes=0:=rfl;omega
 obtain ⟨G,hG,hsv⟩:=lsaveg_c hS2 (Nat.le_trans (Nat.le_refl _) (Nat.le_trans Hb1.out.size hb2.size)) hf2 (by omega)
 have HG:Hid (∀ k,G k->k<w2.heap.size):=hG
 have HSV:Hid _:=hsv
 clear Hb1 hb2 hf2 hw2 hS2 hG hsv
 go_wp2_with fail
 have hbc:Below w2.heap.size w2 (w2.alloc (.cells #[.int .i64 5,.int .i64 3] 80)):=(Below.refl _ _).alloc (Nat.le_refl _) _
 have hcx:=heap_alloc_new w2 (.cells #[.int .i64 5,.int .i64 3] 80)
 have hwk:WkL (w2.alloc (.cells #[.int .i64 5,.int .i64 3] 80)) ⟨0,0,some ⟨w2.heap.size,0,none⟩,1,1,[(5,3)],0,0⟩:=by
  refine ⟨rfl,fun k hk=>?_,⟨@i64_lit 0 (by omega),@i64_lit 0 (by omega),@i64_lit 0 (by omega),@i64_lit 0 (by omega)⟩,by show (1:Nat)<=_;unfold maxLen;omega⟩
  obtain rfl:k=0:=by simp at hk;exact hk
  refine ⟨w2.heap.size,0,rfl,?_,?_⟩
  ·rw [cell_of_row _ _ _ _ 80 (0,0) hcx];rfl
  ·rw [cell_of_row _ _ _ _ 80 (0,0) hcx];rfl
 refine (lcells_c ⟨0,0,some ⟨w2.heap.size,0,none⟩,1,1,[(5,3)],0,0⟩ _ hwk).mono ?_
 rintro _ w3 ⟨hb3,g,hg,rfl,hBk⟩
 rw [cellsW0] at hBk
 have Hok:Hid (cells0.length=32768∧K.Kinds cells0):=by have:=cellsW_ok ⟨0,0,none,1,1,[(5,3)],0,0⟩;rwa [cellsW0] at this
 have Hel:Hid ((K.encL cells0).length<=1000):=by have:=enc_cells0;show _<=_;omega
 have Hnn:Hid (Z.noneB cells0=false):=by
  show _=_
  unfold Z.noneB
  rw [List.all_eq_false]
  refine ⟨3,?_,by decide⟩
  unfold cells0 cellsN
  exact List.mem_append_right _ (List.mem_append_left _ (by decide))
 generalize cells0=cs at *
 have hb23:Below w2.heap.size w2 w3:=hbc.trans (hb3.mono hbc.size)
 have Hb3:Hid (Below w.heap.size w w3):=Hb2.out.trans (hb23.mono Hb2.out.size)
 have Hg2:Hid (w2.heap.size<=g):=Nat.le_trans hbc.size hg
 have Hb23:Hid (Below w2.heap.size w2 w3):=hb23
 have HBk:Hid (K.Blk w3 g 5 cs):=hBk
 clear hbc hcx hwk hb3 hg hBk hb23 Hb2
 go_wp2_with fail
 have hbe:Below w3.heap.size w3 (w3.alloc (.cells #[.int .i64 (-1),.int .i64 2,.slice (some ⟨g,0,none⟩) 32768 32768] 82)):=(Below.refl _ _).alloc (Nat.le_refl _) _
 have hex:=heap_alloc_new w3 (.cells #[.int .i64 (-1),.int .i64 2,.slice (some ⟨g,0,none⟩) 32768 32768] 82)
 have hbk4:=(hbe.block g (Array.getElem?_eq_some_iff.1 HBk.out).1).trans HBk.out
 have heds:EdsAt (w3.alloc (.cells #[.int .i64 (-1),.int .i64 2,.slice (some ⟨g,0,none⟩) 32768 32768] 82)) (some ⟨w3.heap.size,0,none⟩) [(⟨-1,2,some ⟨g,0,none⟩,32768,32768,cs⟩:Eb)]:=fun k hk=>by
  obtain rfl:k=0:=by simp at hk;exact hk
  refine ⟨w3.heap.size,0,rfl,?_,?_,?_,blk_bytes hbk4 (fun y hy=>by have:=Hok.out.2 y hy;omega) Hok.out.1,@i64_lit (-1) (by omega),@i64_lit 2 (by omega)⟩
  ·rw [cell_of_row _ _ _ _ 82 (0,0) hex];rfl
  ·rw [cell_of_row _ _ _ _ 82 (0,0) hex];rfl
  ·rw [cell_of_row _ _ _ _ 82 (0,0) hex];rfl
 have hsv:=HSV.out _ (Hb23.out.trans (hbe.mono Hb23.out.size)) _ 1 _ heds (by simp) (fun e he=>by obtain rfl:=List.mem_singleton.1 he;exact Hok.out) (fun e he=>by obtain rfl:=List.mem_singleton.1 he;exact ⟨i64_lit (by show (-1000000:Int) <= -1∧(-1:Int)<=1000000;omega),i64_lit (by show (-1000000:Int)<=2∧(2:Int)<=1000000;omega)⟩)
 refine hsv.mono ?_
 clear hsv
 rintro _ w4 ⟨⟨hb4,⟨Er,rfl,_,_,hno,_⟩|⟨_,_,rfl,S4,hS4,hf4,hw4⟩⟩,hch⟩
 ·exact (hno ⟨once_one _,fits_one (⟨-1,2,some ⟨g,0,none⟩,32768,32768,cs⟩:Eb) Hok.out Hel.out⟩).elim
 have hE1:setE E0 [(⟨-1,2,some ⟨g,0,none⟩,32768,32768,cs⟩:Eb)] (-1) 2=cs:=by
  show (if (-1:Int) = -1∧(2:Int)=2 then Eb.cells (⟨-1,2,some ⟨g,0,none⟩,32768,32768,cs⟩:Eb) else E0 (-1) 2)=cs
  rw [if_pos ⟨rfl,rfl⟩]
  unfold Eb.cells
  simp only [Hnn.out]
  rfl
 have hE2:setE E0 [(⟨-1,2,some ⟨g,0,none⟩,32768,32768,cs⟩:Eb)] 3 2=[]:=by
  show (if (3:Int) = -1∧(2:Int)=2 then Eb.cells (⟨-1,2,some ⟨g,0,none⟩,32768,32768,cs⟩:Eb) else E0 3 2)=[]
  rw [if_neg (by decide)]
  rfl
 have hEO:EdOk (setE E0 [(⟨-1,2,some ⟨g,0,none⟩,32768,32768,cs⟩:Eb)]):=setE_ok ed0_ok (fun e he=>by obtain rfl:=List.mem_singleton.1 he;exact Hok.out)
 have HL1:Hid (∀ W,Below w4.heap.size w4 W->Calls Tryz.prog 27 #[.pointer (some ⟨s,0,none⟩),valA (-1) 2] W (LoadSay cs W)):=fun W hb=>by
  have:=lload_c (hS4.on hb) hEO hf4 (-1) 2 (i64_lit (by omega)) (i64_lit (by omega))
  rwa [hE1] at this
 have HL2:Hid (∀ W,Below w4.heap.size w4 W->Calls Tryz.prog 27 #[.pointer (some ⟨s,0,none⟩),valA 3 2] W (LoadSay [] W)):=fun W hb=>by
  have:=lload_c (hS4.on hb) hEO hf4 3 2 (i64_lit (by omega)) (i64_lit (by omega))
  rwa [hE2] at this
 have Hb4:Hid (Below w.heap.size w w4):=(Hb3.out.trans (hbe.mono Hb3.out.size)).trans hb4
 have hgk:w4.heap[g]?=_:=(hch.block g (Array.getElem?_eq_some_iff.1 hbk4).1 (fun h=>by have:=HG.out g h;have:=Hg2.out;omega)).trans hbk4
 have HBk4:Hid (∀ W,Below w4.heap.size w4 W->K.Blk W g 5 cs):=fun W hb=>(hb.block g (Array.getElem?_eq_some_iff.1 hgk).1).trans hgk
 clear hbe hex hbk4 heds hb4 hS4 hf4 hE1 hE2 hEO HSV HG Hg2 Hb23 HBk Hb3 Hel Hnn Hf2 hch hgk
 go_wp2_with fail
 refine (HL1.out _ (Below.refl _ _)).mono ?_
 rintro _ w5 ⟨hb5,⟨h0,_⟩|⟨_,g5,_,rfl,hB5⟩⟩
 ·have:=Hok.out.1;rw [h0] at this;cases this
 have HB5:Hid (K.Blk w5 g5 122 cs):=hB5
 have Hb5:Hid (Below w4.heap.size w4 w5):=hb5
 clear hB5 hb5 HL1
 go_wp2_with fail
 refine (HL2.out _ Hb5.out).mono ?_
 rintro _ w6 ⟨hb6,⟨_,rfl⟩|⟨h0,_⟩⟩
 rotate_left
 ·exact absurd rfl h0
 have HB6:Hid (K.Blk w6 g5 122 cs):=(hb6.block g5 (Array.getElem?_eq_some_iff.1 HB5.out).1).trans HB5.out
 have HG6:Hid (K.Blk w6 g 5 cs):=HBk4.out _ (Hb5.out.trans (hb6.mono Hb5.out.size))
 have Hb6:Hid (Below w.heap.size w w6):=Hb4.out.trans ((Hb5.out.trans (hb6.mono Hb5.out.size)).mono Hb4.out.size)
 clear HB5 HBk4 hb6 HL2 Hb5 Hb4
 have HKB:Hid _:=fun (W:World) (h:K.Blk W g5 122 cs)=>K.bytes_c g5 cs W h Hok.out.1
 go_upto_region 11 with fail
 refine Z.region_L (fun u=>Below w6.heap.size w6 u) 99 (by kernel_rfl) ?_
 have hdr:Below w6.heap.size w6 w6.drew:=⟨rfl,rfl,rfl,Nat.le_refl _,fun _ _=>rfl⟩
 have h_va:(fun u=>Below w6.heap.size w6 u) w6.drew:=hdr
 clear hdr
 generalize w6.drew=va at *
 have hne:Nonempty (Z.Sub (fun u=>Below w6.heap.size w6 u)):=⟨⟨_,h_va⟩⟩
 have q0:∀ s:Z.Sub (fun u=>Below w6.heap.size w6 u),(convert 61 9 (.slice (some ⟨g,0,none⟩) 32768 32768)).run Tryz.prog s.w = .ok (.string (strOfNums cs)) s.w:=fun s=>by
  have h6:=HG6.out
  have hb:K.Blk s.w g 5 cs:=(s.ok.block g (Array.getElem?_eq_some_iff.1 h6).1).trans h6
  exact hb.conv Hok.out.1 Hok.out.2
 refine Z.gen_L (by intro d v c a w h;cases d <;> exact h) (fun QX HQP HQX=>?_)
 refine Z.ol 0 rfl fun K hK=>?_
 go_simp
 refine hK.out _ _ (fun _=>h_va) ?_
 clear hK K
 refine Z.ol 1 rfl fun K hK=>?_
 go_simp
 refine hK.out _ _ (fun _=>h_va) ?_
 clear hK K
 refine Z.ol 2 rfl fun K hK=>?_
 go_simp
 refine hK.out _ _ (fun _=>h_va) ?_
 clear hK K
 refine Z.ol 3 rfl fun K hK=>?_
 go_simp
 refine hK.out _ _ (fun _=>h_va) ?_
 clear hK K
 refine Z.ol 4 rfl fun K hK=>?_
 go_simp
 refine hK.out _ _ (fun _=>h_va) ?_
 clear hK K
 refine Z.ol 5 rfl fun K hK=>?_
 go_simp
 refine hK.out _ _ (fun _=>h_va) ?_
 clear hK K
 refine Z.ol 6 rfl fun K hK=>?_
 go_simp
 refine hK.out _ _ (fun _=>h_va) ?_
 clear hK K
 refine Z.ol 7 rfl fun K hK=>?_
 go_simp
 refine hK.out _ _ (fun _=>h_va) ?_
 clear hK K
 refine Z.ol 8 rfl fun K hK=>?_
 go_simp
 refine hK.out _ _ (fun _=>h_va) ?_
 clear hK K
 refine Z.ol 9 rfl fun K hK=>?_
 go_simp
 refine hK.out _ _ (fun _=>h_va) ?_
 clear hK K
 refine Z.ol 10 rfl fun K hK=>?_
 go_simp
 refine hK.out _ _ (fun _=>h_va) ?_
 clear hK K
 refine Z.tk 11 rfl HQP h_va fun K hK=>?_;go_simp;refine hK _ ?_;clear hK K
 refine Z.tk 14 rfl HQP h_va fun K hK=>?_;go_simp;refine hK _ ?_;clear hK K
 refine Z.tk 15 rfl HQP h_va fun K hK=>?_;go_simp;refine hK _ ?_;clear hK K
 refine Z.ol 12 rfl fun K hK=>?_
 go_simp
 go_simp
 have hB5:KB va g5 122 cs:=(Below.block h_va g5 (Array.getElem?_eq_some_iff.1 HB6.out).1).trans HB6.out
 refine (HKB.out _ hB5).mono ?_
 rintro _ v1 ⟨rfl,hBk,hb1⟩
 have h_v1:(fun u=>Below w6.heap.size w6 u) v1:=Below.trans h_va (hb1.mono (Below.size h_va))
 have hcv:=hBk.conv Hok.out.1 Hok.out.2
 refine hK.out _ _ (fun _=>h_v1) ?_
 clear hK K hB5 hBk hb1
 refine Z.ol 13 rfl fun K hK=>?_
 go_simp
 refine hK.out _ _ (fun _=>h_v1) ?_
 clear hK K
 refine Z.ol 16 rfl fun K hK=>?_
 go_simp
 refine hK.out _ _ (fun _=>h_v1) ?_
 clear hK K
 refine Z.ol 17 rfl fun K hK=>?_
 go_simp
 refine hK.out _ _ (fun _=>h_v1) ?_
 clear hK K
 refine Z.ol 18 rfl fun K hK=>?_
 go_simp
 refine hK.out _ _ (fun _=>h_v1) ?_
 clear hK K
 refine Z.ol 19 rfl fun K hK=>?_
 go_simp
 refine hK.out _ _ (fun _=>h_v1) ?_
 clear hK K
 refine Z.ol 20 rfl fun K hK=>?_
 go_simp
 refine hK.out _ _ (fun _=>h_v1) ?_
 clear hK K
 refine Z.ol 21 rfl fun K hK=>?_
 go_simp
 refine hK.out _ _ (fun _=>h_v1) ?_
 clear hK K
 refine Z.ol 22 rfl fun K hK=>?_
 go_simp
 refine hK.out _ _ (fun _=>h_v1) ?_
 clear hK K
 refine Z.ol 23 rfl fun K hK=>?_
 go_simp
 refine hK.out _ _ (fun _=>h_v1) ?_
 clear hK K
 refine Z.ol 24 rfl fun K hK=>?_
 go_simp
 refine hK.out _ _ (fun _=>h_v1) ?_
 clear hK K
 refine Z.ol 25 rfl fun K hK=>?_
 go_simp
 refine hK.out _ _ (fun _=>h_v1) ?_
 clear hK K
 refine Z.ol 26 rfl fun K hK=>?_
 go_simp
 refine hK.out _ _ (fun _=>h_v1) ?_
 clear hK K
 refine Z.done_L (by kernel_rfl) ?_ _
 refine HQX.out _ _ ?_
 clear HQX HQP QX
 have R:=HP.out _ (Hb6.out.trans (Below.mono h_v1 Hb6.out.size))
 clear HKB HP Hb6 HG6 HB6 Hok q0 h_v1
 go_simp
 go_wp2
 exact R
end Go.Proofs.YtlllmmceoeihkaaGreat
set_option maxRecDepth 20000
namespace Go.Proofs.YtlllmmceoeihkaaGreat
open Go.RowKit
theorem near_i64 {o:Wk} (h:Near o):I64 o.x∧I64 o.z:=⟨⟨by have:=h.1.1;omega,by have:=h.1.2;omega⟩,⟨by have:=h.2.1;omega,by have:=h.2.2;omega⟩⟩
theorem kblk_bytes {w:World} {p:Nat} {cs:List Int} (h:K.Blk w p 5 cs) (ho:cs.length=32768∧K.Kinds cs):K.Bytes w (some ⟨p,0,none⟩) 32768 cs :=
 (blk_bytes h (fun y hy=>by have:=ho.2 y hy;omega) ho.1).toK
end Go.Proofs.YtlllmmceoeihkaaGreat
set_option maxRecDepth 20000
namespace Go.Proofs.YtlllmmceoeihkaaGreat
open Go.RowKit
theorem blk_pfx {w:World} {p:Nat} {cs:List Int} (h:K.Blk w p 5 cs):K.Pfx w p cs:=by
 refine ⟨_,h,fun k hk=>?_⟩
 simp [K.vals,List.getD_eq_getElem?_getD,List.getElem?_eq_getElem hk]
theorem kbytes_conv {w:World} {a:Option Addr} {n c:Nat} {xs:List Int} (h:K.Bytes w a n xs):(convert 61 9 (.slice a n c)).run Tryz.prog w = .ok (.string (strOfNums xs)) w:=K.conv_c h.src
end Go.Proofs.YtlllmmceoeihkaaGreat
set_option maxRecDepth 20000
namespace Go.Proofs.YtlllmmceoeihkaaGreat
open Go.RowKit
open Z (Km RSt KRow Cz loadK)
theorem box_on (w:World) (x z:Int) {W:World} (hb:Below (w.alloc (.cells #[.int .i64 x,.int .i64 z] 39)).heap.size (w.alloc (.cells #[.int .i64 x,.int .i64 z] 39)) W):W.cell? ⟨w.heap.size,0,none⟩=some (.int .i64 x)∧W.cell? ⟨w.heap.size,1,none⟩=some (.int .i64 z):=by
 obtain ⟨_,h1,h2⟩:=Z.box_at w x z
 exact ⟨cell_below h1 hb,cell_below h2 hb⟩
set_option maxHeartbeats 2000000 in
theorem loads_c {F:Nat->Prop} {w:World} {s d m n:Nat} {S:St} {V:List Bk} {R:Rf} (h:SO F w s d m n S V R) {E:Ed} (hE:Has V E) (hO:EdOk E) (hf:S.out=false) {G:Nat->Prop} {B:Nat} {r:Nat} {L:List Km} {av:Option Addr} {cv:Nat} (hr:RSt G B w r L av cv) (x z:Int) (hx:I64 x) (hz:I64 z) :
  Calls Tryz.prog 14 #[.pointer (some ⟨s,0,none⟩),.pointer (some ⟨r,0,none⟩),valA x z] w fun e w'=>Below w.heap.size w w'∧∃ β:Bool,e = .returned (.bool β)∧(E x z=loadK L x z->β=true):=by
 obtain ⟨Post,hPost⟩:∃ Post:Ending->World->Prop,Post=fun e w'=>Below w.heap.size w w'∧∃ β:Bool,e = .returned (.bool β)∧(E x z=loadK L x z->β=true):=⟨_,rfl⟩
 rw [<- hPost]
 have HP:Hid (∀ w' β,(E x z=loadK L x z->β=true)->Below w.heap.size w w'->Post (.returned (.bool β)) w'):=fun w' β h1 h2=>by rw [hPost];exact ⟨h2,β,rfl,h1⟩
 clear hPost
 obtain ⟨hb0,k0⟩:=box_a w x z
 obtain ⟨c0,c1⟩:=box_on w x z (Below.refl _ _)
 have hld:=load_c (h.on hb0) hE hO hf x z hx hz
 have HLs:Hid (∀ W,Below w.heap.size w W->Calls Tryz.prog 39 #[.pointer (some ⟨r,0,none⟩),valA x z] W fun e w'=>Below W.heap.size W w'∧∃ a c,e = .returned (.slice a (loadK L x z).length c)∧Cz w' a c (loadK L x z)):=fun W hb=>Z.sload_c (hr.on hb) x z
 have Hok:Hid (E x z=[]∨((E x z).length=32768∧K.Kinds (E x z)∧Z.noneB (E x z)=false)):=hO x z
 have Hb0:Hid _:=hb0
 have HBx:Hid _ := @box_on w x z
 generalize loadK L x z=b' at *
 generalize E x z=b at *
 clear h hE hO hr hb0 k0 hf hx hz
 go_enter Tryz.func14,Tryz.ntmps14
 go_wp2_with fail
 refine hld.mono ?_
 clear hld c0 c1
 rintro _ w1 ⟨hb1,hres⟩
 obtain ⟨c0,c1⟩:=HBx.out hb1
 have Hb1:Hid (Below w.heap.size w w1):=Hb0.out.trans (hb1.mono Hb0.out.size)
 clear HBx Hb0 hb1
 rcases hres with ⟨hb,rfl⟩|⟨hb,g,hg,rfl,hB⟩
 ·go_wp2_with fail
  refine (HLs.out w1 Hb1.out).mono ?_
  clear HLs c0 c1
  rintro _ w2 ⟨hb2,a',c',rfl,hcz⟩
  have Hb2:Hid (Below w.heap.size w w2):=Hb1.out.trans (hb2.mono Hb1.out.size)
  clear hb2 Hb1
  rcases hcz with ⟨h0,rfl,rfl⟩|⟨p,rfl,hl,hlc,hcm,hk,hpf⟩
  ·rw [h0]
   have hl0:([]:List Int).length=0:=rfl
   rw [hl0]
   have HR:Hid (∀ w',Below w2.heap.size w2 w'->Post (.returned (.bool true)) w'):=fun w' hb=>HP.out w' true (fun _=>rfl) (Hb2.out.trans (hb.mono Hb2.out.size))
   clear HP Hok hb h0 hl0 Hb2
   go_upto_region 5 with fail
   refine Z.region_L (fun u=>Below w2.heap.size w2 u) 99 (by kernel_rfl) ?_
   have h_va:(fun u=>Below w2.heap.size w2 u) w2.drew:=(⟨rfl,rfl,rfl,Nat.le_refl _,fun _ _=>rfl⟩:Below w2.heap.size w2 w2.drew)
   generalize w2.drew=va at *
   have hne:Nonempty (Z.Sub (fun u=>Below w2.heap.size w2 u)):=⟨⟨_,h_va⟩⟩
   refine Z.gen_L (by intro d v c a w h;cases d <;> exact h) (fun QX HQP HQX=>?_)
   refine Z.ol 0 rfl fun K hK=>?_
   go_simp
   refine hK.out _ _ (fun _=>h_va) ?_
   clear hK K
   refine Z.ol 1 rfl fun K hK=>?_
   go_simp
   refine hK.out _ _ (fun _=>h_va) ?_
   clear hK K
   refine Z.ol 2 rfl fun K hK=>?_
   go_simp
   refine hK.out _ _ (fun _=>h_va) ?_
   clear hK K
   refine Z.tk 3 rfl HQP h_va fun K hK=>?_;go_simp;refine hK _ ?_;clear hK K
   refine Z.tk 4 rfl HQP h_va fun K hK=>?_;go_simp;refine hK _ ?_;clear hK K
   refine Z.tk 5 rfl HQP h_va fun K hK=>?_;go_simp;refine hK _ ?_;clear hK K
   refine Z.ol 6 rfl fun K hK=>?_
   go_simp
   refine hK.out _ _ (fun _=>h_va) ?_
   clear hK K
   refine Z.ol 7 rfl fun K hK=>?_
   go_simp
   refine hK.out _ _ (fun _=>h_va) ?_
   clear hK K
   refine Z.ol 8 rfl fun K hK=>?_
   go_simp
   refine hK.out _ _ (fun _=>h_va) ?_
   clear hK K
   refine Z.ol 9 rfl fun K hK=>?_
   go_simp
   refine hK.out _ _ (fun _=>h_va) ?_
   clear hK K
   refine Z.ol 10 rfl fun K hK=>?_
   go_simp
   refine hK.out _ _ (fun _=>h_va) ?_
   clear hK K
   refine Z.done_L (by kernel_rfl) ?_ _
   refine HQX.out _ _ ?_
   clear HQX HQP QX
   have R:=HR.out va h_va
   clear HR hne h_va
   go_wp2
   exact R
  ·have R:=HP.out w2 false (fun e=>by rw [hb] at e;rw [<- e] at hl;cases hl) Hb2.out
   have hne:(b'.length:Int)≠0:=by omega
   rw [hl]
   clear HP Hok hb hk hpf hlc hcm hne Hb2
   go_wp2
   exact R
 ·have HB:Hid (K.Blk w1 g 122 b):=hB
  have Hbn:Hid (b≠[]):=hb
  clear hB hb hg
  go_wp2_with fail
  refine (HLs.out w1 Hb1.out).mono ?_
  clear HLs c0 c1
  rintro _ w2 ⟨hb2,a',c',rfl,hcz⟩
  have Hb2:Hid (Below w.heap.size w w2):=Hb1.out.trans (hb2.mono Hb1.out.size)
  have HB2:Hid (K.Blk w2 g 122 b):=(hb2.block g (Array.getElem?_eq_some_iff.1 HB.out).1).trans HB.out
  clear hb2 Hb1 HB
  rcases hcz with ⟨h0,rfl,rfl⟩|⟨p,rfl,hl,hlc,hcm,hk,hpf⟩
  ·have R:=HP.out w2 false (fun e=>absurd (e.trans h0) Hbn.out) Hb2.out
   rw [h0]
   have hl0:([]:List Int).length=0:=rfl
   rw [hl0]
   clear HP Hok Hbn h0 hl0 Hb2 HB2
   go_wp2
   exact R
  ·have Hok2:Hid (b.length=32768∧K.Kinds b):=(Hok.out.resolve_left Hbn.out).imp id (fun h=>h.1)
   have HCz:Hid (Cz w2 (some ⟨p,0,none⟩) c' b'):=.inr ⟨p,rfl,hl,hlc,hcm,hk,hpf⟩
   have Hl:Hid (b'.length=32768):=hl
   have HR:Hid (∀ w' β,(b=b'->β=true)->Below w2.heap.size w2 w'->Post (.returned (.bool β)) w'):=fun w' β h0 hb=>HP.out w' β h0 (Hb2.out.trans (hb.mono Hb2.out.size))
   have HKB:Hid _:=fun (W:World) (h:K.Blk W g 122 b)=>K.bytes_c g b W h Hok2.out.1
   rw [hl]
   clear HP Hok Hbn hl hlc hcm hk hpf Hb2
   go_upto_region 5 with fail
   refine Z.region_L (fun u=>Below w2.heap.size w2 u) 99 (by kernel_rfl) ?_
   have h_va:(fun u=>Below w2.heap.size w2 u) w2.drew:=(⟨rfl,rfl,rfl,Nat.le_refl _,fun _ _=>rfl⟩:Below w2.heap.size w2 w2.drew)
   generalize w2.drew=va at *
   have hne:Nonempty (Z.Sub (fun u=>Below w2.heap.size w2 u)):=⟨⟨_,h_va⟩⟩
   have q0:∀ s:Z.Sub (fun u=>Below w2.heap.size w2 u),(convert 61 9 (.slice (some ⟨p,0,none⟩) 32768 c')).run Tryz.prog s.w = .ok (.string (strOfNums b')) s.w:=fun s=>by
    have h1:=kbytes_conv (c:=c') (cz_on HCz.out s.ok).bytes
    rw [Hl.out] at h1
    exact h1
   refine Z.gen_L (by intro d v c a w h;cases d <;> exact h) (fun QX HQP HQX=>?_)
   refine Z.ol 0 rfl fun K hK=>?_
   go_simp
   refine hK.out _ _ (fun _=>h_va) ?_
   clear hK K
   refine Z.ol 1 rfl fun K hK=>?_
   go_simp
   refine hK.out _ _ (fun _=>h_va) ?_
   clear hK K
   refine Z.ol 2 rfl fun K hK=>?_
   go_simp
   refine hK.out _ _ (fun _=>h_va) ?_
   clear hK K
   refine Z.tk 3 rfl HQP h_va fun K hK=>?_;go_simp;refine hK _ ?_;clear hK K
   refine Z.tk 6 rfl HQP h_va fun K hK=>?_;go_simp;refine hK _ ?_;clear hK K
   refine Z.tk 7 rfl HQP h_va fun K hK=>?_;go_simp;refine hK _ ?_;clear hK K
   refine Z.ol 4 rfl fun K hK=>?_
   go_simp
   have hB5:=(Below.block h_va g (Array.getElem?_eq_some_iff.1 HB2.out).1).trans HB2.out
   refine (HKB.out _ hB5).mono ?_
   rintro _ v4 ⟨rfl,hBb,hbb⟩
   have h_v4:(fun u=>Below w2.heap.size w2 u) v4:=Below.trans h_va (hbb.mono (Below.size h_va))
   have hcv:=hBb.conv Hok2.out.1 Hok2.out.2
   refine hK.out _ _ (fun _=>h_v4) ?_
   clear hK K hB5 hBb hbb
   refine Z.ol 5 rfl fun K hK=>?_
   go_simp
   refine hK.out _ _ (fun _=>h_v4) ?_
   clear hK K
   refine Z.ol 8 rfl fun K hK=>?_
   go_simp
   refine hK.out _ _ (fun _=>h_v4) ?_
   clear hK K
   refine Z.ol 9 rfl fun K hK=>?_
   go_simp
   refine hK.out _ _ (fun _=>h_v4) ?_
   clear hK K
   refine Z.ol 10 rfl fun K hK=>?_
   go_simp
   refine hK.out _ _ (fun _=>h_v4) ?_
   clear hK K
   refine Z.done_L (by kernel_rfl) ?_ _
   refine HQX.out _ _ ?_
   clear HQX HQP QX
   have R:=HR.out v4
   have Hh:Hid (Below w2.heap.size w2 v4):=h_v4
   clear HR hne q0 HKB HB2 Hok2 HCz Hl h_v4 hcv
   go_wp2
   exact R _ (fun e=>by rw [e];simp) Hh.out
end Go.Proofs.YtlllmmceoeihkaaGreat
set_option maxRecDepth 20000
namespace Go.Proofs.YtlllmmceoeihkaaGreat
open Go.RowKit
def dRow (l:List Sp):List Int:=(List.range 40).map fun i=>((cnt l i:Nat):Int)
theorem dRow_len (l:List Sp):(dRow l).length=40:=by simp [dRow]
theorem dRow_at (l:List Sp) {i:Nat} (hi:i<40):(dRow l).getD i 0=((cnt l i:Nat):Int):=by
 simp [dRow,List.getD_eq_getElem?_getD,hi]
theorem dRow_nil:dRow []=List.replicate 40 0:=by decide
theorem dRow_zero (l:List Sp) (f:Nat):dRow (l++[(f,0)])=dRow l:=by
 unfold dRow
 refine List.map_congr_left (fun i _=>?_)
 rw [cnt_append,cnt_nil,Nat.add_zero]
theorem dRow_step (l:List Sp) (f k:Nat) (h:f+k<40):(dRow (l++[(f,k)])).set (f+k) ((dRow (l++[(f,k)])).getD (f+k) 0+1)=dRow (l++[(f,k+1)]):=by
 have h0:cnt [(f,k)] (f+k)=0:=by rw [cnt_one];unfold covers;rw [decide_eq_false (by simp only;omega)];rfl
 have h1:cnt [(f,k+1)] (f+k)=1:=by rw [cnt_one];unfold covers;rw [decide_eq_true (by simp only;omega)];rfl
 have h2:∀ i,f+k≠i->cnt [(f,k+1)] i=cnt [(f,k)] i:=fun i hi=>by
  rw [cnt_one,cnt_one]
  unfold covers
  rw [show decide ((f,k+1).1<=i∧i<(f,k+1).1+(f,k+1).2)=decide ((f,k).1<=i∧i<(f,k).1+(f,k).2) from decide_eq_decide.2 (by simp only;omega)]
 apply List.ext_getElem?
 intro i
 rw [List.getElem?_set,dRow_at _ h,dRow_len]
 by_cases hi:i<40
 ·have e:∀ m,(dRow m)[i]?=some ((cnt m i:Nat):Int):=fun m=>by simp [dRow,hi]
  rw [e,e,cnt_append,cnt_append,cnt_append]
  by_cases hk:f+k=i
  ·subst hk
   rw [if_pos rfl,if_pos hi,h0,h1]
   simp only [Option.some.injEq]
   omega
  ·rw [if_neg hk,h2 i hk]
 ·rw [if_neg (by omega),List.getElem?_eq_none (by rw [dRow_len];omega),List.getElem?_eq_none (by rw [dRow_len];omega)]
def allR (sp:List Sp):List Sp:=(0,2)::(sp++freeR sp)
theorem allR_one {sp:List Sp} {dat:List (List Int)} (H:GoodR sp dat) {i:Nat} (hi:i<40):cnt (allR sp) i=1:=by
 have h1:=all_once H hi
 have h2:cnt (allR sp) i=cnt [(0,2)] i+(cnt sp i+cnt (freeR sp) i):=by
  show cnt ([(0,2)]++(sp++freeR sp)) i=_
  rw [cnt_append,cnt_append]
 have e:(covers (0,2) i=true)↔i<2:=by unfold covers;simp
 rw [h2,cnt_one]
 by_cases h:i<2
 ·rw [if_pos h] at h1
  rw [if_pos (e.2 h)];omega
 ·rw [if_neg h] at h1
  rw [if_neg (fun h'=>h (e.1 h'))];omega
theorem allR_in {sp:List Sp} {dat:List (List Int)} (H:GoodR sp dat) {s:Sp} (hs:s∈allR sp):s.1+s.2<=40:=by
 rcases List.mem_cons.1 hs with rfl | hs
 ·decide
 ·exact all_in H hs
theorem allR_new {sp:List Sp} {dat:List (List Int)} (H:GoodR sp dat) {i f m k:Nat} (hi:i<(allR sp).length) (he:(allR sp)[i]=(f,m)) (hk:k<m) (hp:f+k<40):(dRow ((allR sp).take i++[(f,k)])).getD (f+k) 0=0:=by
 rw [dRow_at _ hp,cnt_append]
 have h1:=allR_one H hp
 rw [<- List.take_append_drop i (allR sp),List.drop_eq_getElem_cons hi,he,show ∀ (A B:List Sp) (s:Sp),A++s::B=A++[s]++B from by simp,cnt_append,cnt_append] at h1
 have h2:cnt [(f,m)] (f+k)=1:=by rw [cnt_one];unfold covers;rw [decide_eq_true (by simp only;omega)];rfl
 have h3:cnt [(f,k)] (f+k)=0:=by rw [cnt_one];unfold covers;rw [decide_eq_false (by simp only;omega)];rfl
 omega
theorem ownSp_head {w:World} {lo b:Nat} (h:w.heap[b]?=some (.cells #[.int .i64 0,.int .i64 2] 97 (0,0))) (hb:lo<=b):OwnSp w lo (some ⟨b,0,none⟩) 1 [(0,2)] :=
 ⟨rfl,.inr ⟨b,1,_,rfl,hb,h,by decide,by unfold maxLen;omega,rfl,rfl⟩⟩
theorem ownSp_on {w w':World} {lo:Nat} {a:Option Addr} {c:Nat} {l:List Sp} (h:OwnSp w lo a c l) (hb:Below w.heap.size w w'):OwnSp w' lo a c l:=by
 refine ⟨h.1,?_⟩
 rcases h.2 with h2 | ⟨g,cap,cur,hv,hg,hh,r⟩
 ·exact .inl h2
 ·exact .inr ⟨g,cap,cur,hv,hg,(hb.block g (Array.getElem?_eq_some_iff.1 hh).1).trans hh,r⟩
set_option maxHeartbeats 4000000 in
theorem whole_c {F:Nat->Prop} {w:World} {s d m n:Nat} {S:St} {V:List Bk} {R:Rf} (h:SO F w s d m n S V R) {E:Ed} (hE:Has V E) (hf:S.out=false) (x z:Int) (hx:I64 x) (hz:I64 z) :
  Calls Tryz.prog 15 #[.pointer (some ⟨s,0,none⟩),valA x z] w fun e w'=>e = .returned (.bool true)∧Below w.heap.size w w':=by
 obtain ⟨Post,hPost⟩:∃ Post:Ending->World->Prop,Post=fun e w'=>e = .returned (.bool true)∧Below w.heap.size w w':=⟨_,rfl⟩
 rw [<- hPost]
 have HP:Hid (∀ w',Below w.heap.size w w'->Post (.returned (.bool true)) w'):=fun w' h1=>by rw [hPost];exact ⟨rfl,h1⟩
 clear hPost
 obtain ⟨hb0,k0⟩:=box_a w x z
 obtain ⟨c0,c1⟩:=box_on w x z (Below.refl _ _)
 have hrr:=Z.rregion_c x z hx hz (w.alloc (.cells #[.int .i64 x,.int .i64 z] 39))
 have Hb0:Hid _:=hb0
 have HRg:Hid (∀ W,Below w.heap.size w W->Calls Tryz.prog 33 #[.pointer (some ⟨s,0,none⟩),.int .i64 (x/4),.int .i64 (z/4)] W (RegSay S V E (x/4) (z/4) W)):=fun W hb=>region_c (h.on hb) hE _ _ (div_i64 hx) (div_i64 hz)
 have Hf:Hid (S.out=false):=hf
 clear h hE hb0 k0 hf hx hz
 go_enter Tryz.func15,Tryz.ntmps15
 go_wp2_with fail
 refine hrr.mono ?_
 clear hrr c0 c1
 rintro _ w1 ⟨rfl,hb1⟩
 have Hb1:Hid (Below w.heap.size w w1):=Hb0.out.trans (hb1.mono Hb0.out.size)
 obtain ⟨hb2,_⟩:=box_a w1 (x/4) (z/4)
 obtain ⟨k0,k1⟩:=box_on w1 (x/4) (z/4) (Below.refl _ _)
 have Hb2:Hid _:=Hb1.out.trans (hb2.mono Hb1.out.size)
 clear hb1 hb2 Hb0 Hb1
 go_upto_region 2 with fail
 generalize w1.alloc (.cells #[.int .i64 (x/4),.int .i64 (z/4)] 39)=w2 at *
 generalize w1.heap.size=xb at *
 have hrg:=HRg.out w2 Hb2.out
 clear HRg
 go_wp2_with fail
 refine hrg.mono ?_
 clear hrg k0 k1
 rintro _ w3 ⟨hb3,⟨h8,_⟩|⟨_,g,F2,sp,rfl,hG,_,hFl⟩⟩
 ·exact absurd h8 (by rw [Hf.out];decide)
 have Hb3:Hid (Below w.heap.size w w3):=Hb2.out.trans (hb3.mono Hb2.out.size)
 obtain ⟨ρ,HG3⟩:∃ ρ,Hid (RGs F2 w3 g ρ):=⟨_,hG⟩
 have Hgood:Hid (GoodR ρ.sp ρ.dat):=HG3.out.good
 have Hn16:Hid (ρ.sp.length=16):=HG3.out.good.n
 have hfl:=free_len ρ.sp
 clear hb3 hG hFl Hb2 Hf
 go_wp2_with (at_make;refine wpList_make_ints _ rfl _ _ rfl 40 40 rfl rfl rfl (by omega) ?_;intro w4 HN hb4)
 obtain ⟨nb,hnb⟩:∃ nb,nb=w3.heap.size:=⟨_,rfl⟩
 rw [<- hnb] at HN ⊢
 have HN4:Hid (IRow w4 nb (dRow [])):=by show IRow _ _ _;rw [dRow_nil];exact HN.out
 have Hb4:Hid (Below w.heap.size w w4):=Hb3.out.trans (hb4.mono Hb3.out.size)
 have Hnb:Hid (w.heap.size<=nb∧nb<w4.heap.size):=⟨by rw [hnb];exact Hb3.out.size,HN.out.lt⟩
 have HGk:Hid (∀ W,Below w4.heap.size w4 W->RGs F2 W g ρ):=fun W hb=>by
  have h4:Below w3.heap.size w3 W:=hb4.trans (hb.mono hb4.size)
  exact rspec.rg_keep HG3.out (fun k hk=>h4.block k (rspec.rg_lt HG3.out k hk)) h4.size
 have hal:=heap_alloc_new w4 (.cells #[.int .i64 0,.int .i64 2] 97)
 have HO5:Hid (OwnSp (w4.alloc (.cells #[.int .i64 0,.int .i64 2] 97)) w4.heap.size (some ⟨w4.heap.size,0,none⟩) 1 [(0,2)]):=ownSp_head hal (Nat.le_refl _)
 have Hb5:Hid (Below w4.heap.size w4 (w4.alloc (.cells #[.int .i64 0,.int .i64 2] 97))):=(Below.refl _ _).alloc (Nat.le_refl _) _
 clear HN hnb hb4 hal HG3 Hb3
 generalize w4.alloc (.cells #[.int .i64 0,.int .i64 2] 97)=w5 at *
 refine (rspec.live_ F2 g ρ w5 (HGk.out w5 Hb5.out)).mono ?_
 rintro _ w6 ⟨hb6,la,lc,rfl,hLv,hln⟩
 have HO6:Hid _:=ownSp_on HO5.out hb6
 have Hb6:Hid (Below w4.heap.size w4 w6):=Hb5.out.trans (hb6.mono Hb5.out.size)
 have HLv:Hid (SpsAt w6 la ρ.sp∧(la=none->lc=0)):=⟨hLv,hln⟩
 rw [Hn16.out]
 clear hb6 hLv hln HO5 Hb5 w5
 go_wp2_with (at_builtin;refine wpList_append_sps rfl _ _ rfl w4.heap.size (some ⟨w4.heap.size,0,none⟩) 1 1 [(0,2)] rfl rfl HO6.out la 16 lc ρ.sp Hn16.out rfl HLv.out.1 HLv.out.2 (by omega) w4 Hb6.out Hb6.out.size ?_;intro ab cb w7 HO7 hb7 hs7)
 have Hb7:Hid (Below w4.heap.size w4 w7):=hb7
 clear HO6 Hb6 HLv hb7 hs7 w6
 go_wp2_with fail
 refine (rspec.free_ F2 g ρ w7 (HGk.out w7 Hb7.out)).mono ?_
 rintro _ w8 ⟨hb8,fa,fc,rfl,hFv,hfn⟩
 have HO8:Hid _:=ownSp_on HO7.out hb8
 have Hb8:Hid (Below w4.heap.size w4 w8):=Hb7.out.trans (hb8.mono Hb7.out.size)
 have HFv:Hid (SpsAt w8 fa (freeR ρ.sp)∧(fa=none->fc=0)):=⟨hFv,hfn⟩
 obtain ⟨fl,hfl2⟩:∃ fl,fl=(freeR ρ.sp).length:=⟨_,rfl⟩
 rw [<- hfl2] at hfl ⊢
 have Hfl:Hid (fl=(freeR ρ.sp).length):=hfl2
 clear hb8 hFv hfn HO7 Hb7 hfl2 w7 HGk
 go_wp2_with (at_builtin;refine wpList_append_sps rfl _ _ rfl w4.heap.size ab 17 cb ([(0,2)]++ρ.sp) (by rw [List.length_append,Hn16.out];rfl) rfl HO8.out fa fl fc (freeR ρ.sp) Hfl.out.symm rfl HFv.out.1 HFv.out.2 (by omega) w4 Hb8.out Hb8.out.size ?_;intro ac cc w9 HO9 hb9 hs9)
 have HN9:Hid (IRow w9 nb (dRow [])):=HN4.out.on hb9
 have HB9:Hid (Below w.heap.size w w9):=Hb4.out.trans (hb9.mono Hb4.out.size)
 have hall:[(0,2)]++ρ.sp++freeR ρ.sp=allR ρ.sp:=by unfold allR;simp
 rw [hall] at HO9
 have HA9:Hid (SpsAt w9 ac (allR ρ.sp)):=HO9.out.at
 have Hab:Hid (∀ b off,ac=some ⟨b,off,none⟩->w4.heap.size<=b):=fun b off e=>by
  have:=(World.ownsRow.lt HO9.out b (by rw [e];rfl)).1
  exact this
 obtain ⟨al,hal⟩:∃ al,al=allR ρ.sp:=⟨_,rfl⟩
 rw [<- hal] at HA9
 have Hal:Hid (al=allR ρ.sp):=hal
 have Hlen:Hid (al.length=17+fl):=by show _=_;rw [hal,<- hall,List.length_append,List.length_append,Hn16.out,Hfl.out];rfl
 have Hin:Hid (∀ s∈al,s.1+s.2<=40):=fun s hs=>allR_in Hgood.out (by rw [<- hal];exact hs)
 clear HO8 Hb8 HFv hb9 hs9 HO9 hall hal HN4 Hb4 w8 Hfl Hn16
 go_loopw [10] (fun v wr=>∃ (i:Nat),i<=17+fl∧v = .int .i64 (i:Int)∧Hid (IRow wr nb (dRow (al.take i)))∧Hid (SpsAt wr ac al)∧Hid (Below w.heap.size w wr)) (fun v _=>17+fl-(intOf v).toNat)
 case atStart=>exact ⟨0,by omega,rfl,HN9.out,HA9.out,HB9.out⟩
 case round =>
  clear HN9 HA9 HB9
  obtain ⟨i,hi,rfl,HN,HA,HBr⟩:=hrel
  by_cases hlt:i<17+fl
  ·have hlt':(i:Int)<17+(fl:Int):=by omega
   have hil:i<al.length:=by rw [Hlen.out];exact hlt
   obtain ⟨b,off,rfl,hc0,hc1⟩:=HA.out.at i hil
   have hin:=Hin.out al[i] (List.getElem_mem hil)
   have Htk:Hid (al.take (i+1)=al.take i++[al[i]]):=List.take_succ_eq_append_getElem hil
   obtain ⟨f,m,hfm⟩:∃ f m,al[i]=(f,m):=⟨_,_,rfl⟩
   have Hfm:Hid (∃ h:i<al.length,al[i]=(f,m)):=⟨hil,hfm⟩
   rw [hfm] at hc0 hc1 hin Htk
   simp only at hc0 hc1 hin
   have Hbb:Hid (w4.heap.size<=b):=Hab.out b off rfl
   obtain ⟨wq,hwq⟩:∃ wq,wq=wr:=⟨_,rfl⟩
   subst hwq
   clear hfm
   go_wp2_with fail
   go_loopw [11] (fun v wr=>∃ (k:Nat),k<=m∧v = .int .i64 (k:Int)∧Hid (IRow wr nb (dRow (al.take i++[(f,k)])))∧Hid (SpsAt wr (some ⟨b,off,none⟩) al)∧Hid (Below w.heap.size w wr)) (fun v _=>m-(intOf v).toNat)
   case atStart=>exact ⟨0,Nat.zero_le _,rfl,by rw [dRow_zero];exact HN.out,HA.out,HBr.out⟩
   case round =>
    clear HN HA HBr hc0 hc1
    obtain ⟨k,hk,rfl,HN,HA,HBr⟩:=hrel
    obtain ⟨b',off',e,hc0,hc1⟩:=HA.out.at i hil
    cases e
    obtain ⟨_,hfm⟩:=Hfm.out
    rw [hfm] at hc0 hc1
    simp only at hc0 hc1
    by_cases hkl:k<m
    ·have hkl':(k:Int)<(m:Int):=by omega
     have hp40:f+k<40:=by omega
     have hnew:(dRow (al.take i++[(f,k)])).getD (f+k) 0=0:=by
      have hil2:i<(allR ρ.sp).length:=by rw [<- Hal.out];exact hil
      have h1:=allR_new Hgood.out hil2 (by simp only [<- Hal.out];exact hfm) hkl hp40
      rw [<- Hal.out] at h1
      exact h1
     have hat:=HN.out.at (i:=f+k) (by rw [dRow_len];exact hp40)
     have hfr:=HN.out.free (f+k)
     have hcs:=dRow_step (al.take i) f k hp40
     rw [hnew] at hat hcs
     have HN':Hid (IRow (wr.setCell ⟨nb,f+k,none⟩ (.int .i64 1)) nb (dRow (al.take i++[(f,k+1)]))):=by show IRow _ _ _;rw [<- hcs];exact HN.out.set _ _
     have HA':Hid (SpsAt (wr.setCell ⟨nb,f+k,none⟩ (.int .i64 1)) (some ⟨b,off,none⟩) al):=by
      rcases HA.out with h | ⟨b',off',e,h⟩
      ·exact .inl h
      ·cases e
       refine .inr ⟨b,off,rfl,fun j u hj=>?_⟩
       rw [<- h j u hj]
       exact World.cell?_of_block (a:=⟨b,off+j,none⟩) (Below.heap_setCell wr ⟨nb,f+k,none⟩ _ b (by have:=Hnb.out.2;have:=Hbb.out;simp only;omega))
     have HB':Hid (Below w.heap.size w (wr.setCell ⟨nb,f+k,none⟩ (.int .i64 1))):=HBr.out.setCell (p:=⟨nb,f+k,none⟩) Hnb.out.1 _
     have d1:¬ (f:Int)+k<0:=by omega
     have d2:¬ 40<=(f:Int)+k:=by omega
     have d3:(f:Int)+k<40:=by omega
     clear HN HA HBr hcs HP hnew hfm
     go_wp2
     go_roundw
     case rel=>exact ⟨k+1,by omega,by go_num,HN',HA',HB'⟩
     case measure=>simp [intOf];omega
    ·obtain rfl:k=m:=by omega
     have hge:¬ (k:Int)<(k:Int):=by omega
     have HN':Hid (IRow wr nb (dRow (al.take (i+1)))):=by show IRow _ _ _;rw [Htk.out];exact HN.out
     clear HN HP hfm
     go_wp2
     go_roundw
     case rel=>exact ⟨i+1,by omega,by go_num,HN',HA,HBr⟩
     case measure=>simp [intOf];omega
  ·obtain rfl:i=17+fl:=by omega
   have hge:¬ ((17+fl:Nat):Int)<17+(fl:Int):=by omega
   have HN1:Hid (IRow wr nb (dRow (allR ρ.sp))):=by
    have:=HN.out
    rw [List.take_of_length_le (by rw [Hlen.out];exact Nat.le_refl _),Hal.out] at this
    exact this
   clear HN HA Hin Hlen Hal Hab
   go_wp2_with fail
   obtain ⟨wk,hwk⟩:∃ wk,wk=wr:=⟨_,rfl⟩
   subst hwk
   go_loopw [13] (fun v wr=>∃ (i:Nat),i<=40∧v = .int .i64 (i:Int)∧wr=wk) (fun v _=>40-(intOf v).toNat)
   case atStart=>exact ⟨0,by omega,rfl,rfl⟩
   case round =>
    obtain ⟨i,hi3,rfl,rfl⟩:=hrel
    by_cases hlt3:i<40
    ·have hlt4:(i:Int)<40:=by omega
     have hat:=HN1.out.at (i:=i) (by rw [dRow_len];exact hlt3)
     rw [dRow_at _ hlt3,allR_one Hgood.out hlt3] at hat
     clear HP
     go_wp2
     go_roundw
     case rel=>exact ⟨i+1,by omega,by go_num,trivial⟩
     case measure=>simp [intOf];omega
    ·obtain rfl:i=40:=by omega
     have R:=HP.out _ HBr.out
     clear HP HN1 HBr
     go_wp2
     exact R
end Go.Proofs.YtlllmmceoeihkaaGreat
set_option maxRecDepth 20000
namespace Go.Proofs.YtlllmmceoeihkaaGreat
open Go.RowKit
open Z (Km RSt KRow Cz loadK)
set_option maxHeartbeats 2000000 in
theorem all_c {F:Nat->Prop} {w:World} {s d m n:Nat} {S:St} {V:List Bk} {R:Rf} (h:SO F w s d m n S V R) {E:Ed} (hE:Has V E) (hO:EdOk E) (hf:S.out=false) {G:Nat->Prop} {B:Nat} {r:Nat} {L:List Km} {av:Option Addr} {cv:Nat} (hr:RSt G B w r L av cv)
  (a:Option Addr) (q c:Nat) (l:List Wk) (hW:WksAt w a l) (hl:l.length=q) (hq:q<=maxLen) (hI:∀ o∈l,I64 o.x∧I64 o.z) :
  Calls Tryz.prog 24 #[.pointer (some ⟨s,0,none⟩),.pointer (some ⟨r,0,none⟩),.slice a q c] w fun e w'=>Below w.heap.size w w'∧∃ β:Bool,e = .returned (.tuple #[.bool β,.bool true])∧((∀ o∈l,E o.x o.z=loadK L o.x o.z)->β=true):=by
 obtain ⟨Post,hPost⟩:∃ Post:Ending->World->Prop,Post=fun e w'=>Below w.heap.size w w'∧∃ β:Bool,e = .returned (.tuple #[.bool β,.bool true])∧((∀ o∈l,E o.x o.z=loadK L o.x o.z)->β=true):=⟨_,rfl⟩
 rw [<- hPost]
 have HP:Hid (∀ w' β,((∀ o∈l,E o.x o.z=loadK L o.x o.z)->β=true)->Below w.heap.size w w'->Post (.returned (.tuple #[.bool β,.bool true])) w'):=fun w' β h1 h2=>by rw [hPost];exact ⟨h2,β,rfl,h1⟩
 clear hPost
 have hq':q<=9223372036854775807:=by unfold maxLen at hq;omega
 have HLd:Hid (∀ x z,I64 x->I64 z->∀ W,Below w.heap.size w W->Calls Tryz.prog 14 #[.pointer (some ⟨s,0,none⟩),.pointer (some ⟨r,0,none⟩),valA x z] W fun e w'=>Below W.heap.size W w'∧∃ β:Bool,e = .returned (.bool β)∧(E x z=loadK L x z->β=true)):=fun x z hx hz W hb=>loads_c (h.on hb) hE hO hf (hr.on hb) x z hx hz
 have HWh:Hid (∀ x z,I64 x->I64 z->∀ W,Below w.heap.size w W->Calls Tryz.prog 15 #[.pointer (some ⟨s,0,none⟩),valA x z] W fun e w'=>e = .returned (.bool true)∧Below W.heap.size W w'):=fun x z hx hz W hb=>whole_c (h.on hb) hE hf x z hx hz
 have HW:Hid (∀ W,Below w.heap.size w W->WksAt W a l):=fun W hb=>WksAt.on hW hb
 have Hl:Hid (l.length=q):=hl
 have HI:Hid (∀ o∈l,I64 o.x∧I64 o.z):=hI
 clear h hE hO hf hr hW hl hI hq
 go_enter Tryz.func24,Tryz.ntmps24
 go_wp2_with fail
 go_loopw [8,9,10,11,12] (fun b8 b9 iv _ _ wr=>∃ (i:Nat) (β:Bool),b8 = .bool β∧b9 = .bool true∧iv = .int .i64 (i:Int)∧i<=q∧Hid (Below w.heap.size w wr)∧Hid ((∀ j (h:j<l.length),j<i->E l[j].x l[j].z=loadK L l[j].x l[j].z)->β=true)) (fun _ _ iv _ _ _=>q-(intOf iv).toNat)
 case atStart=>exact ⟨0,true,rfl,rfl,rfl,Nat.zero_le _,Below.refl _ _,fun _=>rfl⟩
 case round =>
  obtain ⟨i,β,rfl,rfl,rfl,hi,HB,Hβ⟩:=hrel
  by_cases hlt:i<q
  ·have hlt':(i:Int)<(q:Int):=by omega
   have hil:i<l.length:=by rw [Hl.out];exact hlt
   obtain ⟨lb,lo,rfl,hat⟩:=(HW.out wr HB.out) i hil
   have HA:Hid (∀ W,Below w.heap.size w W->WkAt W lb lo i l[i]):=fun W hb=>by
    obtain ⟨b,off,e,h⟩:=(HW.out W hb) i hil
    cases e
    exact h
   have hIi:=HI.out l[i] (List.getElem_mem hil)
   have hld:=HLd.out _ _ hIi.1 hIi.2 wr HB.out
   have HWi:Hid _:=HWh.out _ _ hIi.1 hIi.2
   have Hnx:Hid (∀ β2:Bool,(E l[i].x l[i].z=loadK L l[i].x l[i].z->β2=true)->(∀ j (h:j<l.length),j<i+1->E l[j].x l[j].z=loadK L l[j].x l[j].z)->(β && β2)=true):=fun β2 h1 h2=>by
    rw [Hβ.out (fun j h hj=>h2 j h (by omega)),h1 (h2 i hil (by omega))]
    rfl
   have c0:=hat.c0
   have c1:=hat.c1
   clear hat hIi Hβ
   generalize l[i]=o at *
   go_wp2_with fail
   refine hld.mono ?_
   clear hld c0 c1
   rintro _ w1 ⟨hb1,β2,rfl,h2⟩
   have Hb1:Hid (Below w.heap.size w w1):=HB.out.trans (hb1.mono HB.out.size)
   have HN2:Hid _:=Hnx.out β2 h2
   have hat:=HA.out w1 Hb1.out
   have c0:=hat.c0
   have c1:=hat.c1
   have hwh:=HWi.out w1 Hb1.out
   clear hb1 h2 hat HB Hnx HWi HA
   go_wp2_with fail
   refine hwh.mono ?_
   clear hwh c0 c1
   rintro _ w2 ⟨rfl,hb2⟩
   have Hb2:Hid (Below w.heap.size w w2):=Hb1.out.trans (hb2.mono Hb1.out.size)
   clear hb2 Hb1
   cases β with
   | true =>
     go_wp2
     go_roundw
     case rel=>exact ⟨i+1,β2,rfl,rfl,by go_num,by omega,Hb2.out,fun h=>by have:=HN2.out h;rwa [Bool.true_and] at this⟩
     case measure=>simp [intOf];omega
   | false =>
     go_wp2
     go_roundw
     case rel=>exact ⟨i+1,false,rfl,rfl,by go_num,by omega,Hb2.out,fun h=>by have:=HN2.out h;rwa [Bool.false_and] at this⟩
     case measure=>simp [intOf];omega
  ·obtain rfl:q=i:=by omega
   have R:=HP.out wr β (fun h=>Hβ.out (fun j hj _=>h _ (List.getElem_mem hj))) HB.out
   clear HP HLd HWh HW HB Hβ
   go_wp2
   exact R
end Go.Proofs.YtlllmmceoeihkaaGreat
set_option maxRecDepth 20000
namespace Go.Proofs.YtlllmmceoeihkaaGreat
open Go.RowKit
open Z (Km RSt KRow Cz loadK)
section
variable {D D':Nat->Prop} {w w' w'':World} {s d:Nat} {S:St} {V:List Bk}
theorem gr_lt {F:Nat->Prop} (hF:∀ k,F k->k<w.heap.size) (hs:w.heap.size<=w'.heap.size):∀ k,Gr F w w' k->k<w'.heap.size:=fun k hk=>hk.elim (fun h=>Nat.lt_of_lt_of_le (hF k h) hs) (fun h=>h.2)
theorem rst_new (w:World) (B:Nat):RSt (fun k=>k=w.heap.size) B (w.alloc (.cells #[.slice none 0 0] 34)) w.heap.size [] none 0 :=
 ⟨heap_alloc_new w _,World.ownsRow_nil _ _ _ _,(fun k hk=>by cases hk),rfl,(fun g e=>by cases e),(fun k hk=>by cases hk),(fun k hk=>by subst hk;simp),Nat.zero_le _,(fun k hk=>by cases hk),(fun k hk=>by cases hk)⟩
end
end Go.Proofs.YtlllmmceoeihkaaGreat
set_option maxRecDepth 20000
namespace Go.Proofs.YtlllmmceoeihkaaGreat
open Go.RowKit
open Z (Km RSt KRow Cz kcells kcell needK loadK)
def rsvK:List Km->Int->Int->Nat->List Km
 | [],x,z,n=>[⟨x,z,none,0,[],n⟩]
 | k::r,x,z,n=>if Z.atK x z k=true then { k with m:=n }::r else k::rsvK r x z n
theorem rsvK_none {x z:Int} {n:Nat}:∀ {L:List Km},L.findIdx? (Z.atK x z)=none->rsvK L x z n=L++[⟨x,z,none,0,[],n⟩]
 | [],_=>rfl
 | p::r,h=>by
   unfold rsvK
   rw [List.findIdx?_cons] at h
   by_cases e:Z.atK x z p=true
   ·rw [if_pos e] at h;cases h
   ·rw [if_neg e] at h ⊢
    cases hf:r.findIdx? (Z.atK x z) with
    | some j=>rw [hf] at h;cases h
    | none=>rw [rsvK_none hf];rfl
theorem rsvK_some {x z:Int} {n:Nat}:∀ {L:List Km} {k:Nat} (hk:k<L.length),L.findIdx? (Z.atK x z)=some k->rsvK L x z n=L.set k { L[k] with m:=n }
 | [],k,hk,h=>by cases h
 | p::r,k,hk,h=>by
   unfold rsvK
   rw [List.findIdx?_cons] at h
   by_cases e:Z.atK x z p=true
   ·rw [if_pos e] at h ⊢
    cases h
    rfl
   ·rw [if_neg e] at h ⊢
    cases hf:r.findIdx? (Z.atK x z) with
    | none=>rw [hf] at h;cases h
    | some j =>
      rw [hf] at h
      cases h
      rw [rsvK_some (by simpa using hk) hf]
      rfl
theorem rsvK_len (x z:Int) (n:Nat):∀ L:List Km,(rsvK L x z n).length<=L.length+1
 | []=>Nat.le_refl _
 | k::r=>by
   have:=rsvK_len x z n r
   unfold rsvK
   split <;> simp <;> omega
theorem rsvK_find (x z:Int) (n:Nat) (x' z':Int):∀ L:List Km,(rsvK L x z n).find? (Z.atK x' z')=if x'=x∧z'=z then some { (L.find? (Z.atK x z)).getD ⟨x,z,none,0,[],n⟩ with m:=n } else L.find? (Z.atK x' z')
 | []=>by
   show ([⟨x,z,none,0,[],n⟩]:List Km).find? _=_
   by_cases e:x'=x∧z'=z
   ·rw [if_pos e,e.1,e.2,List.find?_cons_of_pos (by simp [Z.atK])]
    rfl
   ·rw [if_neg e,List.find?_cons_of_neg (fun h=>e (by rw [atK_iff] at h;exact ⟨h.1.symm,h.2.symm⟩))]
 | p :: r=>by
   unfold rsvK
   by_cases e1:Z.atK x z p=true
   ·rw [if_pos e1]
    have e2:=(atK_iff x z p).1 e1
    by_cases e:x'=x∧z'=z
    ·rw [if_pos e,e.1,e.2,List.find?_cons_of_pos (p:=Z.atK x z) (l:=r) e1,List.find?_cons_of_pos (by rw [atK_iff];exact e2)]
     rfl
    ·rw [if_neg e,List.find?_cons_of_neg (fun h=>e (by rw [atK_iff] at h;exact ⟨h.1.symm.trans e2.1,h.2.symm.trans e2.2⟩)),List.find?_cons_of_neg (fun h=>e (by rw [atK_iff] at h;exact ⟨h.1.symm.trans e2.1,h.2.symm.trans e2.2⟩))]
   ·rw [if_neg e1]
    by_cases e2:Z.atK x' z' p=true
    ·rw [List.find?_cons_of_pos e2,List.find?_cons_of_pos e2,if_neg]
     intro e
     rw [e.1,e.2] at e2
     exact e1 e2
    ·rw [List.find?_cons_of_neg e2,List.find?_cons_of_neg e2,rsvK_find x z n x' z' r,List.find?_cons_of_neg e1]
theorem rsvK_load (L:List Km) (x z:Int) (n:Nat) (x' z':Int):loadK (rsvK L x z n) x' z'=loadK L x' z':=by
 unfold loadK
 rw [rsvK_find]
 by_cases e:x'=x∧z'=z
 ·rw [if_pos e,e.1,e.2]
  cases L.find? (Z.atK x z) <;> rfl
 ·rw [if_neg e]
theorem rsvK_many (L:List Km) (x z:Int) (n:Nat) (x' z':Int):manyK (rsvK L x z n) x' z'=if x'=x∧z'=z then n else manyK L x' z':=by
 unfold manyK
 rw [rsvK_find]
 by_cases e:x'=x∧z'=z
 ·rw [if_pos e,if_pos e]
 ·rw [if_neg e,if_neg e]
theorem rsvK_mem {x z:Int} {n:Nat} {p:Km}:∀ {L:List Km},p∈rsvK L x z n->(p.x=x∧p.z=z)∨p∈L
 | [],h=>.inl (by obtain rfl:=List.mem_singleton.1 h;exact ⟨rfl,rfl⟩)
 | k::r,h=>by
   unfold rsvK at h
   split at h
   ·rename_i e
    rcases List.mem_cons.1 h with rfl | h
    ·exact .inl ((atK_iff x z k).1 e)
    ·exact .inr (List.mem_cons_of_mem _ h)
   ·rcases List.mem_cons.1 h with rfl | h
    ·exact .inr (by simp)
    ·exact (rsvK_mem h).imp id (List.mem_cons_of_mem _)
theorem rsvK_once {x z:Int} {n:Nat}:∀ {L:List Km},OnceK L->OnceK (rsvK L x z n)
 | [],_=>List.pairwise_singleton _ _
 | k::r,h=>by
   have h:=List.pairwise_cons.1 h
   unfold rsvK
   split
   ·exact List.pairwise_cons.2 ⟨fun p hp=>h.1 p hp,h.2⟩
   ·rename_i e
    refine List.pairwise_cons.2 ⟨fun p hp=>?_,rsvK_once h.2⟩
    rcases rsvK_mem hp with h1 | hp
    ·exact fun h2=>e (by rw [atK_iff];exact ⟨h2.1.trans h1.1,h2.2.trans h1.2⟩)
    ·exact h.1 p hp
theorem doc_rsv {L:List Km} {E:Ed} (h:DocE L E) (x z:Int) (n:Nat):DocE (rsvK L x z n) E:=⟨rsvK_once h.once,fun x' z'=>by rw [rsvK_load];exact h.load x' z'⟩
theorem rst_push {G:Nat->Prop} {B:Nat} {w u:World} {r:Nat} {L:List Km} {av:Option Addr} {cv:Nat} (h:RSt G B w r L av cv) {q:Km} (hq:Cz w q.a q.c q.b) (hqg:∀ p,q.a=some ⟨p,0,none⟩->G p) (hm:q.m<=100000) (hky:Z.I64 q.x∧Z.I64 q.z) (hl:L.length<2000) {ga c':Nat}
  (hr:u.ownsRow B 103 4 (.slice (some ⟨ga,0,none⟩) (L.length+1:Nat) c') (L.length+1) (kcells L++kcell q)) (hgr:w.grownBy u (Value.ownBlock (.slice av L.length cv))) (hga:Value.ownBlock (.slice av L.length cv)=some ga∨ga=w.heap.size) (hgu:ga<u.heap.size) :
  Chg G w (u.setCell ⟨r,0,none⟩ (.slice (some ⟨ga,0,none⟩) (L.length+1:Nat) c'))∧RSt (Gr G w (u.setCell ⟨r,0,none⟩ (.slice (some ⟨ga,0,none⟩) (L.length+1:Nat) c'))) B (u.setCell ⟨r,0,none⟩ (.slice (some ⟨ga,0,none⟩) (L.length+1:Nat) c')) r (L++[q]) (some ⟨ga,0,none⟩) c':=by
 have hown:∀ b,Value.ownBlock (.slice av L.length cv)=some b->G b:=fun b e=>by
  rcases h.row.form with ⟨h0,_⟩|⟨g,h0⟩
  ·rw [h0] at e;cases e
  ·rw [h0] at e
   cases e
   exact h.gv _ h0
 have hs2:w.heap.size<=(u.setCell ⟨r,0,none⟩ (.slice (some ⟨ga,0,none⟩) (L.length+1:Nat) c')).heap.size:=by simp;exact hgr.size
 have hr34:u.heap[r]?=some (.cells #[.slice av L.length cv] 34 (0,0)):=(grown_other h.row hgr (by decide) h.hd).trans h.hd
 have hrow:KRow B u (some ⟨ga,0,none⟩) c' (L++[q]):=by
  unfold KRow
  rw [Z.kcells_append]
  simp only [List.length_append,List.length_cons,List.length_nil,Nat.zero_add]
  show u.ownsRow _ 103 4 _ _ (kcells L++(kcell q++[]))
  rw [List.append_nil]
  exact hr
 obtain ⟨cur,hcur,_,_⟩:=hrow.blk
 have hrg:r≠ga:=fun e=>by rw [<- e,hr34] at hcur;simp at hcur
 have hgaG:G ga∨w.heap.size<=ga:=hga.imp (hown ga) (fun e=>by omega)
 have h5:∀ {a:Option Addr} {c:Nat} {b:List Int},Cz w a c b->Cz (u.setCell ⟨r,0,none⟩ (.slice (some ⟨ga,0,none⟩) (L.length+1:Nat) c')) a c b:=fun {a c b} hz=>by
  refine hz.same (fun p e=>?_)
  rcases hz with ⟨_,h1,_⟩|⟨p',h1,_,_,_,_,⟨cs,h2,_⟩⟩
  ·rw [h1] at e;cases e
  ·rw [h1] at e
   cases e
   have hpr:p≠r:=fun e=>by rw [e,h.hd] at h2;simp at h2
   rw [Below.heap_setCell _ _ _ p hpr]
   exact grown_other h.row hgr (by decide) h2
 have hlen:(L++[q]).length=L.length+1:=by simp
 refine ⟨⟨hgr.os,hgr.tape,hgr.output,hs2,fun k hk hn=>?_⟩,?_,?_,?_,.inl h.gr,?_,?_,?_,?_,?_,?_⟩
 ·rw [Below.heap_setCell _ _ _ k (fun e=>hn (e▸h.gr))]
  exact hgr.block k hk (fun e=>hn (hown k e.symm))
 ·rw [hlen]
  exact heap_setCell_same u r 0 _ 34 _ hr34
 ·exact hrow.same (fun g e=>by cases e;exact Below.heap_setCell _ _ _ _ (Ne.symm hrg))
 ·intro k hk
  rcases List.mem_append.1 hk with hk | hk
  ·exact h5 (h.by_ k hk)
  ·obtain rfl:=List.mem_singleton.1 hk
   exact h5 hq
 ·intro g e
  cases e
  exact hgaG.imp id (fun h=>⟨h,by simp;exact hgu⟩)
 ·intro k hk g e
  rcases List.mem_append.1 hk with hk | hk
  ·exact .inl (h.gb k hk g e)
  ·obtain rfl:=List.mem_singleton.1 hk
   exact .inl (hqg g e)
 ·exact fun k hk=>hk.elim (fun h1=>Nat.lt_of_lt_of_le (h.lt k h1) hs2) (fun h1=>h1.2)
 ·rw [hlen];omega
 ·intro k hk
  rcases List.mem_append.1 hk with hk | hk
  ·exact h.mb k hk
  ·obtain rfl:=List.mem_singleton.1 hk
   exact hm
 ·intro k hk
  rcases List.mem_append.1 hk with hk | hk
  ·exact h.ky k hk
  ·obtain rfl:=List.mem_singleton.1 hk
   exact hky
set_option maxHeartbeats 4000000 in
theorem rreserve_c {G:Nat->Prop} {B:Nat} {w:World} {r:Nat} {L:List Km} {av:Option Addr} {cv:Nat} (h:RSt G B w r L av cv) (hB:B<=w.heap.size) {x z:Int} (hx:I64 x) (hz:I64 z) {a:Option Addr} {c:Nat} {b:List Int} (hC:Cz w a c b) (hl:L.length<2000) :
  Calls Tryz.prog 38 #[.pointer (some ⟨r,0,none⟩),valA x z,.slice a b.length c] w fun e w'=>(40<Z.sumK L x z (needK b)∧e = .returned (.int .i64 11)∧Below w.heap.size w w')∨(Z.sumK L x z (needK b)<=40∧e = .returned (.int .i64 0)∧Chg G w w'∧∃ av' cv',RSt (Gr G w w') B w' r (rsvK L x z (needK b)) av' cv'):=by
 obtain ⟨Post,hPost⟩:∃ Post:Ending->World->Prop,Post=fun e w'=>(40<Z.sumK L x z (needK b)∧e = .returned (.int .i64 11)∧Below w.heap.size w w')∨(Z.sumK L x z (needK b)<=40∧e = .returned (.int .i64 0)∧Chg G w w'∧∃ av' cv',RSt (Gr G w w') B w' r (rsvK L x z (needK b)) av' cv'):=⟨_,rfl⟩
 rw [<- hPost]
 have H11:Hid (∀ w',40<Z.sumK L x z (needK b)->Below w.heap.size w w'->Post (.returned (.int .i64 11)) w'):=fun w' h1 h2=>by rw [hPost];exact .inl ⟨h1,rfl,h2⟩
 have H0:Hid (∀ w' av' cv',Z.sumK L x z (needK b)<=40->Chg G w w'->RSt (Gr G w w') B w' r (rsvK L x z (needK b)) av' cv'->Post (.returned (.int .i64 0)) w'):=fun w' av' cv' h1 h2 h3=>by rw [hPost];exact .inr ⟨h1,rfl,h2,av',cv',h3⟩
 clear hPost
 have hnk:=Z.needK_le b
 obtain ⟨hb0,k0⟩:=box_a w x z
 obtain ⟨c0,c1⟩:=box_on w x z (Below.refl _ _)
 have hnd:=Z.sneed_c (cz_on hC hb0)
 have HS:Hid (∀ W,Below w.heap.size w W->RSt G B W r L av cv):=fun W hb=>h.on hb
 have HSm:Hid (∀ W,Below w.heap.size w W->Calls Tryz.prog 46 #[.pointer (some ⟨r,0,none⟩),valA x z,.int .i64 (needK b:Int)] W fun e' w'=>e' = .returned (.int .i64 (Z.sumK L x z (needK b):Int))∧Below W.heap.size W w'):=fun W hb=>Z.ssum_c (h.on hb) hx hz _ (by omega)
 have HPl:Hid (∀ W,Below w.heap.size w W->Calls Tryz.prog 45 #[.pointer (some ⟨r,0,none⟩),valA x z] W fun e' w'=>e' = .returned (.int .i64 (Z.plK L x z))∧Below W.heap.size W w'):=fun W hb=>Z.splace_c (h.on hb) x z
 have Hb0:Hid _:=hb0
 have HBx:Hid _ := @box_on w x z
 have HK:Hid (B<=w.heap.size∧I64 x∧I64 z):=⟨hB,hx,hz⟩
 have Hlt:Hid (∀ k,G k->k<w.heap.size):=h.lt
 have Hk0:Hid _:=k0
 obtain ⟨nk,hnke⟩:∃ nk,nk=needK b:=⟨_,rfl⟩
 rw [<- hnke] at H11 H0 hnk hnd HSm
 clear h hB hx hz hC hb0 k0 hnke
 go_enter Tryz.func38,Tryz.ntmps38
 go_wp2_with fail
 refine hnd.mono ?_
 clear hnd c0 c1
 rintro _ w1 ⟨rfl,hb1⟩
 obtain ⟨c0,c1⟩:=HBx.out hb1
 have Hb1:Hid (Below w.heap.size w w1):=Hb0.out.trans (hb1.mono Hb0.out.size)
 have HB1:Hid (Below (w.alloc (.cells #[.int .i64 x,.int .i64 z] 39)).heap.size (w.alloc (.cells #[.int .i64 x,.int .i64 z] 39)) w1):=hb1
 clear hb1 Hb0
 obtain ⟨sm,hsm⟩:∃ sm,sm=Z.sumK L x z nk:=⟨_,rfl⟩
 rw [<- hsm] at H11 H0 HSm
 clear hsm
 go_wp2_with fail
 refine (HSm.out w1 Hb1.out).mono ?_
 clear HSm c0 c1
 rintro _ w2 ⟨rfl,hb2⟩
 obtain ⟨c0,c1⟩:=HBx.out (HB1.out.trans (hb2.mono HB1.out.size))
 have Hb2:Hid (Below w.heap.size w w2):=Hb1.out.trans (hb2.mono Hb1.out.size)
 have HB2:Hid (Below (w.alloc (.cells #[.int .i64 x,.int .i64 z] 39)).heap.size (w.alloc (.cells #[.int .i64 x,.int .i64 z] 39)) w2):=HB1.out.trans (hb2.mono HB1.out.size)
 clear hb2 Hb1 HB1 HBx
 by_cases hgt:40<sm
 ·have hgt':(40:Int)<(sm:Int):=by omega
  have R:=H11.out w2 hgt Hb2.out
  clear H11 H0 HS HPl Hb2 HK
  go_wp2
  exact R
 have hgt':¬ (40:Int)<(sm:Int):=by omega
 have Hle:Hid (sm<=40):=by show _<=_;omega
 go_wp2_with fail
 refine (HPl.out w2 Hb2.out).mono ?_
 clear HPl c0 c1
 rintro _ w3 ⟨rfl,hb3⟩
 have hb3w:Below w.heap.size w w3:=Hb2.out.trans (hb3.mono Hb2.out.size)
 have Hb3:Hid (Below w.heap.size w w3):=hb3w
 have HR3:Hid (RSt G B w3 r L av cv):=HS.out w3 hb3w
 have Hk3:Hid (w3.heap[w.heap.size]?=some (.cells #[.int .i64 x,.int .i64 z] 39 (0,0))):=((HB2.out.trans (hb3.mono HB2.out.size)).block _ (Array.getElem?_eq_some_iff.1 Hk0.out).1).trans Hk0.out
 obtain ⟨P,hP⟩:∃ P,Z.plK L x z=P:=⟨_,rfl⟩
 have HP2:Hid (Z.plK L x z=P):=hP
 rw [hP]
 have hc0:=HR3.out.c0
 clear hP hb3 Hb2 HS H11 hb3w
 rcases plK_cases L x z with ⟨hf,hp⟩|⟨k,hk,hf,hp⟩
 ·obtain rfl:P = -1:=HP2.out.symm.trans hp
  have Hrs:=rsvK_none (n:=nk) hf
  rw [Hrs] at H0
  clear hf hp HP2 hc0 Hrs
  obtain ⟨xb,hxb⟩:∃ xb,xb=w.heap.size:=⟨_,rfl⟩
  have Hkb:Hid (w3.heap[xb]?=some (.cells #[.int .i64 x,.int .i64 z] 39 (0,0))):=by rw [hxb];exact Hk3.out
  rw [<- hxb]
  clear hxb Hk3 HB2 Hk0
  go_upto_region 6 with fail
  refine Z.region_L (fun u:World=>u.heap[r]?=some (.cells #[.slice av L.length cv] 34 (0,0))∧u.heap[xb]?=some (.cells #[.int .i64 x,.int .i64 z] 39 (0,0))) 12 (by kernel_rfl) ?_
  have h_va:(fun u:World=>u.heap[r]?=some (.cells #[.slice av L.length cv] 34 (0,0))∧u.heap[xb]?=some (.cells #[.int .i64 x,.int .i64 z] 39 (0,0))) w3.drew:=⟨HR3.out.hd,Hkb.out⟩
  have HRa:Hid (RSt G B w3.drew r L av cv):=HR3.out.on (⟨rfl,rfl,rfl,Nat.le_refl _,fun _ _=>rfl⟩:Below w3.heap.size w3 w3.drew)
  have Hba:Hid (Below w.heap.size w w3.drew):=Hb3.out.trans (Below.mono (⟨rfl,rfl,rfl,Nat.le_refl _,fun _ _=>rfl⟩:Below w3.heap.size w3 w3.drew) Hb3.out.size)
  have hne:Nonempty (Z.Sub (fun u:World=>u.heap[r]?=some (.cells #[.slice av L.length cv] 34 (0,0))∧u.heap[xb]?=some (.cells #[.int .i64 x,.int .i64 z] 39 (0,0)))):=⟨⟨_,h_va⟩⟩
  clear Hkb
  generalize w3.drew=va at *
  have q0:∀ s:Z.Sub (fun u:World=>u.heap[r]?=some (.cells #[.slice av L.length cv] 34 (0,0))∧u.heap[xb]?=some (.cells #[.int .i64 x,.int .i64 z] 39 (0,0))),s.w.cell? ⟨r,0,none⟩=some (.slice av L.length cv):=fun s=>cell_of_row s.w r 0 _ 34 (0,0) s.ok.1
  have q1:∀ s:Z.Sub (fun u:World=>u.heap[r]?=some (.cells #[.slice av L.length cv] 34 (0,0))∧u.heap[xb]?=some (.cells #[.int .i64 x,.int .i64 z] 39 (0,0))),s.w.cell? ⟨xb,0,none⟩=some (.int .i64 x):=fun s=>cell_of_row s.w xb 0 _ 39 (0,0) s.ok.2
  have q2:∀ s:Z.Sub (fun u:World=>u.heap[r]?=some (.cells #[.slice av L.length cv] 34 (0,0))∧u.heap[xb]?=some (.cells #[.int .i64 x,.int .i64 z] 39 (0,0))),s.w.cell? ⟨xb,1,none⟩=some (.int .i64 z):=fun s=>cell_of_row s.w xb 1 _ 39 (0,0) s.ok.2
  refine Z.gen_L (by intro d v c a w h;cases d <;> exact h) (fun QX HQP HQX=>?_)
  refine Z.tk 0 rfl HQP h_va fun K hK=>?_;go_simp;refine hK _ ?_;clear hK K
  refine Z.tk 1 rfl HQP h_va fun K hK=>?_;go_simp;refine hK _ ?_;clear hK K
  refine Z.tk 2 rfl HQP h_va fun K hK=>?_;go_simp;refine hK _ ?_;clear hK K
  refine Z.tk 3 rfl HQP h_va fun K hK=>?_;go_simp;refine hK _ ?_;clear hK K
  refine Z.tk 4 rfl HQP h_va fun K hK=>?_;go_simp;refine hK _ ?_;clear hK K
  refine Z.tk 5 rfl HQP h_va fun K hK=>?_;go_simp;refine hK _ ?_;clear hK K
  refine Z.ol 6 rfl fun K hK=>?_
  go_simp
  refine hK.out _ _ (fun _=>h_va) ?_
  clear hK K
  refine Z.ol 7 rfl fun K hK=>?_
  go_simp
  refine hK.out _ _ (fun _=>h_va) ?_
  clear hK K
  refine Z.ol 8 rfl fun K hK=>?_
  go_simp
  have hb6:Below va.heap.size va (va.alloc (.cells #[.int .i64 x,.int .i64 z,.slice none 0 0,.int .i64 (nk:Int)] 103)):=(Below.refl _ _).alloc (Nat.le_refl _) _
  have hnw:=heap_alloc_new va (.cells #[.int .i64 x,.int .i64 z,.slice none 0 0,.int .i64 (nk:Int)] 103)
  have h_v1:(fun u:World=>u.heap[r]?=some (.cells #[.slice av L.length cv] 34 (0,0))∧u.heap[xb]?=some (.cells #[.int .i64 x,.int .i64 z] 39 (0,0))) (va.alloc (.cells #[.int .i64 x,.int .i64 z,.slice none 0 0,.int .i64 (nk:Int)] 103)):=⟨(hb6.block _ (Array.getElem?_eq_some_iff.1 h_va.1).1).trans h_va.1,(hb6.block _ (Array.getElem?_eq_some_iff.1 h_va.2).1).trans h_va.2⟩
  have HRb:Hid _:=HRa.out.on hb6
  have Hbb:Hid (Below w.heap.size w (va.alloc (.cells #[.int .i64 x,.int .i64 z,.slice none 0 0,.int .i64 (nk:Int)] 103))):=Hba.out.trans (hb6.mono Hba.out.size)
  refine hK.out _ _ (fun _=>h_v1) ?_
  clear hK K HRa Hba hb6 h_va
  obtain ⟨nb,hnb⟩:∃ nb,nb=va.heap.size:=⟨_,rfl⟩
  rw [<- hnb] at hnw ⊢
  generalize va.alloc (.cells #[.int .i64 x,.int .i64 z,.slice none 0 0,.int .i64 (nk:Int)] 103)=v1 at *
  clear hnb
  refine Z.one_W (i:=9) (by kernel_rfl) rfl (fun K hK=>?_)
  refine wpList_append_one Tryz.underlying32 info103 rfl (by decide) (by decide) rfl _ _ rfl B av cv L.length (kcells L) rfl HRb.out.row nb 1 [.int .i64 x,.int .i64 z,.slice none 0 0,.int .i64 (nk:Int)] rfl hnw rfl (by intro u hu;simp at hu;rcases hu with rfl | rfl | rfl | rfl <;> rfl) (by omega) (Nat.le_trans HK.out.1 Hbb.out.size) ?_
  intro ga cc v2 hrow hgr hga hgl
  have h_v2:(fun u:World=>u.heap[r]?=some (.cells #[.slice av L.length cv] 34 (0,0))∧u.heap[xb]?=some (.cells #[.int .i64 x,.int .i64 z] 39 (0,0))) v2:=⟨(grown_other HRb.out.row hgr (by decide) h_v1.1).trans h_v1.1,(grown_other HRb.out.row hgr (by decide) h_v1.2).trans h_v1.2⟩
  have HN2:Hid _:=rst_push HRb.out (q:=⟨x,z,none,0,[],nk⟩) (.inl ⟨rfl,rfl,rfl⟩) (fun p e=>by cases e) (by show nk<=100000;omega) ⟨HK.out.2.1,HK.out.2.2⟩ (by omega) hrow hgr hga hgl
  refine hK.out _ _ (fun _=>h_v2) ?_
  clear hK K HRb h_v1 hrow hgr hga hgl hnw
  refine Z.ol 10 rfl fun K hK=>?_
  go_simp
  refine hK.out _ _ (fun _=>h_v2) ?_
  clear hK K
  refine Z.ol 11 rfl fun K hK=>?_
  go_simp
  refine hK.out _ _ (fun _=>h_v2) ?_
  clear hK K
  refine Z.ol 12 rfl fun K hK=>?_
  have hce:v2.cell? ⟨r,0,none⟩=some (.slice av L.length cv):=cell_of_row v2 r 0 _ 34 (0,0) h_v2.1
  have hfr:v2.frozen? ⟨r,0,none⟩=false:=frozen_of_row v2 r 0 _ 34 h_v2.1
  clear hne q0 q1 q2
  go_simp
  refine hK.out _ _ (fun h=>absurd rfl h) ?_
  clear hK K hce hfr h_v2
  refine Z.done_L (by kernel_rfl) ?_ _
  refine HQX.out _ _ ?_
  clear HQX HQP QX
  have hch:=(chg_of_below (G:=G) Hbb.out).trans HN2.out.1 (fun k hk=>.inl hk)
  have R:=H0.out _ _ _ Hle.out hch (HN2.out.2.more (fun k hk=>hk.imp id (fun h=>⟨Nat.le_trans Hbb.out.size h.1,h.2⟩)) (gr_lt (fun j hj=>Hlt.out j hj) hch.size))
  clear H0 HR3 Hb3 Hle HN2 hch HK Hbb Hlt
  go_wp2
  exact R
 ·obtain rfl:P=(k:Int):=HP2.out.symm.trans hp
  have Hrs:=rsvK_some (n:=nk) hk hf
  rw [Hrs] at H0
  clear hf hp HP2 Hrs
  have hkn:¬ ((k:Int)<0):=by omega
  have hform:=HR3.out.row.form
  rcases hform with ⟨_,he,_⟩|⟨g,rfl⟩
  ·rw [he] at hk;simp at hk
  have e3:=(HR3.out.row.cell hk).2.2.2
  have hfr:=HR3.out.row.free (k*4+3)
  obtain ⟨hcv,hmx⟩:L.length<=cv∧cv<=maxLen:=by
   obtain ⟨_,_,_,h1,h2,_⟩:=HR3.out.row.blk
   exact ⟨h1,h2⟩
  have hst:=HR3.out.setm hk (m:=nk) (by omega)
  have hGg:G g:=HR3.out.gv g rfl
  have hch:Chg G w (w3.setCell ⟨g,k*4+3,none⟩ (.int .i64 (nk:Int))):=⟨Hb3.out.os,Hb3.out.tape,Hb3.out.output,by simp;exact Hb3.out.size,fun j hj hn=>(Below.heap_setCell w3 ⟨g,k*4+3,none⟩ _ j (fun e=>hn (e▸hGg))).trans (Hb3.out.block j hj)⟩
  have R:=H0.out _ _ _ Hle.out hch (hst.more (fun j hj=>.inl hj) (gr_lt (fun j hj=>Hlt.out j hj) hch.size))
  clear H0 HR3 Hb3 Hle hst hch HK Hk3 HB2 Hk0 Hlt
  go_wp2
  exact R
end Go.Proofs.YtlllmmceoeihkaaGreat
set_option maxRecDepth 20000
namespace Go.Proofs.YtlllmmceoeihkaaGreat
open Go.RowKit
open Z (Km RSt KRow Cz loadK)
theorem erow_ok {B:Nat} {w:World} {av:Option Addr} {cv:Nat} {es:List Eb} (h:ERow B w av cv es):∀ e∈es,e.ok∧e.n=32768:=fun e he=>⟨(h.dat e he).2.2.2.1,(h.dat e he).2.1⟩
theorem erow_i64 {B:Nat} {w:World} {av:Option Addr} {cv:Nat} {es:List Eb} (h:ERow B w av cv es):∀ e∈es,I64 e.x∧I64 e.z:=fun e he=>(h.dat e he).2.2.2.2
end Go.Proofs.YtlllmmceoeihkaaGreat
set_option maxRecDepth 20000
namespace Go.Proofs.YtlllmmceoeihkaaGreat
open Go.RowKit
open Z (Km RSt KRow Cz needK loadK)
structure PW (n0:Nat) (w:World) (d s r:Nat) (F:Nat->Prop) (m n:Nat) (S:St) (V:List Bk) (R:Rf) (G:Nat->Prop) (B:Nat) (L:List Km) (av:Option Addr) (cv:Nat):Prop where
 so:SO F w s d m n S V R
 rs:RSt G B w r L av cv
 hB:B<=w.heap.size
 n0w:n0<=w.heap.size
 fo:∀ k,F k->n0<=k∧¬ G k
 sk:n0<=s∧¬ G s
 mo:n0<=m∧¬ G m
 go:∀ k,G k->n0<=k
section
variable {n0:Nat} {w w':World} {d s r:Nat} {F:Nat->Prop} {m n:Nat} {S:St} {V:List Bk} {R:Rf} {G:Nat->Prop} {B:Nat} {L:List Km} {av:Option Addr} {cv:Nat}
theorem PW.on (h:PW n0 w d s r F m n S V R G B L av cv) (hb:Below w.heap.size w w'):PW n0 w' d s r F m n S V R G B L av cv :=
 ⟨h.so.on hb,h.rs.on hb,Nat.le_trans h.hB hb.size,Nat.le_trans h.n0w hb.size,h.fo,h.sk,h.mo,h.go⟩
theorem PW.prog (h:PW n0 w d s r F m n S V R G B L av cv) (hc:Chg (fun k=>F k∨k=m) w w') {F':Nat->Prop} {s' m' n':Nat} {S':St} {V':List Bk} {R':Rf} (hS:SO F' w' s' d m' n' S' V' R') (hF:∀ k,F' k->Gr F w w' k) (hs:s'=s∨w.heap.size<=s') (hm:m'=m∨w.heap.size<=m'):PW n0 w' d s' r F' m' n' S' V' R' G B L av cv:=by
 have hnew:∀ k,w.heap.size<=k->n0<=k∧¬ G k:=fun k hk=>⟨Nat.le_trans h.n0w hk,fun hg=>by have:=h.rs.lt k hg;omega⟩
 exact ⟨hS,h.rs.keep (fun k hk=>hc.block k (h.rs.lt k hk) (fun e=>e.elim (fun hf=>(h.fo k hf).2 hk) (fun e=>h.mo.2 (e▸hk)))) hc.size,Nat.le_trans h.hB hc.size,Nat.le_trans h.n0w hc.size,fun k hk=>(hF k hk).elim (h.fo k) (fun hn=>hnew k hn.1),hs.elim (fun e=>e▸h.sk) (hnew _),hm.elim (fun e=>e▸h.mo) (hnew _),h.go⟩
theorem PW.doc (h:PW n0 w d s r F m n S V R G B L av cv) (hc:Chg G w w') {r':Nat} {G':Nat->Prop} {B':Nat} {L':List Km} {av':Option Addr} {cv':Nat} (hR:RSt G' B' w' r' L' av' cv') (hG:∀ k,G' k->Gr G w w' k) (hB:B'<=w'.heap.size):PW n0 w' d s r' F m n S V R G' B' L' av' cv':=by
 have hlt:=h.so.lts
 refine ⟨h.so.keep (fun k hk=>hc.block k (h.so.lt k hk) (h.fo k hk).2) (hc.block s hlt.1 h.sk.2) (hc.block m hlt.2 h.mo.2) hc.size,hR,hB,Nat.le_trans h.n0w hc.size,fun k hk=>⟨(h.fo k hk).1,fun hg=>(hG k hg).elim (h.fo k hk).2 (fun hn=>by have:=h.so.lt k hk;omega)⟩,⟨h.sk.1,fun hg=>(hG s hg).elim h.sk.2 (fun hn=>by omega)⟩,⟨h.mo.1,fun hg=>(hG m hg).elim h.mo.2 (fun hn=>by omega)⟩,fun k hk=>(hG k hk).elim (h.go k) (fun hn=>Nat.le_trans h.n0w hn.1)⟩
theorem PW.below (h:PW n0 w d s r F m n S V R G B L av cv) (hc:Chg (fun k=>F k∨k=m) w w'):Below n0 w w':=chg_below hc (fun k hk=>hk.elim (fun hf=>(h.fo k hf).1) (fun e=>e▸h.mo.1)) h.n0w
theorem PW.below2 (h:PW n0 w d s r F m n S V R G B L av cv) (hc:Chg G w w'):Below n0 w w':=chg_below hc h.go h.n0w
end
structure Tell (E:Ed) (S:St) (V:List Bk) (R:Rf) (L:List Km) (wb:Int) (M:Nat):Prop where
 has:Has V E
 rok:RfOk R
 free:S.free
 wr:S.writes<=wb
 doc:DocE L E
 many:∀ x z,manyK L x z=manyR R E x z
 ok:EdOk E
 len:L.length<=M
def Both (n0:Nat) (w:World) (d s r:Nat) (E:Ed) (wb:Int) (N M:Nat):Prop:=∃ (F:Nat->Prop) (m n:Nat) (S:St) (V:List Bk) (R:Rf) (G:Nat->Prop) (B:Nat) (L:List Km) (av:Option Addr) (cv:Nat),PW n0 w d s r F m n S V R G B L av cv∧Tell E S V R L wb M∧n<=N
theorem many_r0 {L:List Km} {E:Ed} (h:DocE L E) (hm:ManyOk L) (hE:EdOk E) (x z:Int):manyK L x z=manyR R0 E x z:=by
 rw [hm,h.load,ed_need hE]
 rfl
theorem need_dat (cs:List Int):needK cs=needS (datB cs).length:=by
 unfold needK datB
 cases Z.noneB cs with
 | true=>rw [if_pos rfl,if_pos rfl];rfl
 | false=>rw [if_neg (by decide),if_neg (by decide)];rfl
theorem many_put {L:List Km} {R:Rf} {E:Ed} (h:∀ x z,manyK L x z=manyR R E x z) (x z:Int) (n:Nat) (x' z':Int):manyK (rsvK L x z n) x' z'=manyR (R.put x z (n:Int)) E x' z':=by
 rw [rsvK_many]
 unfold manyR Rf.put
 by_cases e:x'=x∧z'=z
 ·rw [if_pos e,if_pos e]
  simp
 ·rw [if_neg e,if_neg e,h]
  rfl
theorem Both.on {n0:Nat} {w w':World} {d s r:Nat} {E:Ed} {wb:Int} {N M:Nat} (h:Both n0 w d s r E wb N M) (hb:Below w.heap.size w w'):Both n0 w' d s r E wb N M:=by
 obtain ⟨F,m,n,S,V,R,G,B,L,av,cv,h1,h2⟩:=h
 exact ⟨F,m,n,S,V,R,G,B,L,av,cv,h1.on hb,h2⟩
theorem Both.more {n0:Nat} {w:World} {d s r:Nat} {E:Ed} {wb wb':Int} {N M N' M':Nat} (h:Both n0 w d s r E wb N M) (h1:wb<=wb') (h2:N<=N') (h3:M<=M'):Both n0 w d s r E wb' N' M':=by
 obtain ⟨F,m,n,S,V,R,G,B,L,av,cv,hp,ht,hn⟩:=h
 exact ⟨F,m,n,S,V,R,G,B,L,av,cv,hp,⟨ht.has,ht.rok,ht.free,Int.le_trans ht.wr h1,ht.doc,ht.many,ht.ok,Nat.le_trans ht.len h3⟩,Nat.le_trans hn h2⟩
theorem doc_save {n0:Nat} {w w':World} {d s r:Nat} {F:Nat->Prop} {m n:Nat} {S:St} {V:List Bk} {G:Nat->Prop} {B:Nat} {L:List Km} {av:Option Addr} {cv:Nat} (h:PW n0 w d s r F m n S V R0 G B L av cv) {E:Ed} {es:List Eb} {e:Ending} (hs:SaveDoc G w L E es e w') (hf:fits E es) (hok:EdOk (setE E es)) (hV:Has V (setE E es)) (hfr:S.free) {wb:Int} (hw:S.writes<=wb) {M:Nat} (hM:L.length+es.length<=M) (hn:n=0) :
  ∃ r',e = .returned (.tuple #[.pointer (some ⟨r',0,none⟩),.bool true])∧Below w.heap.size w w'∧Both n0 w' d s r' (setE E es) wb 0 M:=by
 obtain ⟨hb,⟨_,r',L',av',cv',rfl,hsv,hd,hm,hl⟩|⟨hnf,_⟩⟩:=hs
 ·exact ⟨r',rfl,hb,F,m,n,S,V,R0,_,_,L',av',cv',h.doc (chg_of_below hb) hsv.st (fun k hk=>hk) hb.size,⟨hV,rfok0,hfr,hw,hd,fun x z=>many_r0 hd hm hok x z,hok,by omega⟩,by omega⟩
 ·exact absurd hf hnf
theorem cz_blk {w:World} {g:Nat} {cs:List Int} (h:K.Blk w g 5 cs) (ho:cs.length=32768∧K.Kinds cs):Cz w (some ⟨g,0,none⟩) 32768 cs :=
 .inr ⟨g,rfl,ho.1,by rw [ho.1];exact Nat.le_refl _,by unfold maxLen;omega,ho.2,blk_pfx h⟩
set_option maxHeartbeats 4000000 in
theorem does_c {n0:Nat} {w:World} {d s r:Nat} {E:Ed} {wb:Int} {N M:Nat} (h:Both n0 w d s r E wb N M) (hw:wb<=800000) (hN:N<=1000) (hM:M<=1500) (o:LOp) (hW:∀ W,Below n0 w W->WksAt W o.a o.l) (hl:o.l.length=o.n) (hn:o.n<=6) (hnr:∀ p∈o.l,Near p) :
  Calls Tryz.prog 13 #[.pointer (some ⟨d,0,none⟩),.pointer (some ⟨s,0,none⟩),.pointer (some ⟨r,0,none⟩),.agg #[.int .i64 o.kd,.slice o.a o.n o.c]] w fun e w'=>Below n0 w w'∧∃ s' r' E',e = .returned (.tuple #[.pointer (some ⟨s',0,none⟩),.pointer (some ⟨r',0,none⟩),.bool true])∧Both n0 w' d s' r' E' (wb+2000) (N+1) (M+6):=by
 obtain ⟨Post,hPost⟩:∃ Post:Ending->World->Prop,Post=fun e w'=>Below n0 w w'∧∃ s' r' E',e = .returned (.tuple #[.pointer (some ⟨s',0,none⟩),.pointer (some ⟨r',0,none⟩),.bool true])∧Both n0 w' d s' r' E' (wb+2000) (N+1) (M+6):=⟨_,rfl⟩
 rw [<- hPost]
 have HP:Hid (∀ w' s' r' E',Below n0 w w'->Both n0 w' d s' r' E' (wb+2000) (N+1) (M+6)->Post (.returned (.tuple #[.pointer (some ⟨s',0,none⟩),.pointer (some ⟨r',0,none⟩),.bool true])) w'):=fun w' s' r' E' h1 h2=>by rw [hPost];exact ⟨h1,s',r',E',rfl,h2⟩
 clear hPost
 obtain ⟨F,m,n,S,V,R,G,B,L,av,cv,hp,ht,hnN⟩:=h
 have HPw:Hid (PW n0 w d s r F m n S V R G B L av cv):=hp
 have HT:Hid (Tell E S V R L wb M∧n<=N):=⟨ht,hnN⟩
 have HW:Hid (∀ W,Below n0 w W->WksAt W o.a o.l):=hW
 have Hl:Hid (o.l.length=o.n):=hl
 have Hn:Hid (o.n<=6):=hn
 have HNr:Hid (∀ p∈o.l,Near p):=hnr
 have HB:Hid (wb<=800000∧N<=1000∧M<=1500):=⟨hw,hN,hM⟩
 obtain ⟨kd,oa,on,oc,ol⟩:=o
 simp only at HW Hl Hn HNr hn
 clear hp ht hnN hW hl hnr hw hN hM
 have hk0:=heap_alloc_new w (.cells #[.int .i64 kd,.slice oa on oc] 37)
 have hb0:Below w.heap.size w (w.alloc (.cells #[.int .i64 kd,.slice oa on oc] 37)):=(Below.refl _ _).alloc (Nat.le_refl _) _
 have b0:(w.alloc (.cells #[.int .i64 kd,.slice oa on oc] 37)).cell? ⟨w.heap.size,0,none⟩=some (.int .i64 kd):=by rw [cell_of_row _ _ 0 _ 37 (0,0) hk0];rfl
 have b1:(w.alloc (.cells #[.int .i64 kd,.slice oa on oc] 37)).cell? ⟨w.heap.size,1,none⟩=some (.slice oa on oc):=by rw [cell_of_row _ _ 1 _ 37 (0,0) hk0];rfl
 have HP0:Hid (PW n0 (w.alloc (.cells #[.int .i64 kd,.slice oa on oc] 37)) d s r F m n S V R G B L av cv):=HPw.out.on hb0
 have Hb0:Hid (Below n0 w (w.alloc (.cells #[.int .i64 kd,.slice oa on oc] 37))):=hb0.mono HPw.out.n0w
 have Hk0:Hid _:=hk0
 have Hlt:Hid (∀ k,(F k∨k=m)∨G k->k<w.heap.size):=fun k hk=>by
  rcases hk with (hk | rfl) | hk
  ·exact HPw.out.so.lt k hk
  ·exact HPw.out.so.lts.2
  ·exact HPw.out.rs.lt k hk
 have Hn0:Hid (n0<=(w.alloc (.cells #[.int .i64 kd,.slice oa on oc] 37)).heap.size):=Nat.le_trans HPw.out.n0w hb0.size
 have hmx:on<=9223372036854775807:=by omega
 clear hb0 hk0 HPw
 go_enter Tryz.func13,Tryz.ntmps13
 go_upto_region 1 with fail
 generalize w.alloc (.cells #[.int .i64 kd,.slice oa on oc] 37)=w0 at *
 generalize w.heap.size=bx at *
 by_cases h3:kd=3
 ·subst h3
  have hop:=open_st F d S V w0 (by obtain ⟨j,_,hJ⟩:=HP0.out.so.hd;exact hJ.1) HP0.out.so.lt (by obtain ⟨j,_,hJ⟩:=HP0.out.so.hd;exact .inl hJ.2.1) (by have:=HT.out.1.wr;have:=HB.out.1;omega)
  clear Hk0
  go_wp2_with fail
  refine hop.mono ?_
  clear hop b0 b1
  rintro _ w1 ⟨S',sv,Er,rfl,hC,hwr,hst,⟨rfl,s',m',F',rfl,hS,hF',hs,hm⟩|⟨_,_,hnf,_⟩⟩
  rotate_left
  ·exact absurd HT.out.1.free hnf
  have hc:Chg (fun k=>F k∨k=m) w0 w1:=⟨hC.os,hC.tape,hC.output,hC.size,fun k hk hn=>hC.block k hk (fun hf=>hn (.inl hf))⟩
  have HP1:Hid (PW n0 w1 d s' r F' m' 0 S' V R0 G B L av cv):=HP0.out.prog hc hS hF' (.inr hs) (.inr hm)
  have Hb1:Hid (Below n0 w w1):=Hb0.out.trans (HP0.out.below hc)
  have HS1:Hid (S'.free∧S'.writes<=wb+2000):=⟨hst.free HT.out.1.free,by have:=HT.out.1.wr;omega⟩
  have hsv:=ssave_c HP1.out.rs HT.out.1.doc HT.out.1.ok none 0 0 [] (fun k hk=>absurd hk (by simp)) rfl (by omega) (fun e he=>by cases he) (by have:=HT.out.1.len;have:=HB.out.2.2;omega)
  clear hC hwr hst hS hF' hs hm hc HP0 Hb0
  go_wp2_with fail
  refine hsv.mono ?_
  clear hsv
  rintro _ w2 hsd
  obtain ⟨r',rfl,hb2,hbo⟩:=doc_save HP1.out hsd (fun e he=>by cases he) HT.out.1.ok HT.out.1.has HS1.out.1 HS1.out.2 (M:=M+6) (by have:=HT.out.1.len;simp only [List.length_nil];omega) rfl
  have R:=HP.out w2 s' r' _ (Hb1.out.trans (hb2.mono HP1.out.n0w)) (hbo.more (Int.le_refl _) (Nat.zero_le _) (Nat.le_refl _))
  clear HP HP1 Hb1 HS1 HT HW Hl Hn HNr HB hsd hb2 hbo
  go_wp2
  go_ret3
  exact R
 have h3':¬ kd=3:=h3
 by_cases hn0:on=0
 ·have hn0':(on:Int)=0:=by omega
  have R:=HP.out w0 s r E Hb0.out (Both.more ⟨F,m,n,S,V,R,G,B,L,av,cv,HP0.out,HT.out⟩ (by omega) (by omega) (by omega))
  clear HP HP0 Hb0 HT HW Hl Hn HNr HB Hk0
  go_wp2
  go_ret3
  exact R
 have hn0':¬ (on:Int)=0:=by omega
 have HI:Hid (∀ p∈ol,I64 p.x∧I64 p.z):=fun p hp=>near_i64 (HNr.out p hp)
 by_cases hk:kd=0
 ·subst hk
  have hed:=edits_c oa on oc ol w0 (HW.out _ Hb0.out) Hl.out (by omega)
  clear Hk0
  go_wp2_with fail
  refine hed.mono ?_
  clear hed b0 b1
  rintro _ w1 ⟨hb1,ea,ec,es,rfl,hrw,hof⟩
  have hlen:es.length=on:=hof.1.trans Hl.out
  rw [hlen]
  have HP1:Hid (PW n0 w1 d s r F m n S V R G B L av cv):=HP0.out.on hb1
  have Hb1:Hid (Below n0 w w1):=Hb0.out.trans (hb1.mono HP0.out.n0w)
  have HE:Hid (ERow w0.heap.size w1 ea ec es∧es.length=on):=⟨hrw,hlen⟩
  have HG:Hid ((∀ k,F k∨k=m->k<w0.heap.size)∧w0.heap.size<=w1.heap.size):=⟨fun k hk=>hk.elim (HP0.out.so.lt k) (fun e=>e▸HP0.out.so.lts.2),hb1.size⟩
  have hsv:=save_c (c:=ec) HP1.out.so HT.out.1.has hrw.eds hlen hn (fun e he=>(erow_ok hrw e he).1) (erow_i64 hrw) (by have:=HT.out.1.wr;have:=HB.out.1;omega)
  clear hb1 hrw hof hlen HP0 Hb0
  go_wp2_with fail
  refine hsv.mono ?_
  clear hsv
  rintro _ w2 ⟨Er,rfl,hres⟩
  have hcase:(Below w1.heap.size w1 w2∧((¬ Once es∧Er=1)∨(Once es∧¬ fits E es∧Er=11)))∨(Once es∧fits E es∧Er=0∧∃ S' V',Has V' (setE E es)∧S'.writes<=S.writes+2000∧S'.free∧Chg (fun k=>F k∨k=m) w1 w2∧SO (Gr F w1 w2) w2 s d m 0 S' V' R0):=by
   rcases hres with ⟨k1,k2,k3⟩|⟨_,k2,_⟩|⟨k1,_,k2,k3,k4⟩|⟨k1,k2,S',V',k3,k4,k5,⟨k6,_,k7,k8⟩|⟨_,k6,_⟩⟩
   ·exact .inl ⟨k3,.inl ⟨k1,k2⟩⟩
   ·rw [HT.out.1.free.1] at k2;cases k2
   ·exact .inl ⟨k4,.inr ⟨k1,k2,k3⟩⟩
   ·exact .inr ⟨k1,k2,k6,S',V',k3,k4,k5.free HT.out.1.free,k7,k8⟩
   ·exact absurd HT.out.1.free k6
  have HC:Hid _:=hcase
  have HE2:Hid (ERow w0.heap.size w2 ea ec es):=by
   rcases hcase with ⟨hb,_⟩|⟨_,_,_,_,_,_,_,_,hc,_⟩
   ·exact HE.out.1.on hb
   ·exact ⟨own_keep HE.out.1.row (fun b cur hb1 hb2 _=>hc.block b (Array.getElem?_eq_some_iff.1 hb1).1 (fun hf=>by have:=HG.out.1 b hf;omega)),fun e he=>by
     obtain ⟨⟨g,h1,h2,h3⟩,h4⟩:=HE.out.1.dat e he
     exact ⟨⟨g,h1,h2,(hc.block g (Array.getElem?_eq_some_iff.1 h3).1 (fun hf=>by have:=HG.out.1 g hf;omega)).trans h3⟩,h4⟩⟩
  clear hres hcase
  have hmy:=smay_c ea on ec es w2 HE2.out.eds HE.out.2 (by omega) (erow_ok HE2.out)
  go_wp2_with fail
  refine hmy.mono ?_
  clear hmy
  rintro _ w3 ⟨hb3,hmay⟩
  rcases HC.out with ⟨hb2,hno⟩|⟨hon,hft,rfl,S',V',hV',hw',hf',hc,hS'⟩
  ·have HP3:Hid (PW n0 w3 d s r F m n S V R G B L av cv):=(HP1.out.on hb2).on hb3
   have Hb3:Hid (Below n0 w w3):=Hb1.out.trans ((hb2.trans (hb3.mono hb2.size)).mono HP1.out.n0w)
   rcases hno with ⟨hno,rfl⟩|⟨hon,hnf,rfl⟩
   ·rcases hmay with ⟨_,ho⟩|⟨rfl,_⟩
    ·exact absurd ho hno
    have R:=HP.out w3 s r E Hb3.out (Both.more ⟨F,m,n,S,V,R,G,B,L,av,cv,HP3.out,HT.out⟩ (by omega) (by omega) (by omega))
    clear HP HP1 HP3 Hb1 Hb3 HT HW Hl Hn HNr HB HE HE2 HG HI HC hb2 hb3 hno
    go_wp2
    go_ret3
    exact R
   ·rcases hmay with ⟨rfl,_⟩|⟨_,ho⟩
    rotate_left
    ·exact absurd hon ho
    have hsv:=ssave_c (c:=ec) HP3.out.rs HT.out.1.doc HT.out.1.ok ea on es (HE2.out.on hb3).eds HE.out.2 hn (erow_ok HE2.out) (by have:=HT.out.1.len;have:=HB.out.2.2;omega)
    clear hb2
    go_wp2_with fail
    refine hsv.mono ?_
    clear hsv
    rintro _ w4 ⟨hb4,⟨hf,_⟩|⟨_,rfl⟩⟩
    ·exact absurd hf hnf
    have R:=HP.out w4 s r E (Hb3.out.trans (hb4.mono HP3.out.n0w)) (Both.more ⟨F,m,n,S,V,R,G,B,L,av,cv,HP3.out.on hb4,HT.out⟩ (by omega) (by omega) (by omega))
    clear HP HP1 HP3 Hb1 Hb3 HT HW Hl Hn HNr HB HE HE2 HG HI HC hb3 hon hnf hb4
    go_wp2
    go_ret3
    exact R
  ·rcases hmay with ⟨rfl,_⟩|⟨_,ho⟩
   rotate_left
   ·exact absurd hon ho
   have HP2:=HP1.out.prog hc hS' (fun k hk=>hk) (.inl rfl) (.inl rfl)
   have HP3:Hid (PW n0 w3 d s r (Gr F w1 w2) m 0 S' V' R0 G B L av cv):=HP2.on hb3
   have Hb3:Hid (Below n0 w w3):=(Hb1.out.trans (HP1.out.below hc)).trans (hb3.mono HP2.n0w)
   have hsv:=ssave_c (c:=ec) HP3.out.rs HT.out.1.doc HT.out.1.ok ea on es (HE2.out.on hb3).eds HE.out.2 hn (erow_ok HE2.out) (by have:=HT.out.1.len;have:=HB.out.2.2;omega)
   have HV:Hid (Has V' (setE E es)∧S'.free∧S'.writes<=wb+2000∧fits E es):=⟨hV',hf',by have:=HT.out.1.wr;omega,hft⟩
   clear hV' hw' hf' hc hS' HP2 hon hft hb3
   go_wp2_with fail
   refine hsv.mono ?_
   clear hsv
   rintro _ w4 hsd
   obtain ⟨r',rfl,hb4,hbo⟩:=doc_save HP3.out hsd HV.out.2.2.2 (setE_ok HT.out.1.ok (fun e he=>(erow_ok HE2.out e he).1)) HV.out.1 HV.out.2.1 HV.out.2.2.1 (M:=M+6) (by have:=HT.out.1.len;have:=HE.out.2;omega) rfl
   have R:=HP.out w4 s r' _ (Hb3.out.trans (hb4.mono HP3.out.n0w)) (hbo.more (Int.le_refl _) (Nat.zero_le _) (Nat.le_refl _))
   clear HP HP1 HP3 Hb1 Hb3 HT HW Hl Hn HNr HB HE HE2 HG HI HC HV hsd hb4 hbo
   go_wp2
   go_ret3
   exact R
 have hk':¬ kd=0:=hk
 have hol:0<ol.length:=by have:=Hl.out;omega
 have hpos:0<on:=by omega
 obtain ⟨lb,lo,rfl,hat0⟩:=HW.out _ Hb0.out 0 hol
 clear hat0
 have HA:Hid (∀ W,Below n0 w W->WkAt W lb lo 0 ol[0]):=fun W hb=>by
  obtain ⟨b,off,e,h⟩:=(HW.out W hb) 0 hol
  cases e
  exact h
 have HNk:Hid (Near ol[0]∧I64 ol[0].x∧I64 ol[0].z):=⟨HNr.out _ (List.getElem_mem hol),HI.out _ (List.getElem_mem hol)⟩
 generalize ol[0]=p at *
 clear HI HNr HW Hl
 by_cases h1:kd=1
 ·subst h1
  have hat:=HA.out _ Hb0.out
  have c0:=hat.c0
  have c1:=hat.c1
  have c2:=hat.c2
  have c3:=hat.c3
  have c4:=hat.c4
  have hce:=lcells_c p w0 hat.l
  have Hok:Hid ((cellsW p).length=32768∧K.Kinds (cellsW p)):=cellsW_ok p
  rw [Nat.zero_mul,Nat.add_zero] at c0 c1 c2 c3 c4
  clear hat
  go_wp2_with fail
  refine hce.mono ?_
  clear hce c0 c1 c2 c3 c4 b0 b1
  rintro _ w1 ⟨hb1,g,hg,rfl,hBk⟩
  have hfr:=K.from_c (some ⟨g,0,none⟩) 32768 32768 (cellsW p) w1 (K.Bytes.src (kblk_bytes hBk Hok.out)) (by omega)
  have HP1:Hid (PW n0 w1 d s r F m n S V R G B L av cv):=HP0.out.on hb1
  have Hb1:Hid (Below w0.heap.size w0 w1):=hb1
  have HBk1:Hid (K.Blk w1 g 5 (cellsW p)):=hBk
  clear hb1 hBk HP0
  go_wp2_with fail
  refine hfr.mono ?_
  clear hfr
  rintro _ w2 ⟨hb2,⟨_,rfl,hCh⟩|⟨h0,_⟩⟩
  rotate_left
  ·exact absurd (K.Kinds.may Hok.out.2 Hok.out.1) h0
  have HP2:Hid (PW n0 w2 d s r F m n S V R G B L av cv):=HP1.out.on hb2
  have HCh:Hid (K.Blk w2 w1.heap.size 122 (cellsW p)):=hCh
  have HBk2:Hid (K.Blk w2 g 5 (cellsW p)):=(hb2.block g (Array.getElem?_eq_some_iff.1 HBk1.out).1).trans HBk1.out
  have Hb2:Hid (Below w0.heap.size w0 w2):=Hb1.out.trans (hb2.mono Hb1.out.size)
  have Hk2:Hid (w2.heap[bx]?=some (.cells #[.int .i64 1,.slice (some ⟨lb,lo,none⟩) on oc] 37 (0,0))):=(Hb2.out.block bx (Array.getElem?_eq_some_iff.1 Hk0.out).1).trans Hk0.out
  have hbx:bx<w0.heap.size:=(Array.getElem?_eq_some_iff.1 Hk0.out).1
  have Hlo:Hid (g≠bx∧(∀ k,F k∨k=m->k≠g)∧∀ k,(F k∨k=m)∨G k->k≠bx):=⟨by omega,fun k hk=>by have:=Hlt.out k (.inl hk);omega,fun k hk=>by have:=Hlt.out k hk;omega⟩
  have Hbn:Hid (Below n0 w w2):=Hb0.out.trans (Hb2.out.mono Hn0.out)
  obtain ⟨cs,hcs⟩:∃ cs,cs=cellsW p:=⟨_,rfl⟩
  rw [<- hcs] at Hok HCh HBk2
  clear hb2 hCh HP1 HBk1 Hb1 Hb2 Hk0 hbx hg hcs Hb0
  generalize w1.heap.size=cg at *
  go_upto_region 23 with fail
  refine Z.region_L (fun u:World=>u.heap[bx]?=some (.cells #[.int .i64 1,.slice (some ⟨lb,lo,none⟩) on oc] 37 (0,0))∧Below n0 w u) 99 (by kernel_rfl) ?_
  have h_va:(fun u:World=>u.heap[bx]?=some (.cells #[.int .i64 1,.slice (some ⟨lb,lo,none⟩) on oc] 37 (0,0))∧Below n0 w u) w2.drew:=⟨Hk2.out,Hbn.out.trans (Below.mono (⟨rfl,rfl,rfl,Nat.le_refl _,fun _ _=>rfl⟩:Below w2.heap.size w2 w2.drew) HP2.out.n0w)⟩
  have HPa:Hid (PW n0 w2.drew d s r F m n S V R G B L av cv):=HP2.out.on (⟨rfl,rfl,rfl,Nat.le_refl _,fun _ _=>rfl⟩:Below w2.heap.size w2 w2.drew)
  have HCa:Hid (K.Blk w2.drew cg 122 cs):=HCh.out
  have HBa:Hid (K.Blk w2.drew g 5 cs):=HBk2.out
  have hne:Nonempty (Z.Sub (fun u:World=>u.heap[bx]?=some (.cells #[.int .i64 1,.slice (some ⟨lb,lo,none⟩) on oc] 37 (0,0))∧Below n0 w u)):=⟨⟨_,h_va⟩⟩
  clear HP2 HCh HBk2 Hk2 Hbn
  generalize w2.drew=va at *
  have q0:∀ s:Z.Sub (fun u:World=>u.heap[bx]?=some (.cells #[.int .i64 1,.slice (some ⟨lb,lo,none⟩) on oc] 37 (0,0))∧Below n0 w u),s.w.cell? ⟨bx,0,none⟩=some (.int .i64 1):=fun s=>cell_of_row s.w bx 0 _ 37 (0,0) s.ok.1
  have q1:∀ s:Z.Sub (fun u:World=>u.heap[bx]?=some (.cells #[.int .i64 1,.slice (some ⟨lb,lo,none⟩) on oc] 37 (0,0))∧Below n0 w u),s.w.cell? ⟨bx,1,none⟩=some (.slice (some ⟨lb,lo,none⟩) on oc):=fun s=>cell_of_row s.w bx 1 _ 37 (0,0) s.ok.1
  have q2:∀ s:Z.Sub (fun u:World=>u.heap[bx]?=some (.cells #[.int .i64 1,.slice (some ⟨lb,lo,none⟩) on oc] 37 (0,0))∧Below n0 w u),s.w.cell? ⟨lb,lo,none⟩=some (.int .i64 p.x):=fun s=>by have h1:=(HA.out s.w s.ok.2).c0;rwa [Nat.zero_mul,Nat.add_zero] at h1
  have q3:∀ s:Z.Sub (fun u:World=>u.heap[bx]?=some (.cells #[.int .i64 1,.slice (some ⟨lb,lo,none⟩) on oc] 37 (0,0))∧Below n0 w u),s.w.cell? ⟨lb,lo+1,none⟩=some (.int .i64 p.z):=fun s=>by have h1:=(HA.out s.w s.ok.2).c1;rwa [Nat.zero_mul,Nat.add_zero] at h1
  refine Z.gen_L (by intro d v c a w h;cases d <;> exact h) (fun QX HQP HQX=>?_)
  refine Z.tk 0 rfl HQP h_va fun K hK=>?_;go_simp;refine hK _ ?_;clear hK K
  refine Z.tk 1 rfl HQP h_va fun K hK=>?_;go_simp;refine hK _ ?_;clear hK K
  refine Z.tk 2 rfl HQP h_va fun K hK=>?_;go_simp;refine hK _ ?_;clear hK K
  refine Z.tk 3 rfl HQP h_va fun K hK=>?_;go_simp;refine hK _ ?_;clear hK K
  refine Z.tk 4 rfl HQP h_va fun K hK=>?_;go_simp;refine hK _ ?_;clear hK K
  refine Z.tk 5 rfl HQP h_va fun K hK=>?_;go_simp;refine hK _ ?_;clear hK K
  refine Z.tk 6 rfl HQP h_va fun K hK=>?_;go_simp;refine hK _ ?_;clear hK K
  refine Z.tk 7 rfl HQP h_va fun K hK=>?_;go_simp;refine hK _ ?_;clear hK K
  refine Z.tk 8 rfl HQP h_va fun K hK=>?_;go_simp;refine hK _ ?_;clear hK K
  refine Z.tk 10 rfl HQP h_va fun K hK=>?_;go_simp;refine hK _ ?_;clear hK K
  refine Z.tk 11 rfl HQP h_va fun K hK=>?_;go_simp;refine hK _ ?_;clear hK K
  refine Z.tk 12 rfl HQP h_va fun K hK=>?_;go_simp;refine hK _ ?_;clear hK K
  refine Z.tk 13 rfl HQP h_va fun K hK=>?_;go_simp;refine hK _ ?_;clear hK K
  refine Z.tk 14 rfl HQP h_va fun K hK=>?_;go_simp;refine hK _ ?_;clear hK K
  refine Z.tk 15 rfl HQP h_va fun K hK=>?_;go_simp;refine hK _ ?_;clear hK K
  refine Z.tk 16 rfl HQP h_va fun K hK=>?_;go_simp;refine hK _ ?_;clear hK K
  refine Z.ol 9 rfl fun K hK=>?_
  go_simp
  refine (reserve_c HPa.out.so HT.out.1.has HT.out.1.rok HT.out.1.free.1 (by have:=HT.out.2;have:=HB.out.2.1;unfold maxLen;omega) HNk.out.1.1 HNk.out.1.2 HCa.out Hok.out.1 Hok.out.2).mono ?_
  rintro _ v1 hrs
  obtain ⟨Er,R',n',rfl,hch,hso,hcs⟩:∃ (Er:Int) (R':Rf) (n':Nat),_=Ending.returned (.int .i64 Er)∧Chg (fun k=>F k∨k=m) va v1∧SO F v1 s d m n' S V R'∧((Er=11∧40<resN R E p.x p.z cs∧R'=R∧n'=n)∨(Er=0∧resN R E p.x p.z cs<=40∧R'=R.put p.x p.z (needS (datB cs).length:Int)∧n'=n+1)):=by
   rcases hrs with ⟨h1,h2,h3⟩|⟨h1,h2,h3,h4⟩
   ·exact ⟨11,R,n,h2,chg_of_below h3,HPa.out.so.on h3,.inl ⟨rfl,h1,rfl,rfl⟩⟩
   ·exact ⟨0,_,_,h2,⟨h3.os,h3.tape,h3.output,h3.size,fun k hk hn=>h3.block k hk (fun e=>hn (.inr e))⟩,h4,.inr ⟨rfl,h1,rfl,rfl⟩⟩
  have HPb:Hid (PW n0 v1 d s r F m n' S V R' G B L av cv):=HPa.out.prog hch hso (fun k hk=>.inl hk) (.inl rfl) (.inl rfl)
  have h_v1:(fun u:World=>u.heap[bx]?=some (.cells #[.int .i64 1,.slice (some ⟨lb,lo,none⟩) on oc] 37 (0,0))∧Below n0 w u) v1:=⟨(hch.block bx (Array.getElem?_eq_some_iff.1 h_va.1).1 (fun hf=>Hlo.out.2.2 bx (.inl hf) rfl)).trans h_va.1,Below.trans h_va.2 (HPa.out.below hch)⟩
  have HBb:Hid _:=(hch.block g (Array.getElem?_eq_some_iff.1 HBa.out).1 (fun hf=>Hlo.out.2.1 g hf rfl)).trans HBa.out
  have HCs:Hid _:=hcs
  refine hK.out _ _ (fun _=>h_v1) ?_
  clear hK K hrs hch hso hcs HPa HBa HCa h_va
  refine Z.ol 17 rfl fun K hK=>?_
  go_simp
  have hrr:=rreserve_c (x:=p.x) (z:=p.z) HPb.out.rs HPb.out.hB HNk.out.2.1 HNk.out.2.2 (cz_blk HBb.out Hok.out) (by have:=HT.out.1.len;have:=HB.out.2.2;omega)
  rw [sumK_res HT.out.1.doc HT.out.1.many,Hok.out.1] at hrr
  refine hrr.mono ?_
  clear hrr
  rintro _ v2 hrr
  have hres:resN R E p.x p.z cs=2+othN R E (p.x/4) (p.z/4) (slotN p.x p.z) 16+needK cs:=by rw [need_dat];rfl
  obtain ⟨rfl,hch,hbo⟩:_=Ending.returned (.int .i64 Er)∧Chg G v1 v2∧Both n0 v2 d s r E (wb+2000) (N+1) (M+6):=by
   rcases HCs.out with ⟨rfl,h1,rfl,rfl⟩|⟨rfl,h1,rfl,rfl⟩
   ·rcases hrr with ⟨_,h3,h4⟩|⟨h3,_⟩
    ·exact ⟨h3,chg_of_below h4,Both.more ⟨F,m,n',S,V,R',G,B,L,av,cv,HPb.out.on h4,HT.out⟩ (by omega) (by omega) (by omega)⟩
    ·omega
   ·rcases hrr with ⟨h3,_⟩|⟨_,h3,h4,av',cv',h5⟩
    ·omega
    ·have ht:=HT.out.1
     refine ⟨h3,h4,F,m,n+1,S,V,_,_,B,_,av',cv',HPb.out.doc h4 h5 (fun k hk=>hk) (Nat.le_trans HPb.out.hB h4.size),⟨ht.has,put_rfok ht.rok (by rw [<- need_dat];omega),ht.free,by have:=ht.wr;omega,doc_rsv ht.doc _ _ _,fun x' z'=>by rw [<- need_dat];exact many_put ht.many _ _ _ _ _,ht.ok,by have:=rsvK_len p.x p.z (needK cs) L;have:=ht.len;omega⟩,by have:=HT.out.2;omega⟩
  have h_v2:(fun u:World=>u.heap[bx]?=some (.cells #[.int .i64 1,.slice (some ⟨lb,lo,none⟩) on oc] 37 (0,0))∧Below n0 w u) v2:=⟨(hch.block bx (Array.getElem?_eq_some_iff.1 h_v1.1).1 (fun hf=>Hlo.out.2.2 bx (.inr hf) rfl)).trans h_v1.1,Below.trans h_v1.2 (HPb.out.below2 hch)⟩
  have HBo:Hid _:=hbo
  refine hK.out _ _ (fun _=>h_v2) ?_
  clear hK K hrr hch hbo hres HPb HBb h_v1
  refine Z.tk 18 rfl HQP h_v2 fun K hK=>?_;go_simp;refine hK _ ?_;clear hK K
  refine Z.ol 19 rfl fun K hK=>?_
  go_simp
  refine hK.out _ _ (fun _=>h_v2) ?_
  clear hK K
  refine Z.ol 20 rfl fun K hK=>?_
  go_simp
  refine hK.out _ _ (fun _=>h_v2) ?_
  clear hK K
  refine Z.ol 21 rfl fun K hK=>?_
  go_simp
  refine hK.out _ _ (fun _=>h_v2) ?_
  clear hK K
  refine Z.done_L (by kernel_rfl) ?_ _
  refine HQX.out _ _ ?_
  clear HQX HQP QX
  have R:=HP.out v2 s r E h_v2.2 HBo.out
  clear hne q0 q1 q2 q3 HP HT Hn HB HA HNk Hok HBo HCs Hlo h_v2
  go_wp2
  go_ret3
  exact R
 have h1':¬ kd=1:=h1
 have hat:=HA.out _ Hb0.out
 have c0:=hat.c0
 have c1:=hat.c1
 have hld:=loads_c HP0.out.so HT.out.1.has HT.out.1.ok HT.out.1.free.1 HP0.out.rs p.x p.z HNk.out.2.1 HNk.out.2.2
 clear hat Hk0
 rw [Nat.zero_mul,Nat.add_zero] at c0 c1
 go_wp2_with fail
 refine hld.mono ?_
 clear hld c0 c1 b0 b1
 rintro _ w1 ⟨hb1,β,rfl,hβ⟩
 obtain rfl:=hβ (HT.out.1.doc.load _ _).symm
 have R:=HP.out w1 s r E (Hb0.out.trans (hb1.mono HP0.out.n0w)) (Both.more ⟨F,m,n,S,V,R,G,B,L,av,cv,HP0.out.on hb1,HT.out⟩ (by omega) (by omega) (by omega))
 clear HP HP0 Hb0 HT Hn HB HA HNk hb1 hβ
 go_wp2
 go_ret3
 exact R
end Go.Proofs.YtlllmmceoeihkaaGreat
