/-
  The laws' awake: the chapter's example.
  StoreBack.
  StoreSlots.
  The law's look at both stores: loads.
  The law's look at a region: whole.
  The law's look at all chunks: all.
  A store and a disk through power cuts; all of theirs lies outside of what the law holds.
  StoreWhole.
-/
import Derived.Test.YtlllmmceoeihkaaGreatSx
import Derived.Lib.Bytes
import Derived.Test.YtlllmmceoeihkaaGreatSs
import Derived.Deep.DeepCutAuto
import Derived.Test.YtlllmmceoeihkaaGreatKRenp
import Derived.Test.YtlllmmceoeihkaaGreatSz
import Derived.Test.YtlllmmceoeihkaaGreatJSrcs
set_option maxRecDepth 20000
namespace Go.Proofs.YtlllmmceoeihkaaGreat
open Go.RowKit
theorem runN_rep (c:Int) (rest:List Int) (h:rest.head?≠some c):∀ n,K.runN c (List.replicate n c++rest)=n
 | 0 => by
   cases rest with
   | nil=>rfl
   | cons x r =>
     show K.runN c (x::r)=0
     unfold K.runN
     rw [if_neg (fun e=>h (by rw [e];rfl))]
 | n+1=>by
   rw [List.replicate_succ,List.cons_append]
   unfold K.runN
   rw [if_pos rfl,runN_rep c rest h n]
theorem encR_rep (l:List Int) (c:Int) (rest:List Int) (h:rest.head?≠some c) (n:Nat):K.encR l (List.replicate (n+1) c++rest)=K.putL ((n+1:Nat):Int)++(K.plc l c:Int)::K.encR l rest:=by
 rw [List.replicate_succ,List.cons_append,K.encR_cons,runN_rep c rest h n]
 congr 2
 rw [List.drop_append,List.drop_of_length_le (by simp),List.length_replicate,Nat.sub_self]
 rfl
def cellsN (n:Nat):List Int:=List.replicate 5 16++(List.replicate 1 3++(List.replicate (n+1) 16++[]))
theorem head_rep (c:Int) (n:Nat) (r:List Int):(List.replicate (n+1) c++r).head?=some c:=by rw [List.replicate_succ];rfl
theorem enc_cellsN (n:Nat) (hp3:(K.putL ((n+1:Nat):Int)).length<=3):(K.encL (cellsN n)).length<=27:=by
 have h1:(K.oneL (cellsN n)).length<=27:=by
  unfold K.oneL cellsN
  have hp:=K.pal_len (List.replicate 5 16++(List.replicate 1 3++(List.replicate (n+1) 16++[])))
  generalize K.pal (List.replicate 5 16++(List.replicate 1 3++(List.replicate (n+1) 16++[])))=pl at *
  rw [encR_rep pl 16 _ (by rw [head_rep 3 0];decide) 4,encR_rep pl 3 _ (by rw [head_rep 16 n];decide) 0,encR_rep pl 16 _ (by simp) n,K.encR_nil]
  rw [show K.putL ((4+1:Nat):Int)=[5] by decide,show K.putL ((0+1:Nat):Int)=[1] by decide]
  unfold K.headL
  simp only [List.length_append,List.length_cons,List.length_nil]
  omega
 unfold K.encL
 split
 ·exact h1
 ·rename_i h
  have:=K.wid_is (K.pal (cellsN n)).length
  omega
theorem set_repN (n:Nat):(List.replicate (n+7) (16:Int)).set 5 3=cellsN n:=by
 unfold cellsN
 rw [List.append_nil]
 rfl
def cells0:List Int:=cellsN 32761
theorem enc_cells0:(K.encL cells0).length<=27:=enc_cellsN 32761 (by decide)
theorem cellsW0 (a:Option Addr):cellsW ⟨0,0,a,1,1,[(5,3)],0,0⟩=cells0:=by
 unfold cells0
 rw [<- set_repN 32761]
 show fill2 (fill1 (remN 0 60+2) (remN 0 700)) [(5,3)] 1=_
 rw [show remN 0 700=0 by decide]
 show (List.replicate 32768 (16:Int)).set (remN 5 32768) ((remN 3 17:Nat):Int)=_
 rw [show remN 5 32768=5 by decide,show remN 3 17=3 by decide]
 rfl
theorem sumN_le {f g:Nat->Nat}:∀ {n:Nat},(∀ i,i<n->f i<=g i)->sumN f n<=sumN g n
 | 0,_=>Nat.le_refl _
 | n+1,h=>by
   have h1:=sumN_le (f:=f) (g:=g) (n:=n) (fun i hi=>h i (by omega))
   have h2:=h n (by omega)
   show sumN f n+f n<=sumN g n+g n
   omega
theorem fits_one (e:Eb) (h:e.ok) (hl:(K.encL e.b).length<=1000):fits E0 [e]:=by
 intro q hq
 obtain rfl:=List.mem_singleton.1 hq
 unfold fitR
 rw [needAll_reg]
 have h1:sumN (fun i=>needS (encK (setE E0 [q] (ownX (q.x/4) i) (ownZ (q.z/4) i))).length) 16<=sumN (fun i=>if i=slotN q.x q.z then 32 else 0) 16:=by
  refine sumN_le (fun i hi=>?_)
  show needS (encK ((E0.put q.x q.z q.cells) _ _)).length<=_
  unfold Ed.put
  by_cases hx:ownX (q.x/4) i=q.x∧ownZ (q.z/4) i=q.z
  ·rw [if_pos hx,if_pos ((own_eq hi).1 hx).2.2,Eb.dat_enc q h]
   unfold Eb.dat
   split
   ·decide
   ·unfold needS;omega
  ·rw [if_neg hx]
   show needS (encK []).length<=_
   exact Nat.zero_le _
 rw [sumN_one (slotN_lt _ _)] at h1
 omega
theorem i64_lit {x:Int} (h : -1000000<=x∧x<=1000000):I64 x:=⟨by omega,by omega⟩
theorem once_one (e:Eb):Once [e]:=List.pairwise_singleton _ _
set_option maxHeartbeats 4000000 in
theorem awake_l (w:World):Calls Tryz.prog 9 #[] w fun e w'=>e = .returned (.bool true)∧Below w.heap.size w w':=by
 obtain ⟨Post,hPost⟩:∃ Post:Ending->World->Prop,Post=fun e w'=>e = .returned (.bool true)∧Below w.heap.size w w':=⟨_,rfl⟩
 rw [<- hPost]
 have HP:Hid (∀ w',Below w.heap.size w w'->Post (.returned (.bool true)) w'):=fun w' h=>by rw [hPost];exact ⟨rfl,h⟩
 clear hPost
 go_enter Tryz.func9,Tryz.ntmps9
 go_wp2_with fail
 refine (new_c w).mono ?_
 rintro _ w1 ⟨⟨d,F,rfl,hD,hF,hl⟩,hb1⟩
 have hL1:LD w.heap.size w1 d St.new E0:=ld_new hD hF hl
 have hop:=lopen_c hL1 hb1.size ⟨rfl,rfl⟩ (by decide)
 have Hb1:Hid (Below w.heap.size w w1):=hb1
 clear hD hF hl hL1 hb1
 go_wp2_with fail
 refine hop.mono ?_
 clear hop
 rintro _ w2 ⟨hb2,s,S2,rfl,hS2,hf2,hw2⟩
 have Hb2:Hid (Below w.heap.size w w2):=Hb1.out.trans hb2
 have Hf2:Hid S2.free:=hf2
 have hwr:S2.writes<=2000:=by have:St.new.writes=0:=rfl;omega
 obtain ⟨G,hG,hsv⟩:=lsaveg_c hS2 (Nat.le_trans (Nat.le_refl _) (Nat.le_trans Hb1.out.size hb2.size)) hf2 (by omega)
 have HG:Hid (∀ k,G k->k<w2.heap.size):=hG
 have HSV:Hid _:=hsv
 clear Hb1 hb2 hf2 hw2 hS2 hG hsv
 go_wp2_with fail
 have hbc:Below w2.heap.size w2 (w2.alloc (.cells #[.int .i64 5,.int .i64 3] 80)):=(Below.refl _ _).alloc (Nat.le_refl _) _
 have hcx:=heap_alloc_new w2 (.cells #[.int .i64 5,.int .i64 3] 80)
 have hwk:WkL (w2.alloc (.cells #[.int .i64 5,.int .i64 3] 80)) ⟨0,0,some ⟨w2.heap.size,0,none⟩,1,1,[(5,3)],0,0⟩:=by
  refine ⟨rfl,fun k hk=>?_,⟨@i64_lit 0 (by omega),@i64_lit 0 (by omega),@i64_lit 0 (by omega),@i64_lit 0 (by omega)⟩,by show (1:Nat)<=_;unfold maxLen;omega⟩
  obtain rfl:k=0:=by simp at hk;exact hk
  refine ⟨w2.heap.size,0,rfl,?_,?_⟩
  ·rw [cell_of_row _ _ _ _ 80 (0,0) hcx];rfl
  ·rw [cell_of_row _ _ _ _ 80 (0,0) hcx];rfl
 refine (lcells_c ⟨0,0,some ⟨w2.heap.size,0,none⟩,1,1,[(5,3)],0,0⟩ _ hwk).mono ?_
 rintro _ w3 ⟨hb3,g,hg,rfl,hBk⟩
 rw [cellsW0] at hBk
 have Hok:Hid (cells0.length=32768∧K.Kinds cells0):=by have:=cellsW_ok ⟨0,0,none,1,1,[(5,3)],0,0⟩;rwa [cellsW0] at this
 have Hel:Hid ((K.encL cells0).length<=1000):=by have:=enc_cells0;show _<=_;omega
 have Hnn:Hid (Z.noneB cells0=false):=by
  show _=_
  unfold Z.noneB
  rw [List.all_eq_false]
  refine ⟨3,?_,by decide⟩
  unfold cells0 cellsN
  exact List.mem_append_right _ (List.mem_append_left _ (by decide))
 generalize cells0=cs at *
 have hb23:Below w2.heap.size w2 w3:=hbc.trans (hb3.mono hbc.size)
 have Hb3:Hid (Below w.heap.size w w3):=Hb2.out.trans (hb23.mono Hb2.out.size)
 have Hg2:Hid (w2.heap.size<=g):=Nat.le_trans hbc.size hg
 have Hb23:Hid (Below w2.heap.size w2 w3):=hb23
 have HBk:Hid (K.Blk w3 g 5 cs):=hBk
 clear hbc hcx hwk hb3 hg hBk hb23 Hb2
 go_wp2_with fail
 have hbe:Below w3.heap.size w3 (w3.alloc (.cells #[.int .i64 (-1),.int .i64 2,.slice (some ⟨g,0,none⟩) 32768 32768] 82)):=(Below.refl _ _).alloc (Nat.le_refl _) _
 have hex:=heap_alloc_new w3 (.cells #[.int .i64 (-1),.int .i64 2,.slice (some ⟨g,0,none⟩) 32768 32768] 82)
 have hbk4:=(hbe.block g (Array.getElem?_eq_some_iff.1 HBk.out).1).trans HBk.out
 have heds:EdsAt (w3.alloc (.cells #[.int .i64 (-1),.int .i64 2,.slice (some ⟨g,0,none⟩) 32768 32768] 82)) (some ⟨w3.heap.size,0,none⟩) [(⟨-1,2,some ⟨g,0,none⟩,32768,32768,cs⟩:Eb)]:=fun k hk=>by
  obtain rfl:k=0:=by simp at hk;exact hk
  refine ⟨w3.heap.size,0,rfl,?_,?_,?_,blk_bytes hbk4 (fun y hy=>by have:=Hok.out.2 y hy;omega) Hok.out.1,@i64_lit (-1) (by omega),@i64_lit 2 (by omega)⟩
  ·rw [cell_of_row _ _ _ _ 82 (0,0) hex];rfl
  ·rw [cell_of_row _ _ _ _ 82 (0,0) hex];rfl
  ·rw [cell_of_row _ _ _ _ 82 (0,0) hex];rfl
 have hsv:=HSV.out _ (Hb23.out.trans (hbe.mono Hb23.out.size)) _ 1 _ heds (by simp) (fun e he=>by obtain rfl:=List.mem_singleton.1 he;exact Hok.out) (fun e he=>by obtain rfl:=List.mem_singleton.1 he;exact ⟨i64_lit (by show (-1000000:Int) <= -1∧(-1:Int)<=1000000;omega),i64_lit (by show (-1000000:Int)<=2∧(2:Int)<=1000000;omega)⟩)
 refine hsv.mono ?_
 clear hsv
 rintro _ w4 ⟨⟨hb4,⟨Er,rfl,_,_,hno,_⟩|⟨_,_,rfl,S4,hS4,hf4,hw4⟩⟩,hch⟩
 ·exact (hno ⟨once_one _,fits_one (⟨-1,2,some ⟨g,0,none⟩,32768,32768,cs⟩:Eb) Hok.out Hel.out⟩).elim
 have hE1:setE E0 [(⟨-1,2,some ⟨g,0,none⟩,32768,32768,cs⟩:Eb)] (-1) 2=cs:=by
  show (if (-1:Int) = -1∧(2:Int)=2 then Eb.cells (⟨-1,2,some ⟨g,0,none⟩,32768,32768,cs⟩:Eb) else E0 (-1) 2)=cs
  rw [if_pos ⟨rfl,rfl⟩]
  unfold Eb.cells
  simp only [Hnn.out]
  rfl
 have hE2:setE E0 [(⟨-1,2,some ⟨g,0,none⟩,32768,32768,cs⟩:Eb)] 3 2=[]:=by
  show (if (3:Int) = -1∧(2:Int)=2 then Eb.cells (⟨-1,2,some ⟨g,0,none⟩,32768,32768,cs⟩:Eb) else E0 3 2)=[]
  rw [if_neg (by decide)]
  rfl
 have hEO:EdOk (setE E0 [(⟨-1,2,some ⟨g,0,none⟩,32768,32768,cs⟩:Eb)]):=setE_ok ed0_ok (fun e he=>by obtain rfl:=List.mem_singleton.1 he;exact Hok.out)
 have HL1:Hid (∀ W,Below w4.heap.size w4 W->Calls Tryz.prog 27 #[.pointer (some ⟨s,0,none⟩),valA (-1) 2] W (LoadSay cs W)):=fun W hb=>by
  have:=lload_c (hS4.on hb) hEO hf4 (-1) 2 (i64_lit (by omega)) (i64_lit (by omega))
  rwa [hE1] at this
 have HL2:Hid (∀ W,Below w4.heap.size w4 W->Calls Tryz.prog 27 #[.pointer (some ⟨s,0,none⟩),valA 3 2] W (LoadSay [] W)):=fun W hb=>by
  have:=lload_c (hS4.on hb) hEO hf4 3 2 (i64_lit (by omega)) (i64_lit (by omega))
  rwa [hE2] at this
 have Hb4:Hid (Below w.heap.size w w4):=(Hb3.out.trans (hbe.mono Hb3.out.size)).trans hb4
 have hgk:w4.heap[g]?=_:=(hch.block g (Array.getElem?_eq_some_iff.1 hbk4).1 (fun h=>by have:=HG.out g h;have:=Hg2.out;omega)).trans hbk4
 have HBk4:Hid (∀ W,Below w4.heap.size w4 W->K.Blk W g 5 cs):=fun W hb=>(hb.block g (Array.getElem?_eq_some_iff.1 hgk).1).trans hgk
 clear hbe hex hbk4 heds hb4 hS4 hf4 hE1 hE2 hEO HSV HG Hg2 Hb23 HBk Hb3 Hel Hnn Hf2 hch hgk
 go_wp2_with fail
 refine (HL1.out _ (Below.refl _ _)).mono ?_
 rintro _ w5 ⟨hb5,⟨h0,_⟩|⟨_,g5,_,rfl,hB5⟩⟩
 ·have:=Hok.out.1;rw [h0] at this;cases this
 have HB5:Hid (K.Blk w5 g5 122 cs):=hB5
 have Hb5:Hid (Below w4.heap.size w4 w5):=hb5
 clear hB5 hb5 HL1
 go_wp2_with fail
 refine (HL2.out _ Hb5.out).mono ?_
 rintro _ w6 ⟨hb6,⟨_,rfl⟩|⟨h0,_⟩⟩
 rotate_left
 ·exact absurd rfl h0
 have HB6:Hid (K.Blk w6 g5 122 cs):=(hb6.block g5 (Array.getElem?_eq_some_iff.1 HB5.out).1).trans HB5.out
 have HG6:Hid (K.Blk w6 g 5 cs):=HBk4.out _ (Hb5.out.trans (hb6.mono Hb5.out.size))
 have Hb6:Hid (Below w.heap.size w w6):=Hb4.out.trans ((Hb5.out.trans (hb6.mono Hb5.out.size)).mono Hb4.out.size)
 clear HB5 HBk4 hb6 HL2 Hb5 Hb4
 have HKB:Hid _:=fun (W:World) (h:K.Blk W g5 122 cs)=>K.bytes_c g5 cs W h Hok.out.1
 go_upto_region 11 with fail
 refine Z.region_L (fun u=>Below w6.heap.size w6 u) 99 (by kernel_rfl) ?_
 have hdr:Below w6.heap.size w6 w6.drew:=⟨rfl,rfl,rfl,Nat.le_refl _,fun _ _=>rfl⟩
 have h_va:(fun u=>Below w6.heap.size w6 u) w6.drew:=hdr
 clear hdr
 generalize w6.drew=va at *
 have hne:Nonempty (Z.Sub (fun u=>Below w6.heap.size w6 u)):=⟨⟨_,h_va⟩⟩
 have q0:∀ s:Z.Sub (fun u=>Below w6.heap.size w6 u),(convert 61 9 (.slice (some ⟨g,0,none⟩) 32768 32768)).run Tryz.prog s.w = .ok (.string (strOfNums cs)) s.w:=fun s=>by
  have h6:=HG6.out
  have hb:K.Blk s.w g 5 cs:=(s.ok.block g (Array.getElem?_eq_some_iff.1 h6).1).trans h6
  exact hb.conv Hok.out.1 Hok.out.2
 refine Z.gen_L (by intro d v c a w h;cases d <;> exact h) (fun QX HQP HQX=>?_)
 refine Z.ol 0 rfl fun K hK=>?_
 go_simp
 refine hK.out _ _ (fun _=>h_va) ?_
 clear hK K
 refine Z.ol 1 rfl fun K hK=>?_
 go_simp
 refine hK.out _ _ (fun _=>h_va) ?_
 clear hK K
 refine Z.ol 2 rfl fun K hK=>?_
 go_simp
 refine hK.out _ _ (fun _=>h_va) ?_
 clear hK K
 refine Z.ol 3 rfl fun K hK=>?_
 go_simp
 refine hK.out _ _ (fun _=>h_va) ?_
 clear hK K
 refine Z.ol 4 rfl fun K hK=>?_
 go_simp
 refine hK.out _ _ (fun _=>h_va) ?_
 clear hK K
 refine Z.ol 5 rfl fun K hK=>?_
 go_simp
 refine hK.out _ _ (fun _=>h_va) ?_
 clear hK K
 refine Z.ol 6 rfl fun K hK=>?_
 go_simp
 refine hK.out _ _ (fun _=>h_va) ?_
 clear hK K
 refine Z.ol 7 rfl fun K hK=>?_
 go_simp
 refine hK.out _ _ (fun _=>h_va) ?_
 clear hK K
 refine Z.ol 8 rfl fun K hK=>?_
 go_simp
 refine hK.out _ _ (fun _=>h_va) ?_
 clear hK K
 refine Z.ol 9 rfl fun K hK=>?_
 go_simp
 refine hK.out _ _ (fun _=>h_va) ?_
 clear hK K
 refine Z.ol 10 rfl fun K hK=>?_
 go_simp
 refine hK.out _ _ (fun _=>h_va) ?_
 clear hK K
 refine Z.tk 11 rfl HQP h_va fun K hK=>?_;go_simp;refine hK _ ?_;clear hK K
 refine Z.tk 14 rfl HQP h_va fun K hK=>?_;go_simp;refine hK _ ?_;clear hK K
 refine Z.tk 15 rfl HQP h_va fun K hK=>?_;go_simp;refine hK _ ?_;clear hK K
 refine Z.ol 12 rfl fun K hK=>?_
 go_simp
 go_simp
 have hB5:KB va g5 122 cs:=(Below.block h_va g5 (Array.getElem?_eq_some_iff.1 HB6.out).1).trans HB6.out
 refine (HKB.out _ hB5).mono ?_
 rintro _ v1 ⟨rfl,hBk,hb1⟩
 have h_v1:(fun u=>Below w6.heap.size w6 u) v1:=Below.trans h_va (hb1.mono (Below.size h_va))
 have hcv:=hBk.conv Hok.out.1 Hok.out.2
 refine hK.out _ _ (fun _=>h_v1) ?_
 clear hK K hB5 hBk hb1
 refine Z.ol 13 rfl fun K hK=>?_
 go_simp
 refine hK.out _ _ (fun _=>h_v1) ?_
 clear hK K
 refine Z.ol 16 rfl fun K hK=>?_
 go_simp
 refine hK.out _ _ (fun _=>h_v1) ?_
 clear hK K
 refine Z.ol 17 rfl fun K hK=>?_
 go_simp
 refine hK.out _ _ (fun _=>h_v1) ?_
 clear hK K
 refine Z.ol 18 rfl fun K hK=>?_
 go_simp
 refine hK.out _ _ (fun _=>h_v1) ?_
 clear hK K
 refine Z.ol 19 rfl fun K hK=>?_
 go_simp
 refine hK.out _ _ (fun _=>h_v1) ?_
 clear hK K
 refine Z.ol 20 rfl fun K hK=>?_
 go_simp
 refine hK.out _ _ (fun _=>h_v1) ?_
 clear hK K
 refine Z.ol 21 rfl fun K hK=>?_
 go_simp
 refine hK.out _ _ (fun _=>h_v1) ?_
 clear hK K
 refine Z.ol 22 rfl fun K hK=>?_
 go_simp
 refine hK.out _ _ (fun _=>h_v1) ?_
 clear hK K
 refine Z.ol 23 rfl fun K hK=>?_
 go_simp
 refine hK.out _ _ (fun _=>h_v1) ?_
 clear hK K
 refine Z.ol 24 rfl fun K hK=>?_
 go_simp
 refine hK.out _ _ (fun _=>h_v1) ?_
 clear hK K
 refine Z.ol 25 rfl fun K hK=>?_
 go_simp
 refine hK.out _ _ (fun _=>h_v1) ?_
 clear hK K
 refine Z.ol 26 rfl fun K hK=>?_
 go_simp
 refine hK.out _ _ (fun _=>h_v1) ?_
 clear hK K
 refine Z.done_L (by kernel_rfl) ?_ _
 refine HQX.out _ _ ?_
 clear HQX HQP QX
 have R:=HP.out _ (Hb6.out.trans (Below.mono h_v1 Hb6.out.size))
 clear HKB HP Hb6 HG6 HB6 Hok q0 h_v1
 go_simp
 go_wp2
 exact R
end Go.Proofs.YtlllmmceoeihkaaGreat
set_option maxRecDepth 20000
namespace Go.Proofs.YtlllmmceoeihkaaGreat
open Go.RowKit
theorem near_i64 {o:Wk} (h:Near o):I64 o.x∧I64 o.z:=⟨⟨by have:=h.1.1;omega,by have:=h.1.2;omega⟩,⟨by have:=h.2.1;omega,by have:=h.2.2;omega⟩⟩
end Go.Proofs.YtlllmmceoeihkaaGreat
set_option maxRecDepth 20000
namespace Go.Proofs.YtlllmmceoeihkaaGreat
open Go.RowKit
theorem kbytes_conv {w:World} {a:Option Addr} {n c:Nat} {xs:List Int} (h:K.Bytes w a n xs):(convert 61 9 (.slice a n c)).run Tryz.prog w = .ok (.string (strOfNums xs)) w:=K.conv_c h.src
end Go.Proofs.YtlllmmceoeihkaaGreat
set_option maxRecDepth 20000
namespace Go.Proofs.YtlllmmceoeihkaaGreat
open Go.RowKit
open Z (Km RSt KRow Cz loadK)
theorem box_on (w:World) (x z:Int) {W:World} (hb:Below (w.alloc (.cells #[.int .i64 x,.int .i64 z] 39)).heap.size (w.alloc (.cells #[.int .i64 x,.int .i64 z] 39)) W):W.cell? ⟨w.heap.size,0,none⟩=some (.int .i64 x)∧W.cell? ⟨w.heap.size,1,none⟩=some (.int .i64 z):=by
 obtain ⟨_,h1,h2⟩:=Z.box_at w x z
 exact ⟨cell_below h1 hb,cell_below h2 hb⟩
set_option maxHeartbeats 2000000 in
theorem loads_c {F:Nat->Prop} {w:World} {s d m n:Nat} {S:St} {V:List Bk} {R:Rf} (h:SO F w s d m n S V R) {E:Ed} (hE:Has V E) (hO:EdOk E) (hf:S.out=false) {G:Nat->Prop} {B:Nat} {r:Nat} {L:List Km} {av:Option Addr} {cv:Nat} (hr:RSt G B w r L av cv) (x z:Int) (hx:I64 x) (hz:I64 z) :
  Calls Tryz.prog 14 #[.pointer (some ⟨s,0,none⟩),.pointer (some ⟨r,0,none⟩),valA x z] w fun e w'=>Below w.heap.size w w'∧∃ β:Bool,e = .returned (.bool β)∧(E x z=loadK L x z->β=true):=by
 obtain ⟨Post,hPost⟩:∃ Post:Ending->World->Prop,Post=fun e w'=>Below w.heap.size w w'∧∃ β:Bool,e = .returned (.bool β)∧(E x z=loadK L x z->β=true):=⟨_,rfl⟩
 rw [<- hPost]
 have HP:Hid (∀ w' β,(E x z=loadK L x z->β=true)->Below w.heap.size w w'->Post (.returned (.bool β)) w'):=fun w' β h1 h2=>by rw [hPost];exact ⟨h2,β,rfl,h1⟩
 clear hPost
 obtain ⟨hb0,k0⟩:=box_a w x z
 obtain ⟨c0,c1⟩:=box_on w x z (Below.refl _ _)
 have hld:=load_c (h.on hb0) hE hO hf x z hx hz
 have HLs:Hid (∀ W,Below w.heap.size w W->Calls Tryz.prog 39 #[.pointer (some ⟨r,0,none⟩),valA x z] W fun e w'=>Below W.heap.size W w'∧∃ a c,e = .returned (.slice a (loadK L x z).length c)∧Cz w' a c (loadK L x z)):=fun W hb=>Z.sload_c (hr.on hb) x z
 have Hok:Hid (E x z=[]∨((E x z).length=32768∧K.Kinds (E x z)∧Z.noneB (E x z)=false)):=hO x z
 have Hb0:Hid _:=hb0
 have HBx:Hid _ := @box_on w x z
 generalize loadK L x z=b' at *
 generalize E x z=b at *
 clear h hE hO hr hb0 k0 hf hx hz
 go_enter Tryz.func14,Tryz.ntmps14
 go_wp2_with fail
 refine hld.mono ?_
 clear hld c0 c1
 rintro _ w1 ⟨hb1,hres⟩
 obtain ⟨c0,c1⟩:=HBx.out hb1
 have Hb1:Hid (Below w.heap.size w w1):=Hb0.out.trans (hb1.mono Hb0.out.size)
 clear HBx Hb0 hb1
 rcases hres with ⟨hb,rfl⟩|⟨hb,g,hg,rfl,hB⟩
 ·go_wp2_with fail
  refine (HLs.out w1 Hb1.out).mono ?_
  clear HLs c0 c1
  rintro _ w2 ⟨hb2,a',c',rfl,hcz⟩
  have Hb2:Hid (Below w.heap.size w w2):=Hb1.out.trans (hb2.mono Hb1.out.size)
  clear hb2 Hb1
  rcases hcz with ⟨h0,rfl,rfl⟩|⟨p,rfl,hl,hlc,hcm,hk,hpf⟩
  ·rw [h0]
   have hl0:([]:List Int).length=0:=rfl
   rw [hl0]
   have HR:Hid (∀ w',Below w2.heap.size w2 w'->Post (.returned (.bool true)) w'):=fun w' hb=>HP.out w' true (fun _=>rfl) (Hb2.out.trans (hb.mono Hb2.out.size))
   clear HP Hok hb h0 hl0 Hb2
   go_upto_region 5 with fail
   refine Z.region_L (fun u=>Below w2.heap.size w2 u) 99 (by kernel_rfl) ?_
   have h_va:(fun u=>Below w2.heap.size w2 u) w2.drew:=(⟨rfl,rfl,rfl,Nat.le_refl _,fun _ _=>rfl⟩:Below w2.heap.size w2 w2.drew)
   generalize w2.drew=va at *
   have hne:Nonempty (Z.Sub (fun u=>Below w2.heap.size w2 u)):=⟨⟨_,h_va⟩⟩
   refine Z.gen_L (by intro d v c a w h;cases d <;> exact h) (fun QX HQP HQX=>?_)
   refine Z.ol 0 rfl fun K hK=>?_
   go_simp
   refine hK.out _ _ (fun _=>h_va) ?_
   clear hK K
   refine Z.ol 1 rfl fun K hK=>?_
   go_simp
   refine hK.out _ _ (fun _=>h_va) ?_
   clear hK K
   refine Z.ol 2 rfl fun K hK=>?_
   go_simp
   refine hK.out _ _ (fun _=>h_va) ?_
   clear hK K
   refine Z.tk 3 rfl HQP h_va fun K hK=>?_;go_simp;refine hK _ ?_;clear hK K
   refine Z.tk 4 rfl HQP h_va fun K hK=>?_;go_simp;refine hK _ ?_;clear hK K
   refine Z.tk 5 rfl HQP h_va fun K hK=>?_;go_simp;refine hK _ ?_;clear hK K
   refine Z.ol 6 rfl fun K hK=>?_
   go_simp
   refine hK.out _ _ (fun _=>h_va) ?_
   clear hK K
   refine Z.ol 7 rfl fun K hK=>?_
   go_simp
   refine hK.out _ _ (fun _=>h_va) ?_
   clear hK K
   refine Z.ol 8 rfl fun K hK=>?_
   go_simp
   refine hK.out _ _ (fun _=>h_va) ?_
   clear hK K
   refine Z.ol 9 rfl fun K hK=>?_
   go_simp
   refine hK.out _ _ (fun _=>h_va) ?_
   clear hK K
   refine Z.ol 10 rfl fun K hK=>?_
   go_simp
   refine hK.out _ _ (fun _=>h_va) ?_
   clear hK K
   refine Z.done_L (by kernel_rfl) ?_ _
   refine HQX.out _ _ ?_
   clear HQX HQP QX
   have R:=HR.out va h_va
   clear HR hne h_va
   go_wp2
   exact R
  ·have R:=HP.out w2 false (fun e=>by rw [hb] at e;rw [<- e] at hl;cases hl) Hb2.out
   have hne:(b'.length:Int)≠0:=by omega
   rw [hl]
   clear HP Hok hb hk hpf hlc hcm hne Hb2
   go_wp2
   exact R
 ·have HB:Hid (K.Blk w1 g 122 b):=hB
  have Hbn:Hid (b≠[]):=hb
  clear hB hb hg
  go_wp2_with fail
  refine (HLs.out w1 Hb1.out).mono ?_
  clear HLs c0 c1
  rintro _ w2 ⟨hb2,a',c',rfl,hcz⟩
  have Hb2:Hid (Below w.heap.size w w2):=Hb1.out.trans (hb2.mono Hb1.out.size)
  have HB2:Hid (K.Blk w2 g 122 b):=(hb2.block g (Array.getElem?_eq_some_iff.1 HB.out).1).trans HB.out
  clear hb2 Hb1 HB
  rcases hcz with ⟨h0,rfl,rfl⟩|⟨p,rfl,hl,hlc,hcm,hk,hpf⟩
  ·have R:=HP.out w2 false (fun e=>absurd (e.trans h0) Hbn.out) Hb2.out
   rw [h0]
   have hl0:([]:List Int).length=0:=rfl
   rw [hl0]
   clear HP Hok Hbn h0 hl0 Hb2 HB2
   go_wp2
   exact R
  ·have Hok2:Hid (b.length=32768∧K.Kinds b):=(Hok.out.resolve_left Hbn.out).imp id (fun h=>h.1)
   have HCz:Hid (Cz w2 (some ⟨p,0,none⟩) c' b'):=.inr ⟨p,rfl,hl,hlc,hcm,hk,hpf⟩
   have Hl:Hid (b'.length=32768):=hl
   have HR:Hid (∀ w' β,(b=b'->β=true)->Below w2.heap.size w2 w'->Post (.returned (.bool β)) w'):=fun w' β h0 hb=>HP.out w' β h0 (Hb2.out.trans (hb.mono Hb2.out.size))
   have HKB:Hid _:=fun (W:World) (h:K.Blk W g 122 b)=>K.bytes_c g b W h Hok2.out.1
   rw [hl]
   clear HP Hok Hbn hl hlc hcm hk hpf Hb2
   go_upto_region 5 with fail
   refine Z.region_L (fun u=>Below w2.heap.size w2 u) 99 (by kernel_rfl) ?_
   have h_va:(fun u=>Below w2.heap.size w2 u) w2.drew:=(⟨rfl,rfl,rfl,Nat.le_refl _,fun _ _=>rfl⟩:Below w2.heap.size w2 w2.drew)
   generalize w2.drew=va at *
   have hne:Nonempty (Z.Sub (fun u=>Below w2.heap.size w2 u)):=⟨⟨_,h_va⟩⟩
   have q0:∀ s:Z.Sub (fun u=>Below w2.heap.size w2 u),(convert 61 9 (.slice (some ⟨p,0,none⟩) 32768 c')).run Tryz.prog s.w = .ok (.string (strOfNums b')) s.w:=fun s=>by
    have h1:=kbytes_conv (c:=c') (cz_on HCz.out s.ok).bytes
    rw [Hl.out] at h1
    exact h1
   refine Z.gen_L (by intro d v c a w h;cases d <;> exact h) (fun QX HQP HQX=>?_)
   refine Z.ol 0 rfl fun K hK=>?_
   go_simp
   refine hK.out _ _ (fun _=>h_va) ?_
   clear hK K
   refine Z.ol 1 rfl fun K hK=>?_
   go_simp
   refine hK.out _ _ (fun _=>h_va) ?_
   clear hK K
   refine Z.ol 2 rfl fun K hK=>?_
   go_simp
   refine hK.out _ _ (fun _=>h_va) ?_
   clear hK K
   refine Z.tk 3 rfl HQP h_va fun K hK=>?_;go_simp;refine hK _ ?_;clear hK K
   refine Z.tk 6 rfl HQP h_va fun K hK=>?_;go_simp;refine hK _ ?_;clear hK K
   refine Z.tk 7 rfl HQP h_va fun K hK=>?_;go_simp;refine hK _ ?_;clear hK K
   refine Z.ol 4 rfl fun K hK=>?_
   go_simp
   have hB5:=(Below.block h_va g (Array.getElem?_eq_some_iff.1 HB2.out).1).trans HB2.out
   refine (HKB.out _ hB5).mono ?_
   rintro _ v4 ⟨rfl,hBb,hbb⟩
   have h_v4:(fun u=>Below w2.heap.size w2 u) v4:=Below.trans h_va (hbb.mono (Below.size h_va))
   have hcv:=hBb.conv Hok2.out.1 Hok2.out.2
   refine hK.out _ _ (fun _=>h_v4) ?_
   clear hK K hB5 hBb hbb
   refine Z.ol 5 rfl fun K hK=>?_
   go_simp
   refine hK.out _ _ (fun _=>h_v4) ?_
   clear hK K
   refine Z.ol 8 rfl fun K hK=>?_
   go_simp
   refine hK.out _ _ (fun _=>h_v4) ?_
   clear hK K
   refine Z.ol 9 rfl fun K hK=>?_
   go_simp
   refine hK.out _ _ (fun _=>h_v4) ?_
   clear hK K
   refine Z.ol 10 rfl fun K hK=>?_
   go_simp
   refine hK.out _ _ (fun _=>h_v4) ?_
   clear hK K
   refine Z.done_L (by kernel_rfl) ?_ _
   refine HQX.out _ _ ?_
   clear HQX HQP QX
   have R:=HR.out v4
   have Hh:Hid (Below w2.heap.size w2 v4):=h_v4
   clear HR hne q0 HKB HB2 Hok2 HCz Hl h_v4 hcv
   go_wp2
   exact R _ (fun e=>by rw [e];simp) Hh.out
end Go.Proofs.YtlllmmceoeihkaaGreat
set_option maxRecDepth 20000
namespace Go.Proofs.YtlllmmceoeihkaaGreat
open Go.RowKit
def dRow (l:List Sp):List Int:=(List.range 40).map fun i=>((cnt l i:Nat):Int)
theorem dRow_len (l:List Sp):(dRow l).length=40:=by simp [dRow]
theorem dRow_at (l:List Sp) {i:Nat} (hi:i<40):(dRow l).getD i 0=((cnt l i:Nat):Int):=by
 simp [dRow,List.getD_eq_getElem?_getD,hi]
theorem dRow_nil:dRow []=List.replicate 40 0:=by decide
theorem dRow_zero (l:List Sp) (f:Nat):dRow (l++[(f,0)])=dRow l:=by
 unfold dRow
 refine List.map_congr_left (fun i _=>?_)
 rw [cnt_append,cnt_nil,Nat.add_zero]
theorem dRow_step (l:List Sp) (f k:Nat) (h:f+k<40):(dRow (l++[(f,k)])).set (f+k) ((dRow (l++[(f,k)])).getD (f+k) 0+1)=dRow (l++[(f,k+1)]):=by
 have h0:cnt [(f,k)] (f+k)=0:=by rw [cnt_one];unfold covers;rw [decide_eq_false (by simp only;omega)];rfl
 have h1:cnt [(f,k+1)] (f+k)=1:=by rw [cnt_one];unfold covers;rw [decide_eq_true (by simp only;omega)];rfl
 have h2:∀ i,f+k≠i->cnt [(f,k+1)] i=cnt [(f,k)] i:=fun i hi=>by
  rw [cnt_one,cnt_one]
  unfold covers
  rw [show decide ((f,k+1).1<=i∧i<(f,k+1).1+(f,k+1).2)=decide ((f,k).1<=i∧i<(f,k).1+(f,k).2) from decide_eq_decide.2 (by simp only;omega)]
 apply List.ext_getElem?
 intro i
 rw [List.getElem?_set,dRow_at _ h,dRow_len]
 by_cases hi:i<40
 ·have e:∀ m,(dRow m)[i]?=some ((cnt m i:Nat):Int):=fun m=>by simp [dRow,hi]
  rw [e,e,cnt_append,cnt_append,cnt_append]
  by_cases hk:f+k=i
  ·subst hk
   rw [if_pos rfl,if_pos hi,h0,h1]
   simp only [Option.some.injEq]
   omega
  ·rw [if_neg hk,h2 i hk]
 ·rw [if_neg (by omega),List.getElem?_eq_none (by rw [dRow_len];omega),List.getElem?_eq_none (by rw [dRow_len];omega)]
def allR (sp:List Sp):List Sp:=(0,2)::(sp++freeR sp)
theorem allR_one {sp:List Sp} {dat:List (List Int)} (H:GoodR sp dat) {i:Nat} (hi:i<40):cnt (allR sp) i=1:=by
 have h1:=all_once H hi
 have h2:cnt (allR sp) i=cnt [(0,2)] i+(cnt sp i+cnt (freeR sp) i):=by
  show cnt ([(0,2)]++(sp++freeR sp)) i=_
  rw [cnt_append,cnt_append]
 have e:(covers (0,2) i=true)↔i<2:=by unfold covers;simp
 rw [h2,cnt_one]
 by_cases h:i<2
 ·rw [if_pos h] at h1
  rw [if_pos (e.2 h)];omega
 ·rw [if_neg h] at h1
  rw [if_neg (fun h'=>h (e.1 h'))];omega
theorem allR_in {sp:List Sp} {dat:List (List Int)} (H:GoodR sp dat) {s:Sp} (hs:s∈allR sp):s.1+s.2<=40:=by
 rcases List.mem_cons.1 hs with rfl | hs
 ·decide
 ·exact all_in H hs
theorem allR_new {sp:List Sp} {dat:List (List Int)} (H:GoodR sp dat) {i f m k:Nat} (hi:i<(allR sp).length) (he:(allR sp)[i]=(f,m)) (hk:k<m) (hp:f+k<40):(dRow ((allR sp).take i++[(f,k)])).getD (f+k) 0=0:=by
 rw [dRow_at _ hp,cnt_append]
 have h1:=allR_one H hp
 rw [<- List.take_append_drop i (allR sp),List.drop_eq_getElem_cons hi,he,show ∀ (A B:List Sp) (s:Sp),A++s::B=A++[s]++B from by simp,cnt_append,cnt_append] at h1
 have h2:cnt [(f,m)] (f+k)=1:=by rw [cnt_one];unfold covers;rw [decide_eq_true (by simp only;omega)];rfl
 have h3:cnt [(f,k)] (f+k)=0:=by rw [cnt_one];unfold covers;rw [decide_eq_false (by simp only;omega)];rfl
 omega
theorem ownSp_head {w:World} {lo b:Nat} (h:w.heap[b]?=some (.cells #[.int .i64 0,.int .i64 2] 97 (0,0))) (hb:lo<=b):OwnSp w lo (some ⟨b,0,none⟩) 1 [(0,2)] :=
 ⟨rfl,.inr ⟨b,1,_,rfl,hb,h,by decide,by unfold maxLen;omega,rfl,rfl⟩⟩
theorem ownSp_on {w w':World} {lo:Nat} {a:Option Addr} {c:Nat} {l:List Sp} (h:OwnSp w lo a c l) (hb:Below w.heap.size w w'):OwnSp w' lo a c l:=by
 refine ⟨h.1,?_⟩
 rcases h.2 with h2 | ⟨g,cap,cur,hv,hg,hh,r⟩
 ·exact .inl h2
 ·exact .inr ⟨g,cap,cur,hv,hg,(hb.block g (Array.getElem?_eq_some_iff.1 hh).1).trans hh,r⟩
set_option maxHeartbeats 4000000 in
theorem whole_c {F:Nat->Prop} {w:World} {s d m n:Nat} {S:St} {V:List Bk} {R:Rf} (h:SO F w s d m n S V R) {E:Ed} (hE:Has V E) (hf:S.out=false) (x z:Int) (hx:I64 x) (hz:I64 z) :
  Calls Tryz.prog 15 #[.pointer (some ⟨s,0,none⟩),valA x z] w fun e w'=>e = .returned (.bool true)∧Below w.heap.size w w':=by
 obtain ⟨Post,hPost⟩:∃ Post:Ending->World->Prop,Post=fun e w'=>e = .returned (.bool true)∧Below w.heap.size w w':=⟨_,rfl⟩
 rw [<- hPost]
 have HP:Hid (∀ w',Below w.heap.size w w'->Post (.returned (.bool true)) w'):=fun w' h1=>by rw [hPost];exact ⟨rfl,h1⟩
 clear hPost
 obtain ⟨hb0,k0⟩:=box_a w x z
 obtain ⟨c0,c1⟩:=box_on w x z (Below.refl _ _)
 have hrr:=Z.rregion_c x z hx hz (w.alloc (.cells #[.int .i64 x,.int .i64 z] 39))
 have Hb0:Hid _:=hb0
 have HRg:Hid (∀ W,Below w.heap.size w W->Calls Tryz.prog 33 #[.pointer (some ⟨s,0,none⟩),.int .i64 (x/4),.int .i64 (z/4)] W (RegSay S V E (x/4) (z/4) W)):=fun W hb=>region_c (h.on hb) hE _ _ (div_i64 hx) (div_i64 hz)
 have Hf:Hid (S.out=false):=hf
 clear h hE hb0 k0 hf hx hz
 go_enter Tryz.func15,Tryz.ntmps15
 go_wp2_with fail
 refine hrr.mono ?_
 clear hrr c0 c1
 rintro _ w1 ⟨rfl,hb1⟩
 have Hb1:Hid (Below w.heap.size w w1):=Hb0.out.trans (hb1.mono Hb0.out.size)
 obtain ⟨hb2,_⟩:=box_a w1 (x/4) (z/4)
 obtain ⟨k0,k1⟩:=box_on w1 (x/4) (z/4) (Below.refl _ _)
 have Hb2:Hid _:=Hb1.out.trans (hb2.mono Hb1.out.size)
 clear hb1 hb2 Hb0 Hb1
 go_upto_region 2 with fail
 generalize w1.alloc (.cells #[.int .i64 (x/4),.int .i64 (z/4)] 39)=w2 at *
 generalize w1.heap.size=xb at *
 have hrg:=HRg.out w2 Hb2.out
 clear HRg
 go_wp2_with fail
 refine hrg.mono ?_
 clear hrg k0 k1
 rintro _ w3 ⟨hb3,⟨h8,_⟩|⟨_,g,F2,sp,rfl,hG,_,hFl⟩⟩
 ·exact absurd h8 (by rw [Hf.out];decide)
 have Hb3:Hid (Below w.heap.size w w3):=Hb2.out.trans (hb3.mono Hb2.out.size)
 obtain ⟨ρ,HG3⟩:∃ ρ,Hid (RGs F2 w3 g ρ):=⟨_,hG⟩
 have Hgood:Hid (GoodR ρ.sp ρ.dat):=HG3.out.good
 have Hn16:Hid (ρ.sp.length=16):=HG3.out.good.n
 have hfl:=free_len ρ.sp
 clear hb3 hG hFl Hb2 Hf
 go_wp2_with (at_make;refine wpList_make_ints _ rfl _ _ rfl 40 40 rfl rfl rfl (by omega) ?_;intro w4 HN hb4)
 obtain ⟨nb,hnb⟩:∃ nb,nb=w3.heap.size:=⟨_,rfl⟩
 rw [<- hnb] at HN ⊢
 have HN4:Hid (IRow w4 nb (dRow [])):=by show IRow _ _ _;rw [dRow_nil];exact HN.out
 have Hb4:Hid (Below w.heap.size w w4):=Hb3.out.trans (hb4.mono Hb3.out.size)
 have Hnb:Hid (w.heap.size<=nb∧nb<w4.heap.size):=⟨by rw [hnb];exact Hb3.out.size,HN.out.lt⟩
 have HGk:Hid (∀ W,Below w4.heap.size w4 W->RGs F2 W g ρ):=fun W hb=>by
  have h4:Below w3.heap.size w3 W:=hb4.trans (hb.mono hb4.size)
  exact rspec.rg_keep HG3.out (fun k hk=>h4.block k (rspec.rg_lt HG3.out k hk)) h4.size
 have hal:=heap_alloc_new w4 (.cells #[.int .i64 0,.int .i64 2] 97)
 have HO5:Hid (OwnSp (w4.alloc (.cells #[.int .i64 0,.int .i64 2] 97)) w4.heap.size (some ⟨w4.heap.size,0,none⟩) 1 [(0,2)]):=ownSp_head hal (Nat.le_refl _)
 have Hb5:Hid (Below w4.heap.size w4 (w4.alloc (.cells #[.int .i64 0,.int .i64 2] 97))):=(Below.refl _ _).alloc (Nat.le_refl _) _
 clear HN hnb hb4 hal HG3 Hb3
 generalize w4.alloc (.cells #[.int .i64 0,.int .i64 2] 97)=w5 at *
 refine (rspec.live_ F2 g ρ w5 (HGk.out w5 Hb5.out)).mono ?_
 rintro _ w6 ⟨hb6,la,lc,rfl,hLv,hln⟩
 have HO6:Hid _:=ownSp_on HO5.out hb6
 have Hb6:Hid (Below w4.heap.size w4 w6):=Hb5.out.trans (hb6.mono Hb5.out.size)
 have HLv:Hid (SpsAt w6 la ρ.sp∧(la=none->lc=0)):=⟨hLv,hln⟩
 rw [Hn16.out]
 clear hb6 hLv hln HO5 Hb5 w5
 go_wp2_with (at_builtin;refine wpList_append_sps rfl _ _ rfl w4.heap.size (some ⟨w4.heap.size,0,none⟩) 1 1 [(0,2)] rfl rfl HO6.out la 16 lc ρ.sp Hn16.out rfl HLv.out.1 HLv.out.2 (by omega) w4 Hb6.out Hb6.out.size ?_;intro ab cb w7 HO7 hb7 hs7)
 have Hb7:Hid (Below w4.heap.size w4 w7):=hb7
 clear HO6 Hb6 HLv hb7 hs7 w6
 go_wp2_with fail
 refine (rspec.free_ F2 g ρ w7 (HGk.out w7 Hb7.out)).mono ?_
 rintro _ w8 ⟨hb8,fa,fc,rfl,hFv,hfn⟩
 have HO8:Hid _:=ownSp_on HO7.out hb8
 have Hb8:Hid (Below w4.heap.size w4 w8):=Hb7.out.trans (hb8.mono Hb7.out.size)
 have HFv:Hid (SpsAt w8 fa (freeR ρ.sp)∧(fa=none->fc=0)):=⟨hFv,hfn⟩
 obtain ⟨fl,hfl2⟩:∃ fl,fl=(freeR ρ.sp).length:=⟨_,rfl⟩
 rw [<- hfl2] at hfl ⊢
 have Hfl:Hid (fl=(freeR ρ.sp).length):=hfl2
 clear hb8 hFv hfn HO7 Hb7 hfl2 w7 HGk
 go_wp2_with (at_builtin;refine wpList_append_sps rfl _ _ rfl w4.heap.size ab 17 cb ([(0,2)]++ρ.sp) (by rw [List.length_append,Hn16.out];rfl) rfl HO8.out fa fl fc (freeR ρ.sp) Hfl.out.symm rfl HFv.out.1 HFv.out.2 (by omega) w4 Hb8.out Hb8.out.size ?_;intro ac cc w9 HO9 hb9 hs9)
 have HN9:Hid (IRow w9 nb (dRow [])):=HN4.out.on hb9
 have HB9:Hid (Below w.heap.size w w9):=Hb4.out.trans (hb9.mono Hb4.out.size)
 have hall:[(0,2)]++ρ.sp++freeR ρ.sp=allR ρ.sp:=by unfold allR;simp
 rw [hall] at HO9
 have HA9:Hid (SpsAt w9 ac (allR ρ.sp)):=HO9.out.at
 have Hab:Hid (∀ b off,ac=some ⟨b,off,none⟩->w4.heap.size<=b):=fun b off e=>by
  have:=(World.ownsRow.lt HO9.out b (by rw [e];rfl)).1
  exact this
 obtain ⟨al,hal⟩:∃ al,al=allR ρ.sp:=⟨_,rfl⟩
 rw [<- hal] at HA9
 have Hal:Hid (al=allR ρ.sp):=hal
 have Hlen:Hid (al.length=17+fl):=by show _=_;rw [hal,<- hall,List.length_append,List.length_append,Hn16.out,Hfl.out];rfl
 have Hin:Hid (∀ s∈al,s.1+s.2<=40):=fun s hs=>allR_in Hgood.out (by rw [<- hal];exact hs)
 clear HO8 Hb8 HFv hb9 hs9 HO9 hall hal HN4 Hb4 w8 Hfl Hn16
 go_loopw [10] (fun v wr=>∃ (i:Nat),i<=17+fl∧v = .int .i64 (i:Int)∧Hid (IRow wr nb (dRow (al.take i)))∧Hid (SpsAt wr ac al)∧Hid (Below w.heap.size w wr)) (fun v _=>17+fl-(intOf v).toNat)
 case atStart=>exact ⟨0,by omega,rfl,HN9.out,HA9.out,HB9.out⟩
 case round =>
  clear HN9 HA9 HB9
  obtain ⟨i,hi,rfl,HN,HA,HBr⟩:=hrel
  by_cases hlt:i<17+fl
  ·have hlt':(i:Int)<17+(fl:Int):=by omega
   have hil:i<al.length:=by rw [Hlen.out];exact hlt
   obtain ⟨b,off,rfl,hc0,hc1⟩:=HA.out.at i hil
   have hin:=Hin.out al[i] (List.getElem_mem hil)
   have Htk:Hid (al.take (i+1)=al.take i++[al[i]]):=List.take_succ_eq_append_getElem hil
   obtain ⟨f,m,hfm⟩:∃ f m,al[i]=(f,m):=⟨_,_,rfl⟩
   have Hfm:Hid (∃ h:i<al.length,al[i]=(f,m)):=⟨hil,hfm⟩
   rw [hfm] at hc0 hc1 hin Htk
   simp only at hc0 hc1 hin
   have Hbb:Hid (w4.heap.size<=b):=Hab.out b off rfl
   obtain ⟨wq,hwq⟩:∃ wq,wq=wr:=⟨_,rfl⟩
   subst hwq
   clear hfm
   go_wp2_with fail
   go_loopw [11] (fun v wr=>∃ (k:Nat),k<=m∧v = .int .i64 (k:Int)∧Hid (IRow wr nb (dRow (al.take i++[(f,k)])))∧Hid (SpsAt wr (some ⟨b,off,none⟩) al)∧Hid (Below w.heap.size w wr)) (fun v _=>m-(intOf v).toNat)
   case atStart=>exact ⟨0,Nat.zero_le _,rfl,by rw [dRow_zero];exact HN.out,HA.out,HBr.out⟩
   case round =>
    clear HN HA HBr hc0 hc1
    obtain ⟨k,hk,rfl,HN,HA,HBr⟩:=hrel
    obtain ⟨b',off',e,hc0,hc1⟩:=HA.out.at i hil
    cases e
    obtain ⟨_,hfm⟩:=Hfm.out
    rw [hfm] at hc0 hc1
    simp only at hc0 hc1
    by_cases hkl:k<m
    ·have hkl':(k:Int)<(m:Int):=by omega
     have hp40:f+k<40:=by omega
     have hnew:(dRow (al.take i++[(f,k)])).getD (f+k) 0=0:=by
      have hil2:i<(allR ρ.sp).length:=by rw [<- Hal.out];exact hil
      have h1:=allR_new Hgood.out hil2 (by simp only [<- Hal.out];exact hfm) hkl hp40
      rw [<- Hal.out] at h1
      exact h1
     have hat:=HN.out.at (i:=f+k) (by rw [dRow_len];exact hp40)
     have hfr:=HN.out.free (f+k)
     have hcs:=dRow_step (al.take i) f k hp40
     rw [hnew] at hat hcs
     have HN':Hid (IRow (wr.setCell ⟨nb,f+k,none⟩ (.int .i64 1)) nb (dRow (al.take i++[(f,k+1)]))):=by show IRow _ _ _;rw [<- hcs];exact HN.out.set _ _
     have HA':Hid (SpsAt (wr.setCell ⟨nb,f+k,none⟩ (.int .i64 1)) (some ⟨b,off,none⟩) al):=by
      rcases HA.out with h | ⟨b',off',e,h⟩
      ·exact .inl h
      ·cases e
       refine .inr ⟨b,off,rfl,fun j u hj=>?_⟩
       rw [<- h j u hj]
       exact World.cell?_of_block (a:=⟨b,off+j,none⟩) (Below.heap_setCell wr ⟨nb,f+k,none⟩ _ b (by have:=Hnb.out.2;have:=Hbb.out;simp only;omega))
     have HB':Hid (Below w.heap.size w (wr.setCell ⟨nb,f+k,none⟩ (.int .i64 1))):=HBr.out.setCell (p:=⟨nb,f+k,none⟩) Hnb.out.1 _
     have d1:¬ (f:Int)+k<0:=by omega
     have d2:¬ 40<=(f:Int)+k:=by omega
     have d3:(f:Int)+k<40:=by omega
     clear HN HA HBr hcs HP hnew hfm
     go_wp2
     go_roundw
     case rel=>exact ⟨k+1,by omega,by go_num,HN',HA',HB'⟩
     case measure=>simp [intOf];omega
    ·obtain rfl:k=m:=by omega
     have hge:¬ (k:Int)<(k:Int):=by omega
     have HN':Hid (IRow wr nb (dRow (al.take (i+1)))):=by show IRow _ _ _;rw [Htk.out];exact HN.out
     clear HN HP hfm
     go_wp2
     go_roundw
     case rel=>exact ⟨i+1,by omega,by go_num,HN',HA,HBr⟩
     case measure=>simp [intOf];omega
  ·obtain rfl:i=17+fl:=by omega
   have hge:¬ ((17+fl:Nat):Int)<17+(fl:Int):=by omega
   have HN1:Hid (IRow wr nb (dRow (allR ρ.sp))):=by
    have:=HN.out
    rw [List.take_of_length_le (by rw [Hlen.out];exact Nat.le_refl _),Hal.out] at this
    exact this
   clear HN HA Hin Hlen Hal Hab
   go_wp2_with fail
   obtain ⟨wk,hwk⟩:∃ wk,wk=wr:=⟨_,rfl⟩
   subst hwk
   go_loopw [13] (fun v wr=>∃ (i:Nat),i<=40∧v = .int .i64 (i:Int)∧wr=wk) (fun v _=>40-(intOf v).toNat)
   case atStart=>exact ⟨0,by omega,rfl,rfl⟩
   case round =>
    obtain ⟨i,hi3,rfl,rfl⟩:=hrel
    by_cases hlt3:i<40
    ·have hlt4:(i:Int)<40:=by omega
     have hat:=HN1.out.at (i:=i) (by rw [dRow_len];exact hlt3)
     rw [dRow_at _ hlt3,allR_one Hgood.out hlt3] at hat
     clear HP
     go_wp2
     go_roundw
     case rel=>exact ⟨i+1,by omega,by go_num,trivial⟩
     case measure=>simp [intOf];omega
    ·obtain rfl:i=40:=by omega
     have R:=HP.out _ HBr.out
     clear HP HN1 HBr
     go_wp2
     exact R
end Go.Proofs.YtlllmmceoeihkaaGreat
set_option maxRecDepth 20000
namespace Go.Proofs.YtlllmmceoeihkaaGreat
open Go.RowKit
open Z (Km RSt KRow Cz loadK)
set_option maxHeartbeats 2000000 in
theorem all_c {F:Nat->Prop} {w:World} {s d m n:Nat} {S:St} {V:List Bk} {R:Rf} (h:SO F w s d m n S V R) {E:Ed} (hE:Has V E) (hO:EdOk E) (hf:S.out=false) {G:Nat->Prop} {B:Nat} {r:Nat} {L:List Km} {av:Option Addr} {cv:Nat} (hr:RSt G B w r L av cv)
  (a:Option Addr) (q c:Nat) (l:List Wk) (hW:WksAt w a l) (hl:l.length=q) (hq:q<=maxLen) (hI:∀ o∈l,I64 o.x∧I64 o.z) :
  Calls Tryz.prog 24 #[.pointer (some ⟨s,0,none⟩),.pointer (some ⟨r,0,none⟩),.slice a q c] w fun e w'=>Below w.heap.size w w'∧∃ β:Bool,e = .returned (.tuple #[.bool β,.bool true])∧((∀ o∈l,E o.x o.z=loadK L o.x o.z)->β=true):=by
 obtain ⟨Post,hPost⟩:∃ Post:Ending->World->Prop,Post=fun e w'=>Below w.heap.size w w'∧∃ β:Bool,e = .returned (.tuple #[.bool β,.bool true])∧((∀ o∈l,E o.x o.z=loadK L o.x o.z)->β=true):=⟨_,rfl⟩
 rw [<- hPost]
 have HP:Hid (∀ w' β,((∀ o∈l,E o.x o.z=loadK L o.x o.z)->β=true)->Below w.heap.size w w'->Post (.returned (.tuple #[.bool β,.bool true])) w'):=fun w' β h1 h2=>by rw [hPost];exact ⟨h2,β,rfl,h1⟩
 clear hPost
 have hq':q<=9223372036854775807:=by unfold maxLen at hq;omega
 have HLd:Hid (∀ x z,I64 x->I64 z->∀ W,Below w.heap.size w W->Calls Tryz.prog 14 #[.pointer (some ⟨s,0,none⟩),.pointer (some ⟨r,0,none⟩),valA x z] W fun e w'=>Below W.heap.size W w'∧∃ β:Bool,e = .returned (.bool β)∧(E x z=loadK L x z->β=true)):=fun x z hx hz W hb=>loads_c (h.on hb) hE hO hf (hr.on hb) x z hx hz
 have HWh:Hid (∀ x z,I64 x->I64 z->∀ W,Below w.heap.size w W->Calls Tryz.prog 15 #[.pointer (some ⟨s,0,none⟩),valA x z] W fun e w'=>e = .returned (.bool true)∧Below W.heap.size W w'):=fun x z hx hz W hb=>whole_c (h.on hb) hE hf x z hx hz
 have HW:Hid (∀ W,Below w.heap.size w W->WksAt W a l):=fun W hb=>WksAt.on hW hb
 have Hl:Hid (l.length=q):=hl
 have HI:Hid (∀ o∈l,I64 o.x∧I64 o.z):=hI
 clear h hE hO hf hr hW hl hI hq
 go_enter Tryz.func24,Tryz.ntmps24
 go_wp2_with fail
 go_loopw [8,9,10,11,12] (fun b8 b9 iv _ _ wr=>∃ (i:Nat) (β:Bool),b8 = .bool β∧b9 = .bool true∧iv = .int .i64 (i:Int)∧i<=q∧Hid (Below w.heap.size w wr)∧Hid ((∀ j (h:j<l.length),j<i->E l[j].x l[j].z=loadK L l[j].x l[j].z)->β=true)) (fun _ _ iv _ _ _=>q-(intOf iv).toNat)
 case atStart=>exact ⟨0,true,rfl,rfl,rfl,Nat.zero_le _,Below.refl _ _,fun _=>rfl⟩
 case round =>
  obtain ⟨i,β,rfl,rfl,rfl,hi,HB,Hβ⟩:=hrel
  by_cases hlt:i<q
  ·have hlt':(i:Int)<(q:Int):=by omega
   have hil:i<l.length:=by rw [Hl.out];exact hlt
   obtain ⟨lb,lo,rfl,hat⟩:=(HW.out wr HB.out) i hil
   have HA:Hid (∀ W,Below w.heap.size w W->WkAt W lb lo i l[i]):=fun W hb=>by
    obtain ⟨b,off,e,h⟩:=(HW.out W hb) i hil
    cases e
    exact h
   have hIi:=HI.out l[i] (List.getElem_mem hil)
   have hld:=HLd.out _ _ hIi.1 hIi.2 wr HB.out
   have HWi:Hid _:=HWh.out _ _ hIi.1 hIi.2
   have Hnx:Hid (∀ β2:Bool,(E l[i].x l[i].z=loadK L l[i].x l[i].z->β2=true)->(∀ j (h:j<l.length),j<i+1->E l[j].x l[j].z=loadK L l[j].x l[j].z)->(β && β2)=true):=fun β2 h1 h2=>by
    rw [Hβ.out (fun j h hj=>h2 j h (by omega)),h1 (h2 i hil (by omega))]
    rfl
   have c0:=hat.c0
   have c1:=hat.c1
   clear hat hIi Hβ
   generalize l[i]=o at *
   go_wp2_with fail
   refine hld.mono ?_
   clear hld c0 c1
   rintro _ w1 ⟨hb1,β2,rfl,h2⟩
   have Hb1:Hid (Below w.heap.size w w1):=HB.out.trans (hb1.mono HB.out.size)
   have HN2:Hid _:=Hnx.out β2 h2
   have hat:=HA.out w1 Hb1.out
   have c0:=hat.c0
   have c1:=hat.c1
   have hwh:=HWi.out w1 Hb1.out
   clear hb1 h2 hat HB Hnx HWi HA
   go_wp2_with fail
   refine hwh.mono ?_
   clear hwh c0 c1
   rintro _ w2 ⟨rfl,hb2⟩
   have Hb2:Hid (Below w.heap.size w w2):=Hb1.out.trans (hb2.mono Hb1.out.size)
   clear hb2 Hb1
   cases β with
   | true =>
     go_wp2
     go_roundw
     case rel=>exact ⟨i+1,β2,rfl,rfl,by go_num,by omega,Hb2.out,fun h=>by have:=HN2.out h;rwa [Bool.true_and] at this⟩
     case measure=>simp [intOf];omega
   | false =>
     go_wp2
     go_roundw
     case rel=>exact ⟨i+1,false,rfl,rfl,by go_num,by omega,Hb2.out,fun h=>by have:=HN2.out h;rwa [Bool.false_and] at this⟩
     case measure=>simp [intOf];omega
  ·obtain rfl:q=i:=by omega
   have R:=HP.out wr β (fun h=>Hβ.out (fun j hj _=>h _ (List.getElem_mem hj))) HB.out
   clear HP HLd HWh HW HB Hβ
   go_wp2
   exact R
end Go.Proofs.YtlllmmceoeihkaaGreat
set_option maxRecDepth 20000
namespace Go.Proofs.YtlllmmceoeihkaaGreat
open Go.RowKit
open Z (Km RSt KRow Cz loadK)
def Kp (D:Nat->Prop) (w w':World):Prop:=Chg (fun k=>¬ D k) w w'
structure XD (D:Nat->Prop) (w:World) (d:Nat) (S:St) (V:List Bk):Prop where
 it:∃ F,PDisk F w d S∧(∀ k,F k->k<w.heap.size)∧(∀ k,F k->¬ D k)∧RecL S.l V
structure XS (D:Nat->Prop) (w:World) (s d:Nat) (S:St) (V:List Bk):Prop where
 it:∃ F m n R,SO F w s d m n S V R∧(∀ k,F k->¬ D k)∧¬ D s∧¬ D m
section
variable {D D':Nat->Prop} {w w' w'':World} {s d:Nat} {S:St} {V:List Bk}
theorem Kp.of {F:Nat->Prop} (h:Chg F w w') (hF:∀ k,F k->¬ D k):Kp D w w':=⟨h.os,h.tape,h.output,h.size,fun k hk hd=>h.block k hk (fun hf=>hd (hF k hf))⟩
theorem Kp.below (h:Below w.heap.size w w'):Kp D w w':=⟨h.os,h.tape,h.output,h.size,fun k hk _=>h.block k hk⟩
theorem Kp.trans (h:Kp D w w') (k:Kp D w' w''):Kp D w w'':=⟨k.os.trans h.os,k.tape.trans h.tape,k.output.trans h.output,Nat.le_trans h.size k.size,fun j hj hd=>(k.block j (Nat.lt_of_lt_of_le hj h.size) hd).trans (h.block j hj hd)⟩
theorem Kp.only {g:Nat} (h:Only g w w') (hg:¬ D g):Kp D w w':=⟨h.os,h.tape,h.output,by rw [h.size];exact Nat.le_refl _,fun k _ hd=>h.block k (fun e=>hd (e▸hg))⟩
theorem Kp.at_ (h:Kp D w w') {k:Nat} (hk:k<w.heap.size) (hd:D k):w'.heap[k]?=w.heap[k]?:=h.block k hk (fun h=>h hd)
theorem Kp.mono (h:Kp D' w w') (hD:∀ k,D k->D' k):Kp D w w':=⟨h.os,h.tape,h.output,h.size,fun k hk hd=>h.block k hk (fun h1=>hd (fun h2=>h1 (hD k h2)))⟩
theorem Kp.old (h:Kp D w w') {n:Nat} (hn:n<=w.heap.size) (hD:∀ k,k<n->D k):Below n w w':=⟨h.os,h.tape,h.output,h.size,fun k hk=>h.at_ (Nat.lt_of_lt_of_le hk hn) (hD k hk)⟩
theorem XS.disk (h:XS D w s d S V):XD D w d S V:=by
 obtain ⟨F,m,n,R,h1,h2,_⟩:=h.it
 obtain ⟨j,_,hJ⟩:=h1.hd
 exact ⟨F,hJ.1,h1.lt,h2,.inl hJ.2.1⟩
theorem XS.grow (h:XS D w s d S V) (hb:Below w.heap.size w w') (hD:∀ k,D' k->D k∨w.heap.size<=k):XS D' w' s d S V:=by
 obtain ⟨F,m,n,R,h1,h2,h3,h4⟩:=h.it
 refine ⟨F,m,n,R,h1.on hb,fun k hk hd=>?_,fun hd=>?_,fun hd=>?_⟩
 ·rcases hD k hd with h | h
  ·exact h2 k hk h
  ·have:=h1.lt k hk;omega
 ·rcases hD s hd with h | h
  ·exact h3 h
  ·have:=h1.lts.1;omega
 ·rcases hD m hd with h | h
  ·exact h4 h
  ·have:=h1.lts.2;omega
theorem XD.on (h:XD D w d S V) (hb:Below w.heap.size w w'):XD D w' d S V:=by
 obtain ⟨F,h1,h2,h3,h4⟩:=h.it
 exact ⟨F,h1.keep (fun k hk=>hb.block k (h2 k hk)),fun k hk=>Nat.lt_of_lt_of_le (h2 k hk) hb.size,h3,h4⟩
theorem gr_out {F:Nat->Prop} (hF:∀ k,F k->¬ D k) (hD:∀ k,D k->k<w.heap.size):∀ k,Gr F w w' k->¬ D k:=fun k hk=>hk.elim (hF k) (fun h hd=>by have:=hD k hd;omega)
theorem gr_lt {F:Nat->Prop} (hF:∀ k,F k->k<w.heap.size) (hs:w.heap.size<=w'.heap.size):∀ k,Gr F w w' k->k<w'.heap.size:=fun k hk=>hk.elim (fun h=>Nat.lt_of_lt_of_le (hF k h) hs) (fun h=>h.2)
theorem PDisk.atF {F:Nat->Prop} (h:PDisk F w d S):F d:=by
 obtain ⟨_,_,h⟩:=h
 exact h.inF
theorem xopen_c (h:XD D w d S V) (hD:∀ k,D k->k<w.heap.size) (hw:S.writes<=900000) :
  Calls Tryz.prog 12 #[.pointer (some ⟨d,0,none⟩)] w fun e w'=>Kp D w w'∧∃ S',S'.writes<=S.writes+2000∧Steps S S'∧XD D w' d S' V ∧
   ((∃ s,e = .returned (.tuple #[.pointer (some ⟨s,0,none⟩),.int .i64 0])∧XS D w' s d S' V)∨(e = .returned (.tuple #[.pointer none,.int .i64 8])∧¬ S.free)):=by
 obtain ⟨F,h1,h2,h3,h4⟩:=h.it
 refine (open_st F d S V w h1 h2 h4 hw).mono ?_
 rintro e w' ⟨S',sv,Er,rfl,hC,hwr,hst,⟨rfl,s,m,F',rfl,hS,hF',hs,hm⟩|⟨rfl,rfl,hnf,hP,hR⟩⟩
 ·have hx:XS D w' s d S' V:=⟨F',m,0,R0,hS,fun k hk=>gr_out h3 hD k (hF' k hk),fun hd=>by have:=hD s hd;omega,fun hd=>by have:=hD m hd;omega⟩
  exact ⟨Kp.of hC h3,S',hwr,hst,hx.disk,.inl ⟨s,rfl,hx⟩⟩
 ·exact ⟨Kp.of hC h3,S',hwr,hst,⟨Gr F w w',hP,gr_lt h2 hC.size,gr_out h3 hD,hR⟩,.inr ⟨rfl,hnf⟩⟩
theorem xcut_c (h:XD D w d S V) {n:Int} (hn:I64 n):Calls Tryz.prog 22 #[.pointer (some ⟨d,0,none⟩),.int .i64 n] w fun e w'=>e = .returned (.tuple #[])∧Kp D w w'∧XD D w' d (S.cut n) V:=by
 obtain ⟨F,h1,h2,h3,h4⟩:=h.it
 refine (cut_c F d S n hn w h1).mono ?_
 rintro e w' ⟨rfl,hP,hO⟩
 exact ⟨rfl,Kp.only hO (h3 d h1.atF),F,hP,fun k hk=>by rw [hO.size];exact h2 k hk,h3,h4⟩
theorem xscut_c (h:XS D w s d S V) {n:Int} (hn:I64 n):Calls Tryz.prog 22 #[.pointer (some ⟨d,0,none⟩),.int .i64 n] w fun e w'=>e = .returned (.tuple #[])∧Kp D w w'∧XS D w' s d (S.cut n) V:=by
 obtain ⟨F,m,q,R,h1,h2,h3,h4⟩:=h.it
 obtain ⟨j,hh,hJ⟩:=h1.hd
 have hFd:=hJ.1.atF
 refine (cut_c F d S n hn w hJ.1).mono ?_
 rintro e w' ⟨rfl,hP,hO⟩
 have hjd:j≠d:=fun e=>by
  obtain ⟨_,_,hpd⟩:=hJ.1
  have hj:=hJ.2.2.1
  have hd:=hpd.head
  rw [e] at hj
  rw [hj] at hd
  simp at hd
 refine ⟨rfl,Kp.only hO (h2 d hFd),F,m,q,R,⟨⟨j,(hO.block s (fun e=>h1.fs (e▸hFd))).trans hh,hP,hJ.2.1,(hO.block j hjd).trans hJ.2.2.1,hJ.2.2.2⟩,h1.mp.same (hO.block m (fun e=>h1.fm (e▸hFd))),h1.fs,h1.fm,fun k hk=>by rw [hO.size];exact h1.lt k hk⟩,h2,h3,h4⟩
theorem xup_c (h:XD D w d S V):Calls Tryz.prog 23 #[.pointer (some ⟨d,0,none⟩)] w fun e w'=>e = .returned (.tuple #[])∧Kp D w w'∧XD D w' d S.up V:=by
 obtain ⟨F,h1,h2,h3,h4⟩:=h.it
 refine (up_c F d S w h1).mono ?_
 rintro e w' ⟨rfl,hP,hO⟩
 exact ⟨rfl,Kp.only hO (h3 d h1.atF),F,hP,fun k hk=>by rw [hO.size];exact h2 k hk,h3,h4⟩
theorem xwrites_c (h:XD D w d S V):Calls Tryz.prog 21 #[.pointer (some ⟨d,0,none⟩)] w fun e w'=>e = .returned (.int .i64 S.writes)∧w'=w:=by
 obtain ⟨F,h1,_⟩:=h.it
 exact writes_c F d S w h1
theorem xsave_c (h:XS D w s d S V) (hD:∀ k,D k->k<w.heap.size) {E:Ed} (hE:Has V E) (hf:S.free) (hw:S.writes<=900000) {a:Option Addr} {nn c:Nat} {l:List Eb} (hEd:EdsAt w a l) (hl:l.length=nn) (hn:nn<=6) (hok:∀ e∈l,e.ok) (hI:∀ e∈l,I64 e.x∧I64 e.z) (ho:Once l) :
  Calls Tryz.prog 20 #[.pointer (some ⟨s,0,none⟩),.slice a nn c] w fun e w'=>Kp D w w'∧((¬ fits E l∧e = .returned (.int .i64 11))∨(fits E l∧e = .returned (.int .i64 0)∧∃ S' V',Has V' (setE E l)∧S'.writes<=S.writes+2000∧S'.free∧XS D w' s d S' V')):=by
 obtain ⟨F,m,n,R,h1,h2,h3,h4⟩:=h.it
 refine (save_c h1 hE hEd hl hn hok hI hw).mono ?_
 rintro e w' ⟨Er,rfl,⟨k1,_⟩|⟨_,k2,_⟩|⟨_,_,k2,rfl,k3⟩|⟨_,k2,S',V',k3,k4,k5,⟨rfl,_,k6,k7⟩|⟨_,k6,_⟩⟩⟩
 ·exact absurd ho k1
 ·rw [hf.1] at k2;cases k2
 ·exact ⟨Kp.below k3,.inl ⟨k2,rfl⟩⟩
 ·have hk:Kp D w w':=Kp.of k6 (fun k hk=>hk.elim (h2 k) (fun e=>e▸h4))
  exact ⟨hk,.inr ⟨k2,rfl,S',V',k3,k4,k5.free hf,Gr F w w',m,0,R0,k7,gr_out h2 hD,h3,h4⟩⟩
 ·exact absurd hf k6
theorem xsavecut_c (h:XS D w s d S V) (hD:∀ k,D k->k<w.heap.size) {E:Ed} (hE:Has V E) (hw:S.writes<=900000) {a:Option Addr} {nn c:Nat} {l:List Eb} (hEd:EdsAt w a l) (hl:l.length=nn) (hn:nn<=6) (hok:∀ e∈l,e.ok) (hI:∀ e∈l,I64 e.x∧I64 e.z) (ho:Once l) :
  Calls Tryz.prog 20 #[.pointer (some ⟨s,0,none⟩),.slice a nn c] w fun e w'=>Kp D w w'∧∃ Er S' V',e = .returned (.int .i64 Er)∧XD D w' d S' V'∧S'.writes<=S.writes+2000 ∧
   ((Er≠0∧Has V' E)∨(fits E l∧Has V' (setE E l)∧(Er=0∨S.writes<S'.writes))):=by
 have hdk:=h.disk
 obtain ⟨F,m,n,R,h1,h2,h3,h4⟩:=h.it
 refine (save_c h1 hE hEd hl hn hok hI hw).mono ?_
 rintro e w' ⟨Er,rfl,⟨k1,_⟩|⟨_,_,rfl,k3⟩|⟨_,_,k2,rfl,k3⟩|⟨_,k2,S',V',k3,k4,k5,⟨rfl,_,k6,k7⟩|⟨rfl,_,k6,k7,k8⟩⟩⟩
 ·exact absurd ho k1
 ·exact ⟨Kp.below k3,8,S,V,rfl,(h.grow k3 (fun k hk=>.inl hk)).disk,by omega,.inl ⟨by decide,hE⟩⟩
 ·exact ⟨Kp.below k3,11,S,V,rfl,(h.grow k3 (fun k hk=>.inl hk)).disk,by omega,.inl ⟨by decide,hE⟩⟩
 ·have hx:XS D w' s d S' V':=⟨Gr F w w',m,0,R0,k7,gr_out h2 hD,h3,h4⟩
  exact ⟨Kp.of k6 (fun k hk=>hk.elim (h2 k) (fun e=>e▸h4)),0,S',V',rfl,hx.disk,k4,.inr ⟨k2,k3,.inl rfl⟩⟩
 ·rcases k8 with k8 | ⟨k8,k9⟩
  ·exact ⟨Kp.of k6 h2,8,S',V,rfl,⟨Gr F w w',k7,gr_lt h1.lt k6.size,gr_out h2 hD,k8⟩,k4,.inl ⟨by decide,hE⟩⟩
  ·exact ⟨Kp.of k6 h2,8,S',V',rfl,⟨Gr F w w',k7,gr_lt h1.lt k6.size,gr_out h2 hD,k9⟩,k4,.inr ⟨k2,k3,.inr (by omega)⟩⟩
/-! ### what the law holds -/
structure RD (D:Nat->Prop) (w:World) (r:Nat) (L:List Km):Prop where
 it:∃ G B av cv,RSt G B w r L av cv∧∀ k,G k->D k
theorem RD.keep {r:Nat} {L:List Km} (h:RD D w r L) (hk:Kp D w w'):RD D w' r L:=by
 obtain ⟨G,B,av,cv,h1,h2⟩:=h.it
 exact ⟨G,B,av,cv,h1.keep (fun k hg=>hk.at_ (h1.lt k hg) (h2 k hg)) hk.size,h2⟩
theorem RD.more {r:Nat} {L:List Km} (h:RD D w r L) (hD:∀ k,k<w.heap.size->D k->D' k):RD D' w r L:=by
 obtain ⟨G,B,av,cv,h1,h2⟩:=h.it
 exact ⟨G,B,av,cv,h1,fun k hk=>hD k (h1.lt k hk) (h2 k hk)⟩
theorem ERow.keep {B:Nat} {av:Option Addr} {cv:Nat} {es:List Eb} (h:ERow B w av cv es) (hk:Kp D w w') (hD:∀ k,B<=k->k<w.heap.size->D k):ERow B w' av cv es :=
 ⟨own_keep h.row (fun b cur hb1 hb2 _=>by
  have hlt:=(Array.getElem?_eq_some_iff.1 hb1).1
  exact hk.at_ hlt (hD b hb2 hlt)),fun e he=>by
  obtain ⟨⟨g,h1,h2,h3⟩,h4⟩:=h.dat e he
  have hlt:=(Array.getElem?_eq_some_iff.1 h3).1
  exact ⟨⟨g,h1,h2,(hk.at_ hlt (hD g h2 hlt)).trans h3⟩,h4⟩⟩
def zn (n0 a b:Nat):Nat->Prop:=fun k=>k<n0∨(a<=k∧k<b)
theorem rst_new (w:World) (B:Nat):RSt (fun k=>k=w.heap.size) B (w.alloc (.cells #[.slice none 0 0] 34)) w.heap.size [] none 0 :=
 ⟨heap_alloc_new w _,World.ownsRow_nil _ _ _ _,(fun k hk=>by cases hk),rfl,(fun g e=>by cases e),(fun k hk=>by cases hk),(fun k hk=>by subst hk;simp),Nat.zero_le _,(fun k hk=>by cases hk),(fun k hk=>by cases hk)⟩
theorem save_both {G:Nat->Prop} {L:List Km} {E:Ed} {es:List Eb} {e:Ending} (h:SaveDoc G w L E es e w') (hD:∀ k,G k->D k):Below w.heap.size w w'∧∃ (P:Value) (β:Bool),e = .returned (.tuple #[P,.bool β])∧(fits E es->β=true)∧(β=true->fits E es∧∃ r L',P = .pointer (some ⟨r,0,none⟩)∧DocE L' (setE E es)∧ManyOk L'∧L'.length<=L.length+es.length∧RD (fun k=>D k∨(w.heap.size<=k∧k<w'.heap.size)) w' r L'):=by
 obtain ⟨hb,⟨hf,r,L',av,cv,rfl,hs,hd,hm,hl⟩|⟨hf,rfl⟩⟩:=h
 ·exact ⟨hb,_,true,rfl,fun _=>rfl,fun _=>⟨hf,r,L',rfl,hd,hm,hl,_,_,_,_,hs.st,fun k hk=>hk.imp (hD k) id⟩⟩
 ·exact ⟨hb,_,false,rfl,fun h=>absurd h hf,fun h=>by cases h⟩
end
end Go.Proofs.YtlllmmceoeihkaaGreat
set_option maxRecDepth 20000
namespace Go.Proofs.YtlllmmceoeihkaaGreat
open Go.RowKit
open Z (Km RSt KRow Cz loadK)
def CutsAt (w:World) (a:Option Addr) (len:Nat):Prop:=∀ k,k<len->∃ b off q,a=some ⟨b,off,none⟩∧w.cell? ⟨b,off+k,none⟩=some (.int .i64 q)∧I64 q
theorem CutsAt.on {w w':World} {a:Option Addr} {len:Nat} (h:CutsAt w a len) (hb:Below w.heap.size w w'):CutsAt w' a len:=fun k hk=>by
 obtain ⟨b,off,q,e,h1,h2⟩:=h k hk
 exact ⟨b,off,q,e,cell_below h1 hb,h2⟩
theorem erow_base {B B':Nat} {w:World} {av:Option Addr} {cv:Nat} {es:List Eb} (h:ERow B w av cv es) (hB:B'<=B):ERow B' w av cv es:=by
 refine ⟨⟨h.row.1,?_⟩,fun e he=>?_⟩
 ·rcases h.row.2 with h1 | ⟨g,cap,cur,hv,hg,r⟩
  ·exact .inl h1
  ·exact .inr ⟨g,cap,cur,hv,Nat.le_trans hB hg,r⟩
 ·obtain ⟨⟨g,h1,h2,h3⟩,h4⟩:=h.dat e he
  exact ⟨⟨g,h1,Nat.le_trans hB h2,h3⟩,h4⟩
theorem erow_ok {B:Nat} {w:World} {av:Option Addr} {cv:Nat} {es:List Eb} (h:ERow B w av cv es):∀ e∈es,e.ok∧e.n=32768:=fun e he=>⟨(h.dat e he).2.2.2.1,(h.dat e he).2.1⟩
theorem erow_i64 {B:Nat} {w:World} {av:Option Addr} {cv:Nat} {es:List Eb} (h:ERow B w av cv es):∀ e∈es,I64 e.x∧I64 e.z:=fun e he=>(h.dat e he).2.2.2.2
set_option maxHeartbeats 8000000 in
theorem storeWhole_l (w:World) (a1:Option Addr) (n1 c1:Nat) (l1:List Wk) (a2:Option Addr) (n2 c2:Nat) (l2:List Wk) (q:Int) (a3:Option Addr) (n3 c3:Nat) (hW1:WksAt w a1 l1) (hl1:l1.length=n1) (hn1:n1<=maxLen) (hW2:WksAt w a2 l2) (hl2:l2.length=n2) (hn2:n2<=maxLen) (hq:I64 q) (hU:CutsAt w a3 n3) :
  Calls Tryz.prog 4 #[.slice a1 n1 c1,.slice a2 n2 c2,.int .i64 q,.slice a3 n3 c3] w fun e w'=>e = .returned (.bool true)∧Below w.heap.size w w':=by
 obtain ⟨Post,hPost⟩:∃ Post:Ending->World->Prop,Post=fun e w'=>e = .returned (.bool true)∧Below w.heap.size w w':=⟨_,rfl⟩
 rw [<- hPost]
 have HP:Hid (∀ w',Below w.heap.size w w'->Post (.returned (.bool true)) w'):=fun w' h=>by rw [hPost];exact ⟨rfl,h⟩
 clear hPost
 have HW:Hid (WksAt w a1 l1∧WksAt w a2 l2∧CutsAt w a3 n3):=⟨hW1,hW2,hU⟩
 have Hl:Hid (l1.length=n1∧l2.length=n2):=⟨hl1,hl2⟩
 have Hq:Hid (I64 q):=hq
 have Hmx:Hid (n1<=maxLen∧n2<=maxLen):=⟨hn1,hn2⟩
 clear hW1 hl1 hn1 hW2 hl2 hn2 hq hU
 go_enter Tryz.func4,Tryz.ntmps4
 go_wp2_with fail
 refine (awake_l _).mono ?_
 rintro _ w1 ⟨rfl,hb1⟩
 replace HP:Hid (∀ w',Below w1.heap.size w1 w'->Post (.returned (.bool true)) w'):=fun w' h=>HP.out w' (hb1.trans (h.mono hb1.size))
 have HW1:Hid (WksAt w1 a1 l1∧WksAt w1 a2 l2∧CutsAt w1 a3 n3):=⟨HW.out.1.on hb1,HW.out.2.1.on hb1,HW.out.2.2.on hb1⟩
 clear hb1 HW
 go_wp2_with fail
 refine (new_c w1).mono ?_
 rintro _ w2 ⟨⟨d,F,rfl,hD,hF,hdl⟩,hb2⟩
 have HD2:Hid (XD (fun k=>k<w1.heap.size) w2 d St.new []):=⟨F,hD,hdl,fun k hk h=>by have:=hF k hk;omega,RecL.new⟩
 have HB2:Hid (Below w1.heap.size w1 w2):=hb2
 clear hD hF hdl hb2
 by_cases h16:6<n1
 ·have h16':(6:Int)<(n1:Int):=by omega
  have R:=HP.out w2 HB2.out
  clear HP HB2 HD2 HW1 Hl Hq Hmx
  go_wp2
  exact R
 have h16':¬ (6:Int)<(n1:Int):=by omega
 by_cases h26:6<n2
 ·have h26':(6:Int)<(n2:Int):=by omega
  have R:=HP.out w2 HB2.out
  clear HP HB2 HD2 HW1 Hl Hq Hmx
  go_wp2
  exact R
 have h26':¬ (6:Int)<(n2:Int):=by omega
 have hmx1:n1<=9223372036854775807:=by omega
 have hmx2:n2<=9223372036854775807:=by omega
 go_wp2_with fail
 refine (inner_c a1 n1 c1 l1 w2 (HW1.out.1.on HB2.out) Hl.out.1 Hmx.out.1).mono ?_
 rintro _ w3 ⟨hb3,hnr⟩
 have HB3:Hid (Below w1.heap.size w1 w3):=HB2.out.trans (hb3.mono HB2.out.size)
 have HD3:Hid (XD (fun k=>k<w1.heap.size) w3 d St.new []):=HD2.out.on hb3
 clear hb3 HB2 HD2
 obtain ⟨nb1,rfl,HNr1⟩:∃ nb:Bool,_=Ending.returned (Value.bool nb)∧Hid (nb=true->∀ o∈l1,Near o):=by
  rcases hnr with ⟨h1,h2⟩|⟨h1,h2⟩
  ·exact ⟨true,h1,fun _=>h2⟩
  ·exact ⟨false,h1,fun h=>by cases h⟩
 clear hnr
 go_wp2_with fail
 refine (inner_c a2 n2 c2 l2 w3 (HW1.out.2.1.on HB3.out) Hl.out.2 Hmx.out.2).mono ?_
 rintro _ w4 ⟨hb4,hnr⟩
 have HB4:Hid (Below w1.heap.size w1 w4):=HB3.out.trans (hb4.mono HB3.out.size)
 have HD4:Hid (XD (fun k=>k<w1.heap.size) w4 d St.new []):=HD3.out.on hb4
 clear hb4 HB3 HD3
 obtain ⟨nb2,rfl,HNr2⟩:∃ nb:Bool,_=Ending.returned (Value.bool nb)∧Hid (nb=true->∀ o∈l2,Near o):=by
  rcases hnr with ⟨h1,h2⟩|⟨h1,h2⟩
  ·exact ⟨true,h1,fun _=>h2⟩
  ·exact ⟨false,h1,fun h=>by cases h⟩
 clear hnr
 cases nb1 with
 | false =>
   have R:=HP.out w4 HB4.out
   clear HP HB4 HD4 HW1 Hl Hq Hmx HNr1 HNr2
   go_wp2
   exact R
 | true =>
 cases nb2 with
 | false =>
   have R:=HP.out w4 HB4.out
   clear HP HB4 HD4 HW1 Hl Hq Hmx HNr1 HNr2
   go_wp2
   exact R
 | true =>
 have HI:Hid ((∀ o∈l1,I64 o.x∧I64 o.z)∧∀ o∈l2,I64 o.x∧I64 o.z):=⟨fun o ho=>near_i64 (HNr1.out rfl o ho),fun o ho=>near_i64 (HNr2.out rfl o ho)⟩
 clear HNr1 HNr2
 have hop:=xopen_c HD4.out (fun k hk=>Nat.lt_of_lt_of_le hk HB4.out.size) (by decide)
 go_wp2_with fail
 refine hop.mono ?_
 clear hop
 rintro _ w5 ⟨hk5,S1,hw5,hst5,_,⟨s,rfl,hx5⟩|⟨_,hnf⟩⟩
 rotate_left
 ·exact absurd ⟨rfl,rfl⟩ hnf
 have HB5:Hid (Below w1.heap.size w1 w5):=HB4.out.trans (hk5.old HB4.out.size (fun k hk=>hk))
 have HX5:Hid (XS (fun k=>k<w1.heap.size) w5 s d S1 []):=hx5
 have HS1:Hid (S1.free∧S1.writes<=2000):=⟨hst5.free ⟨rfl,rfl⟩,by have:St.new.writes=0:=rfl;omega⟩
 clear hk5 hw5 hst5 hx5 HB4 HD4
 obtain ⟨m5,hm5⟩:∃ m5,m5=w5.heap.size:=⟨_,rfl⟩
 have Hm5:Hid (m5=w5.heap.size):=hm5
 go_wp2_with fail
 have hb6:Below w5.heap.size w5 (w5.alloc (.cells #[.slice none 0 0] 34)):=(Below.refl _ _).alloc (Nat.le_refl _) _
 have HB6:Hid (Below w5.heap.size w5 (w5.alloc (.cells #[.slice none 0 0] 34))):=hb6
 have HR6:Hid (RSt (fun k=>k=w5.heap.size) 0 (w5.alloc (.cells #[.slice none 0 0] 34)) w5.heap.size [] none 0):=rst_new w5 _
 clear hb6
 generalize w5.alloc (.cells #[.slice none 0 0] 34)=w6 at *
 rw [<- hm5] at HR6 ⊢
 clear hm5
 refine (edits_c a1 n1 c1 l1 w6 (HW1.out.1.on (HB5.out.trans (HB6.out.mono HB5.out.size))) Hl.out.1 (by omega)).mono ?_
 rintro _ w7 ⟨hb7,ea1,ec1,es1,rfl,hr7,hof1⟩
 have hlen1:es1.length=n1:=hof1.1.trans Hl.out.1
 rw [hlen1]
 have HB7:Hid (Below w5.heap.size w5 w7):=HB6.out.trans (hb7.mono HB6.out.size)
 have HR7:Hid (RSt (fun k=>k=m5) 0 w7 m5 [] none 0):=HR6.out.on hb7
 have HE1:Hid (ERow w5.heap.size w7 ea1 ec1 es1∧EbOf l1 es1∧es1.length=n1):=⟨erow_base hr7 HB6.out.size,hof1,hlen1⟩
 clear hb7 hr7 hof1 hlen1 HB6 HR6 w6
 go_wp2_with fail
 refine (edits_c a2 n2 c2 l2 w7 (HW1.out.2.1.on (HB5.out.trans (HB7.out.mono HB5.out.size))) Hl.out.2 (by omega)).mono ?_
 rintro _ w8 ⟨hb8,ea2,ec2,es2,rfl,hr8,hof2⟩
 have hlen2:es2.length=n2:=hof2.1.trans Hl.out.2
 rw [hlen2]
 have HB8:Hid (Below w5.heap.size w5 w8):=HB7.out.trans (hb8.mono HB7.out.size)
 have HR8:Hid (RSt (fun k=>k=m5) 0 w8 m5 [] none 0):=HR7.out.on hb8
 have HE18:Hid (ERow w5.heap.size w8 ea1 ec1 es1∧EbOf l1 es1∧es1.length=n1):=⟨HE1.out.1.on hb8,HE1.out.2⟩
 have HE28:Hid (ERow w5.heap.size w8 ea2 ec2 es2∧EbOf l2 es2∧es2.length=n2):=⟨erow_base hr8 HB7.out.size,hof2,hlen2⟩
 clear hb8 hr8 hof2 hlen2 HB7 HR7 HE1 w7
 go_wp2_with fail
 refine (smay_c ea1 n1 ec1 es1 w8 HE18.out.1.eds HE18.out.2.2 (by omega) (erow_ok HE18.out.1)).mono ?_
 rintro _ w9 ⟨hb9,hmay⟩
 obtain ⟨f1,rfl,HF1⟩:∃ f:Int,_=Ending.returned (Value.int .i64 f)∧Hid ((f=0∧Once es1)∨(f=1∧¬ Once es1)):=by
  rcases hmay with ⟨h1,h2⟩|⟨h1,h2⟩
  ·exact ⟨0,h1,.inl ⟨rfl,h2⟩⟩
  ·exact ⟨1,h1,.inr ⟨rfl,h2⟩⟩
 have HB9:Hid (Below w5.heap.size w5 w9):=HB8.out.trans (hb9.mono HB8.out.size)
 have HR9:Hid (RSt (fun k=>k=m5) 0 w9 m5 [] none 0):=HR8.out.on hb9
 have HE19:Hid (ERow w5.heap.size w9 ea1 ec1 es1∧EbOf l1 es1∧es1.length=n1):=⟨HE18.out.1.on hb9,HE18.out.2⟩
 have HE29:Hid (ERow w5.heap.size w9 ea2 ec2 es2∧EbOf l2 es2∧es2.length=n2):=⟨HE28.out.1.on hb9,HE28.out.2⟩
 clear hb9 hmay HB8 HR8 HE18 HE28 w8
 go_wp2_with fail
 refine (smay_c ea2 n2 ec2 es2 w9 HE29.out.1.eds HE29.out.2.2 (by omega) (erow_ok HE29.out.1)).mono ?_
 rintro _ w10 ⟨hb10,hmay⟩
 obtain ⟨f2,rfl,HF2⟩:∃ f:Int,_=Ending.returned (Value.int .i64 f)∧Hid ((f=0∧Once es2)∨(f=1∧¬ Once es2)):=by
  rcases hmay with ⟨h1,h2⟩|⟨h1,h2⟩
  ·exact ⟨0,h1,.inl ⟨rfl,h2⟩⟩
  ·exact ⟨1,h1,.inr ⟨rfl,h2⟩⟩
 have HB10:Hid (Below w5.heap.size w5 w10):=HB9.out.trans (hb10.mono HB9.out.size)
 have HR10:Hid (RSt (fun k=>k=m5) 0 w10 m5 [] none 0):=HR9.out.on hb10
 have HE1x:Hid (ERow w5.heap.size w10 ea1 ec1 es1∧EbOf l1 es1∧es1.length=n1):=⟨HE19.out.1.on hb10,HE19.out.2⟩
 have HE2x:Hid (ERow w5.heap.size w10 ea2 ec2 es2∧EbOf l2 es2∧es2.length=n2):=⟨HE29.out.1.on hb10,HE29.out.2⟩
 clear hb10 hmay HB9 HR9 HE19 HE29 w9
 rcases HF1.out with ⟨rfl,hon1⟩|⟨rfl,_⟩
 rotate_left
 ·have R:=HP.out w10 (HB5.out.trans (HB10.out.mono HB5.out.size))
  clear HP HB5 HB10 HR10 HE1x HE2x HX5 HS1 HF1 HF2 HI HW1 Hl Hq Hmx Hm5
  go_wp2
  exact R
 rcases HF2.out with ⟨rfl,hon2⟩|⟨rfl,_⟩
 rotate_left
 ·have R:=HP.out w10 (HB5.out.trans (HB10.out.mono HB5.out.size))
  clear HP HB5 HB10 HR10 HE1x HE2x HX5 HS1 HF1 HF2 HI HW1 Hl Hq Hmx Hm5 hon1
  go_wp2
  exact R
 have HO:Hid (Once es1∧Once es2):=⟨hon1,hon2⟩
 clear HF1 HF2 hon1 hon2
 have hsv:=ssave_c HR10.out doc_nil ed0_ok ea1 n1 ec1 es1 HE1x.out.1.eds HE1x.out.2.2 (by omega) (erow_ok HE1x.out.1) (Nat.zero_le _)
 go_wp2_with fail
 refine hsv.mono ?_
 clear hsv
 rintro _ w11 hsd
 obtain ⟨hb11,P1,β1,rfl,hf1,hs1⟩:=save_both (D:=fun k=>k=m5) hsd (fun k hk=>hk)
 have HB11:Hid (Below w5.heap.size w5 w11):=HB10.out.trans (hb11.mono HB10.out.size)
 have HE1y:Hid (ERow w5.heap.size w11 ea1 ec1 es1∧EbOf l1 es1∧es1.length=n1):=⟨HE1x.out.1.on hb11,HE1x.out.2⟩
 have HE2y:Hid (ERow w5.heap.size w11 ea2 ec2 es2∧EbOf l2 es2∧es2.length=n2):=⟨HE2x.out.1.on hb11,HE2x.out.2⟩
 have HX11:Hid (XS (zn w1.heap.size w5.heap.size w11.heap.size) w11 s d S1 []):=HX5.out.grow HB11.out (fun k hk=>hk.imp id (fun h=>h.1))
 have HD11:Hid (∀ k,zn w1.heap.size w5.heap.size w11.heap.size k->k<w11.heap.size):=fun k hk=>hk.elim (fun h=>by have:=HB5.out.size;have:=HB11.out.size;omega) (fun h=>h.2)
 have hsv2:=xsave_c (c:=ec1) HX11.out HD11.out has_new HS1.out.1 (by have:=HS1.out.2;omega) HE1y.out.1.eds HE1y.out.2.2 (by omega) (fun e he=>(erow_ok HE1y.out.1 e he).1) (erow_i64 HE1y.out.1) HO.out.1
 have HF:Hid ((fits E0 es1->β1=true)∧(β1=true->fits E0 es1∧∃ r L',P1 = .pointer (some ⟨r,0,none⟩)∧DocE L' (setE E0 es1)∧ManyOk L'∧L'.length<=6∧RD (zn w1.heap.size w5.heap.size w11.heap.size) w11 r L')):=⟨hf1,fun h=>by
  obtain ⟨h1,r,L',h2,h3,h4,h5,h6⟩:=hs1 h
  refine ⟨h1,r,L',h2,h3,h4,by have:=HE1y.out.2.2;simp only [List.length_nil] at h5;omega,h6.more (fun k hk hd=>.inr (hd.elim (fun e=>?_) (fun h=>⟨Nat.le_trans HB10.out.size h.1,h.2⟩)))⟩
  rw [e,Hm5.out]
  refine ⟨Nat.le_refl _,?_⟩
  rw [e,Hm5.out] at hk
  exact hk⟩
 clear hb11 hsd hf1 hs1 HB10 HR10 HE1x HE2x HX5 w10
 go_wp2_with fail
 refine hsv2.mono ?_
 clear hsv2
 rintro _ w12 ⟨hk12,hres⟩
 have HB12:Hid (Below w1.heap.size w1 w12):=(HB5.out.trans (HB11.out.mono HB5.out.size)).trans (hk12.old (Nat.le_trans HB5.out.size HB11.out.size) (fun k hk=>.inl hk))
 have HB1:Hid (Below w1.heap.size w1 w11):=HB5.out.trans (HB11.out.mono HB5.out.size)
 rcases hres with ⟨hnf,rfl⟩|⟨hft,rfl,S2,V2,hV2,hw2,hfr2,hx12⟩
 ·cases β1 with
  | true=>exact absurd (HF.out.2 rfl).1 hnf
  | false =>
    have R:=HP.out w12 HB12.out
    clear HP HB5 HB11 HB12 HB1 HE1y HE2y HX11 HD11 HF HS1 HO HI HW1 Hl Hq Hmx Hm5 hk12 hnf
    go_wp2
    exact R
 cases β1 with
 | false=>exact absurd (HF.out.1 hft) (by decide)
 | true =>
 obtain ⟨_,r1,L1,rfl,hd1,hm1,hlL1,hrd1⟩:=HF.out.2 rfl
 have hE1ok:EdOk (setE E0 es1):=setE_ok ed0_ok (fun e he=>(erow_ok HE1y.out.1 e he).1)
 obtain ⟨E1,hE1⟩:∃ E1,E1=setE E0 es1:=⟨_,rfl⟩
 rw [<- hE1] at hV2 hd1 hE1ok
 have HE1k:Hid (EdOk E1):=hE1ok
 have HD1:Hid (DocE L1 E1):=hd1
 have HV2:Hid (Has V2 E1):=hV2
 have HS2:Hid (S2.free∧S2.writes<=4000):=⟨hfr2,by have:=HS1.out.2;omega⟩
 have HR1:Hid (RD (zn w1.heap.size w5.heap.size w11.heap.size) w11 r1 L1):=hrd1
 have HK12:Hid (Kp (zn w1.heap.size w5.heap.size w11.heap.size) w11 w12):=hk12
 have HX12:Hid (XS (zn w1.heap.size w5.heap.size w11.heap.size) w12 s d S2 V2):=hx12
 have HEk:Hid (∀ W,Kp (zn w1.heap.size w5.heap.size w11.heap.size) w11 W->EdsAt W ea2 es2):=fun W hk=>(HE2y.out.1.keep hk (fun k h1 h2=>.inr ⟨h1,h2⟩)).eds
 have HE2:Hid (EbOf l2 es2∧es2.length=n2∧(∀ e∈es2,e.ok∧e.n=32768)∧∀ e∈es2,I64 e.x∧I64 e.z):=⟨HE2y.out.2.1,HE2y.out.2.2,erow_ok HE2y.out.1,erow_i64 HE2y.out.1⟩
 obtain ⟨G1,B1,av1,cv1,hrs,hG1⟩:=(hrd1.keep hk12).it
 have hsv:=ssave_c hrs hd1 hE1ok ea2 n2 ec2 es2 (HEk.out _ hk12) HE2.out.2.1 (by omega) HE2.out.2.2.1 (by omega)
 clear hE1 hV2 hd1 hE1ok hw2 hfr2 hrd1 hk12 hx12 hm1 hlL1 hft HF HE1y HE2y HX11 HS1 HB5
 go_wp2_with fail
 refine hsv.mono ?_
 clear hsv
 rintro _ w13 hsd
 obtain ⟨hb13,P2,β2,rfl,hf2,hs2⟩:=save_both hsd hG1
 obtain ⟨D2,hD2⟩:∃ D2:Nat->Prop,D2=fun k=>zn w1.heap.size w5.heap.size w11.heap.size k∨(w12.heap.size<=k∧k<w13.heap.size):=⟨_,rfl⟩
 rw [<- hD2] at hs2
 have h12:∀ k,zn w1.heap.size w5.heap.size w11.heap.size k->D2 k:=fun k hk=>by rw [hD2];exact .inl hk
 have H12:Hid (∀ k,zn w1.heap.size w5.heap.size w11.heap.size k->D2 k):=h12
 have HX13:Hid (XS D2 w13 s d S2 V2):=HX12.out.grow hb13 (fun k hk=>by rw [hD2] at hk;exact hk.imp id (fun h=>h.1))
 have HD13:Hid (∀ k,D2 k->k<w13.heap.size):=fun k hk=>by
  rw [hD2] at hk
  rcases hk with hk | hk
  ·have:=HD11.out k hk;have:=HK12.out.size;have:=hb13.size;omega
  ·exact hk.2
 have HK13:Hid (Kp (zn w1.heap.size w5.heap.size w11.heap.size) w11 w13):=HK12.out.trans (Kp.below hb13)
 have HR2:Hid ((fits E1 es2->β2=true)∧(β2=true->fits E1 es2∧∃ r L',P2 = .pointer (some ⟨r,0,none⟩)∧DocE L' (setE E1 es2)∧RD D2 w13 r L')):=⟨hf2,fun h=>by
  obtain ⟨h1,r,L',h2,h3,_,_,h6⟩:=hs2 h
  exact ⟨h1,r,L',h2,h3,h6⟩⟩
 clear hb13 hsd hf2 hs2 hD2 h12 hrs hG1 HX12 HK12 HB12 HD11
 have hwr:=xwrites_c HX13.out.disk
 go_wp2_with fail
 refine hwr.mono ?_
 clear hwr
 rintro _ w13' ⟨rfl,hwe⟩
 replace hwe:=hwe.symm
 subst hwe
 have hct:=xscut_c HX13.out Hq.out
 go_wp2_with fail
 refine hct.mono ?_
 clear hct
 rintro _ w14 ⟨rfl,hk14,hx14⟩
 have HK14:Hid (Kp D2 w13 w14):=hk14
 have HX14:Hid (XS D2 w14 s d (S2.cut q) V2):=hx14
 have hsv:=xsavecut_c (c:=ec2) hx14 (fun k hk=>Nat.lt_of_lt_of_le (HD13.out k hk) hk14.size) HV2.out (by show S2.writes<=900000;have:=HS2.out.2;omega) (HEk.out _ (HK13.out.trans (hk14.mono H12.out))) HE2.out.2.1 (by omega) (fun e he=>(HE2.out.2.2.1 e he).1) HE2.out.2.2.2 HO.out.2
 clear hk14 hx14 HX13 HEk
 go_wp2_with fail
 refine hsv.mono ?_
 clear hsv
 rintro _ w15 ⟨hk15,Er,S3,V3,rfl,hx15,hw15,hcs⟩
 have HK15:Hid (Kp D2 w13 w15):=HK14.out.trans hk15
 have HX15:Hid (XD D2 w15 d S3 V3):=hx15
 have HS3:Hid (S3.writes<=6000):=by
  have h1:(S2.cut q).writes=S2.writes:=rfl
  have:=HS2.out.2
  show S3.writes<=6000
  omega
 obtain ⟨Ex,HEx⟩:∃ Ex,Hid (Has V3 Ex∧EdOk Ex∧((Er≠0∧Ex=E1)∨(fits E1 es2∧Ex=setE E1 es2∧(Er=0∨S3.writes≠S2.writes)))):=by
  rcases hcs with ⟨h1,h2⟩|⟨h1,h2,h3⟩
  ·exact ⟨E1,h2,HE1k.out,.inl ⟨h1,rfl⟩⟩
  ·refine ⟨_,h2,setE_ok HE1k.out (fun e he=>(HE2.out.2.2.1 e he).1),.inr ⟨h1,rfl,h3.imp id (fun h=>?_)⟩⟩
   have h4:(S2.cut q).writes=S2.writes:=rfl
   omega
 clear hk15 hx15 hw15 hcs HK14 HX14 HV2 HS2 HE1k
 have hwr:=xwrites_c HX15.out
 go_wp2_with fail
 refine hwr.mono ?_
 clear hwr
 rintro _ w15' ⟨rfl,hwe⟩
 replace hwe:=hwe.symm
 subst hwe
 go_upto_region 28 with fail
 obtain ⟨nn,hnn⟩:∃ nn,(S3.writes == S2.writes)=nn:=⟨_,rfl⟩
 rw [hnn]
 have Hnn:Hid (S3.writes≠S2.writes->nn=false):=fun h=>by rw [<- hnn];exact beq_false_of_ne h
 have HEy:Hid (Has V3 Ex∧EdOk Ex∧((Er≠0∧Ex=E1)∨(fits E1 es2∧Ex=setE E1 es2∧(Er=0∨nn=false)))):=⟨HEx.out.1,HEx.out.2.1,HEx.out.2.2.imp id (fun h=>⟨h.1,h.2.1,h.2.2.imp id Hnn.out⟩)⟩
 clear hnn Hnn HEx
 go_wp2_with fail
 go_loopw [28] (fun iv wr=>∃ (i:Nat) (S:St),iv = .int .i64 (i:Int)∧i<=20∧Hid (XD D2 wr d S V3)∧Hid (S.writes<=6000+2000*(i:Int))∧Hid (Kp D2 w13 wr)) (fun iv _=>20-(intOf iv).toNat)
 case atStart=>exact ⟨0,S3,rfl,by omega,HX15.out,by have:=HS3.out;show S3.writes<=_;omega,HK15.out⟩
 case round =>
  clear HX15 HS3 HK15
  obtain ⟨i,S,rfl,hi,HX,HS,HK⟩:=hrel
  by_cases hlt:i<n3∧i<20
  ·have hlt1:(i:Int)<(n3:Int):=by omega
   have hlt2:(i:Int)<20:=by omega
   have hup:=xup_c HX.out
   clear HP
   go_wp2_with fail
   refine hup.mono ?_
   clear hup
   rintro _ wu ⟨rfl,hku,hxu⟩
   have HKu:Hid (Kp D2 w13 wu):=HK.out.trans hku
   have hb1u:Below w1.heap.size w1 wu:=HB1.out.trans ((HK13.out.trans (HKu.out.mono H12.out)).old HB1.out.size (fun k hk=>.inl hk))
   obtain ⟨b,off,cq,rfl,hc,hcI⟩:=(HW1.out.2.2.on hb1u) i hlt.1
   have HXu:Hid (XD D2 wu d S.up V3):=hxu
   have HcI:Hid (I64 cq):=hcI
   have hct:=xcut_c hxu hcI
   clear hku hxu HX HK hb1u hcI
   go_wp2_with fail
   refine hct.mono ?_
   clear hct hc
   rintro _ wc ⟨rfl,hkc,hxc⟩
   have HKc:Hid (Kp D2 w13 wc):=HKu.out.trans hkc
   have hop:=xopen_c hxc (fun k hk=>Nat.lt_of_lt_of_le (HD13.out k hk) HKc.out.size) (by
    show S.writes<=900000
    have:=HS.out
    omega)
   clear hkc hxc HXu HKu HcI
   go_wp2_with fail
   refine hop.mono ?_
   clear hop
   rintro _ wo ⟨hko,S5,hw5,_,hxo,hres⟩
   have HKo:Hid (Kp D2 w13 wo):=HKc.out.trans hko
   have HXo:Hid (XD D2 wo d S5 V3):=hxo
   have HSo:Hid (S5.writes<=6000+2000*((i+1:Nat):Int)):=by
    have h1:(S.up.cut cq).writes=S.writes:=rfl
    have:=HS.out
    show S5.writes<=_
    omega
   clear hko hw5 hxo HKc HS
   rcases hres with ⟨t,rfl,_⟩|⟨rfl,_⟩
   all_goals
    go_wp2
    go_roundw
    case rel=>exact ⟨i+1,S5,by go_num,by omega,HXo.out,HSo.out,HKo.out⟩
    case measure=>simp [intOf];omega
  ·have hx:¬ ((i:Int)<(n3:Int))∨((i:Int)<(n3:Int)∧¬ (i:Int)<20):=by omega
   have hw:S.writes<=900000:=by have:=HS.out;omega
   have Hw:Hid (S.writes<=900000):=hw
   have hup:=xup_c HX.out
   clear hw hlt HX HS
   rcases hx with hx | ⟨hx,hy⟩
   all_goals
    go_wp2_with fail
    refine hup.mono ?_
    clear hup
    rintro _ wu ⟨rfl,hku,hxu⟩
    have HKu:Hid (Kp D2 w13 wu):=HK.out.trans hku
    have hop:=xopen_c hxu (fun k hk=>Nat.lt_of_lt_of_le (HD13.out k hk) HKu.out.size) Hw.out
    clear hku hxu HK Hw
    go_wp2_with fail
    refine hop.mono ?_
    clear hop
    rintro _ wo ⟨hko,S5,_,hst,_,⟨t,rfl,hxo⟩|⟨_,hnf⟩⟩
    rotate_left
    ·exact absurd ⟨rfl,rfl⟩ hnf
    have HKo:Hid (Kp D2 w13 wo):=HKu.out.trans hko
    obtain ⟨F5,mm,nm,R5,hso,_⟩:=hxo.it
    have HSo:Hid (SO F5 wo t d mm nm S5 V3 R5):=hso
    have Hfree:Hid (S5.out=false):=(hst.free ⟨rfl,rfl⟩).1
    obtain ⟨Ga,Ba,aa,ca,hra,_⟩:=(HR1.out.keep (HK13.out.trans (HKo.out.mono H12.out))).it
    have HB1o:Hid (Below w1.heap.size w1 wo):=HB1.out.trans ((HK13.out.trans (HKo.out.mono H12.out)).old HB1.out.size (fun k hk=>.inl hk))
    have hal:=all_c hso HEy.out.1 HEy.out.2.1 Hfree.out hra a2 n2 c2 l2 (HW1.out.2.1.on HB1o.out) Hl.out.2 Hmx.out.2 HI.out.2
    clear hko hst hxo hso hra HKu HR1
    go_wp2_with fail
    refine hal.mono ?_
    clear hal
    rintro _ wa ⟨hba,β3,rfl,h3⟩
    have H3:Hid (Ex=E1->β3=true):=fun e=>h3 (fun o _=>by rw [HD1.out.load,e])
    have HBa:Hid (Below wo.heap.size wo wa):=hba
    clear hba h3
    cases β2 with
    | false =>
      rcases HEy.out.2.2 with ⟨hEr,hEx⟩|⟨hft,_⟩
      ·obtain rfl:=H3.out hEx
       have hEb:(Er == (0:Int))=false:=beq_false_of_ne hEr
       have R:=HP.out wa (HB1o.out.trans (HBa.out.mono HB1o.out.size))
       clear HP HB1 HB1o HBa HEy HR2 HSo HKo HD1 H3 HW1 Hl Hmx HI HE2 HO Hq Hm5 HB11 HK13 H12 HD13 Hfree
       go_wp2
       exact R
      ·exact absurd (HR2.out.1 hft) (by decide)
    | true =>
      obtain ⟨_,r2,L2,rfl,hd2,hr2⟩:=HR2.out.2 rfl
      obtain ⟨Gb,Bb,ab,cb,hrb,_⟩:=(hr2.keep (HKo.out.trans (Kp.below HBa.out))).it
      have hb1a:=HB1o.out.trans (HBa.out.mono HB1o.out.size)
      have hal:=all_c (HSo.out.on HBa.out) HEy.out.1 HEy.out.2.1 Hfree.out hrb a2 n2 c2 l2 (HW1.out.2.1.on hb1a) Hl.out.2 Hmx.out.2 HI.out.2
      have HD2e:Hid (DocE L2 (setE E1 es2)):=hd2
      have HB1a:Hid (Below w1.heap.size w1 wa):=hb1a
      clear hd2 hr2 hrb hb1a HB1o HBa
      go_wp2_with fail
      refine hal.mono ?_
      clear hal
      rintro _ wb ⟨hbb,β4,rfl,h4⟩
      have H4:Hid (Ex=setE E1 es2->β4=true):=fun e=>h4 (fun o _=>by rw [HD2e.out.load,e])
      have R:=HP.out wb (HB1a.out.trans (hbb.mono HB1a.out.size))
      have HC:Hid ((Er≠0∧Ex=E1)∨(fits E1 es2∧Ex=setE E1 es2∧(Er=0∨nn=false))):=HEy.out.2.2
      clear HP HB1 HB1a hbb h4 HEy HR2 HSo HKo HD1 HD2e HW1 Hl Hmx HI HE2 HO Hq Hm5 HB11 HK13 H12 HD13 Hfree
      by_cases hEr:Er=0
      ·subst hEr
       rcases HC.out with ⟨h,_⟩|⟨_,hEx,_⟩
       ·exact absurd rfl h
       ·obtain rfl:=H4.out hEx
        clear HC H3 H4
        go_wp2
        exact R
      ·have hEb:(Er == (0:Int))=false:=beq_false_of_ne hEr
       rcases HC.out with ⟨_,hEx⟩|⟨_,hEx,hnn⟩
       ·obtain rfl:=H3.out hEx
        clear HC H3 H4
        go_wp2
        exact R
       ·obtain rfl:=H4.out hEx
        obtain rfl:=hnn.resolve_left hEr
        clear HC H3 H4
        cases β3 with
        | true =>
          go_wp2
          exact R
        | false =>
          go_wp2
          exact R
end Go.Proofs.YtlllmmceoeihkaaGreat
