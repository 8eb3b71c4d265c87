/-
  The program's packed numbers.
  The program's Encode.
-/
import Derived.Test.YtlllmmceoeihkaaGreatSp
import Derived.Test.YtlllmmceoeihkaaGreatSr
import Derived.StillTailTactics
namespace Go.Proofs.YtlllmmceoeihkaaGreat.K
open Go.RowKit
theorem wp_region_tail {P:Program} {id:Nat} {Q:Exit->Act->World->Prop} {a:Act} {w:World} {l:List Oper} (n:Nat) (hm:P.follows .mixedOrders=true) (hB:Region.lexTailB .any l.toArray n=true)
  (h:wpStill P l.toArray (w.drewN 1) (fun a'=>wpList P l.toArray Q (l.drop n) a' (w.drewN 1)) (l.take n) a):(Code.region id l.toArray true).wp P Q a w :=
 wp_region_still_tail n hm hB h
def WmM (W m M:Nat):Prop:=(W=1∧m=8∧M=4096)∨(W=2∧m=4∧M=8192)∨(W=4∧m=2∧M=16384)∨(W=8∧m=1∧M=32768)
theorem WmM.at_ {W m M:Nat} (h:WmM W m M) {I:Nat} (hI:I<32768):I/m<M∧I/m*m<=I∧I<I/m*m+m∧W*(I-I/m*m)<=7∧W*m=8∧I*W/8=I/m∧I*W%8=W*(I-I/m*m)∧I-I/m*m<m∧I*W<=1000000:=by
 rcases h with ⟨rfl,rfl,rfl⟩|⟨rfl,rfl,rfl⟩|⟨rfl,rfl,rfl⟩|⟨rfl,rfl,rfl⟩ <;> omega
set_option maxRecDepth 1000000 in
set_option maxHeartbeats 2000000 in
theorem packed_g {W m M:Nat} (hd:WmM W m M) (g:Nat) (l cs:List Int) (w:World) (hB:Blk w g 5 (cs.map fun c=>(plc l c:Int))) (hlen:cs.length=32768) (hm:∀ x∈cs,x∈l) (hw:l.length<=2 ^ W) (hl:l.length<=17) :
  Calls Tryz.prog 118 #[.slice (some ⟨g,0,none⟩) 32768 32768,.int .i64 (W:Int)] w fun e w'=>e = .returned (.slice (some ⟨w.heap.size,0,none⟩) M M)∧Blk w' w.heap.size 5 (packTo l cs W m M)∧Below w.heap.size w w':=by
 obtain ⟨Post,hPost⟩:∃ Post:Ending->World->Prop,Post=fun e w'=>e = .returned (.slice (some ⟨w.heap.size,0,none⟩) M M)∧Blk w' w.heap.size 5 (packTo l cs W m M)∧Below w.heap.size w w':=⟨_,rfl⟩
 rw [<- hPost]
 have HPost:Hid (∀ w',Blk w' w.heap.size 5 (packTo l cs W m M)->Below w.heap.size w w'->Post (.returned (.slice (some ⟨w.heap.size,0,none⟩) M M)) w'):=fun w' h1 h2=>by rw [hPost];exact ⟨rfl,h1,h2⟩
 clear hPost
 have hgl:=hB.lt
 have HB:Hid (Blk w g 5 (cs.map fun c=>(plc l c:Int))):=hB
 have Hlen:Hid (cs.length=32768):=hlen
 have HM:Hid (∀ x∈cs,x∈l):=hm
 have HW:Hid (l.length<=2 ^ W):=hw
 have HL:Hid (l.length<=17):=hl
 have hs:=size_c W w (by rcases hd with ⟨h,_⟩|⟨h,_⟩|⟨h,_⟩|⟨h,_⟩ <;> omega)
 have hM4:4096*W=M:=by rcases hd with ⟨h,_,h'⟩|⟨h,_,h'⟩|⟨h,_,h'⟩|⟨h,_,h'⟩ <;> omega
 rw [hM4] at hs
 have hM5:M<=32768:=by rcases hd with ⟨_,_,h⟩|⟨_,_,h⟩|⟨_,_,h⟩|⟨_,_,h⟩ <;> omega
 have Hd:Hid (WmM W m M):=hd
 clear hB hlen hm hw hl hM4 hd
 go_enter Tryz.func118,Tryz.ntmps118
 go_wp2_with fail
 refine hs.mono ?_
 clear hs
 rintro _ w9 ⟨rfl,e9⟩
 rw [e9]
 clear e9 w9
 go_wp2_with (refine wpList_make_bytes w rfl (.tmp 10) (.tmp 10) rfl (M:Int) M rfl rfl rfl (by omega) ?_;intro w2 hR2 hb2)
 have HD2:Hid (Blk w2 w.heap.size 5 (packTo l (cs.take 0) W m M)):=by show Blk _ _ _ _;rw [packTo_zero];exact hR2.out
 have HB2:Hid (Blk w2 g 5 (cs.map fun c=>(plc l c:Int))):=HB.out.below hb2 hgl
 have Hb2:Hid (Below w.heap.size w w2):=hb2
 clear hR2 hb2 HB
 go_loopw [14] (fun v14 wr=>∃ (I:Nat),I<=32768∧v14 = .int .i64 (I:Int)∧Hid (Blk wr w.heap.size 5 (packTo l (cs.take I) W m M))∧Hid (Blk wr g 5 (cs.map fun c=>(plc l c:Int)))∧Hid (Below w.heap.size w wr)) (fun v _=>32768-(intOf v).toNat)
 case atStart=>exact ⟨0,by omega,rfl,HD2,HB2,Hb2⟩
 case round =>
  obtain ⟨I,hI,rfl,HD,HB,Hb⟩:=hrel
  clear HD2 HB2 Hb2
  by_cases hlt:I<32768
  ·have hlt':(I:Int)<32768:=by omega
   have hIl:I<cs.length:=by rw [Hlen.out];exact hlt
   obtain ⟨J,HJ⟩:∃ J,Hid (J=I/m):=⟨_,rfl⟩
   have har:=Hd.out.at_ hlt
   rw [<- HJ.out] at har
   obtain ⟨hJM,hJ1,hJ2,hS7,hWm,hq0,hr0,hr1,hA9⟩:=har
   have hst:=pack_step l cs W m M I J hIl hJM hJ1 hJ2
   obtain ⟨y0,y1,y2⟩:=byte_now l cs W m M I J hIl hJM hJ1 hJ2 HM.out HW.out
   have cx:=HD.out.cell (k:=J) (by rw [packTo_len];exact hJM)
   have hfr:=HD.out.free J
   have hcp:=HB.out.cell (k:=I) (by rw [List.length_map];exact hIl)
   have hpe:(cs.map fun c=>(plc l c:Int)).getD I 0=(plc l cs[I]:Int):=by
    rw [List.getD_eq_getElem?_getD,List.getElem?_map,List.getElem?_eq_getElem hIl];rfl
   rw [hpe] at hcp
   have hp16:plc l cs[I]<=16:=by
    have:=plc_lt (HM.out _ (List.getElem_mem hIl))
    have:=HL.out
    omega
   generalize plc l cs[I]=p at *
   have hDs:=fun z=>HD.out.set J z
   obtain ⟨x,hx⟩:∃ x,x=(packTo l (cs.take I) W m M).getD J 0:=⟨_,rfl⟩
   rw [<- hx] at hst y0 y1 cx
   have hbf:=byte_fit (w:=W) (m:=m) (r:=I-J*m) hWm y1 y2 hr1
   have hor:=or8_join x (p:Int) (W*(I-J*m)) y0 y1 (by omega) hbf
   obtain ⟨S,HS⟩:∃ S,Hid (S=W*(I-J*m)):=⟨_,rfl⟩
   rw [<- HS.out] at hst hbf hor y1 hS7 hr0
   have hsh0:IntKind.u8.wrap ((p:Int)*2 ^ S)=(p:Int)*2 ^ S:=by
    have hpp:(0:Int)<=(p:Int)*2 ^ S:=Int.mul_nonneg (by omega) (Int.le_of_lt (Int.pow_pos (by omega)))
    rw [IntKind.wrap_u8]
    exact Int.emod_eq_of_lt hpp (by omega)
   obtain ⟨yy,Hyy⟩:∃ yy:Int,Hid (yy=(p:Int)*2 ^ S):=⟨_,rfl⟩
   rw [<- Hyy.out] at hst hor
   have hsh:IntKind.u8.wrap ((p:Int)*2 ^ S)=yy:=by rw [hsh0];exact Hyy.out.symm
   obtain ⟨zz,Hzz⟩:∃ zz:Int,Hid (zz=x+yy):=⟨_,rfl⟩
   rw [<- Hzz.out] at hst hor
   have HD2:Hid (Blk (wr.setCell ⟨w.heap.size,J,none⟩ (.int .u8 zz)) w.heap.size 5 (packTo l (cs.take (I+1)) W m M)):=by show Blk _ _ _ _;rw [hst];exact hDs zz
   have HB2:Hid (Blk (wr.setCell ⟨w.heap.size,J,none⟩ (.int .u8 zz)) g 5 (cs.map fun c=>(plc l c:Int))):=HB.out.other (by omega)
   have Hb2:Hid (Below w.heap.size w (wr.setCell ⟨w.heap.size,J,none⟩ (.int .u8 zz))):=Hb.out.setCell (p:=⟨w.heap.size,J,none⟩) (by simp) _
   clear hst y0 y1 y2 hpe hIl hDs hx hbf hsh0 HD HB Hb hJ1 hJ2
   obtain ⟨A,HA⟩:∃ A:Nat,Hid (A=I*W):=⟨_,rfl⟩
   have hA:(I:Int)*(W:Int)=(A:Int):=by rw [HA.out];simp
   rw [<- HA.out] at hq0 hr0 hA9
   have hq:IntKind.i64.wrap ((A:Int)/8)=(J:Int):=by rw [IntKind.wrap_i64];omega
   have hr:(A:Int).tmod 8=(S:Int):=by rw [Int.tmod_eq_emod_of_nonneg (by omega)];omega
   have hA2:(A:Int)<=1000000:=by omega
   have hJi:(J:Int)<(M:Int):=by omega
   clear hJM hWm hq0 hr0 hr1 hA9
   go_wp2_with fail
   have cx1:(wr.drewN 1).cell? ⟨w.heap.size,J,none⟩=some (.int .u8 x):=cx
   have hfr1:(wr.drewN 1).frozen? ⟨w.heap.size,J,none⟩=false:=hfr
   refine wp_region_tail 11 (by kernel_rfl) (by kernel_rfl) ?_
   simp only [List.take_succ_cons,List.take_zero,List.drop_succ_cons,List.drop_zero]
   repeat still_step
   refine wpStill_nil ?_
   have HD3:Hid (Blk ((wr.drewN 1).setCell ⟨w.heap.size,J,none⟩ (.int .u8 zz)) w.heap.size 5 (packTo l (cs.take (I+1)) W m M)):=HD2.out
   have HB3:Hid (Blk ((wr.drewN 1).setCell ⟨w.heap.size,J,none⟩ (.int .u8 zz)) g 5 (cs.map fun c=>(plc l c:Int))):=HB2.out
   have Hb3:Hid (Below w.heap.size w ((wr.drewN 1).setCell ⟨w.heap.size,J,none⟩ (.int .u8 zz))):=⟨Hb2.out.os,Hb2.out.tape,Hb2.out.output,Hb2.out.size,Hb2.out.block⟩
   go_wp2
   go_roundw
   case rel=>exact ⟨I+1,by omega,by go_num,HD3,HB3,Hb3⟩
   case measure=>simp [intOf];omega
  ·obtain rfl:I=32768:=by omega
   have hlt':¬ (32768:Int)<32768:=by omega
   have hD:=HD.out
   rw [List.take_of_length_le (Nat.le_of_eq Hlen.out)] at hD
   have R:=HPost.out wr hD Hb.out
   clear HPost HD HB Hb hD
   go_wp2
   exact R
theorem packed_c (g:Nat) (l cs:List Int) (w:World) (hB:Blk w g 5 (cs.map fun c=>(plc l c:Int))) (hlen:cs.length=32768) (hm:∀ x∈cs,x∈l) (hl:l.length<=17) :
  Calls Tryz.prog 118 #[.slice (some ⟨g,0,none⟩) 32768 32768,.int .i64 (wid l.length:Int)] w fun e w'=>e = .returned (.slice (some ⟨w.heap.size,0,none⟩) (4096*wid l.length) (4096*wid l.length))∧Blk w' w.heap.size 5 (packTo l cs (wid l.length) (8/wid l.length) (4096*wid l.length))∧Below w.heap.size w w':=by
 have hw:=wid_fit hl
 have hd:WmM (wid l.length) (8/wid l.length) (4096*wid l.length):=by
  rcases wid_is l.length with h | h | h | h <;> rw [h] <;> unfold WmM <;> omega
 exact packed_g hd g l cs w hB hlen hm hw hl
end Go.Proofs.YtlllmmceoeihkaaGreat.K
namespace Go.Proofs.YtlllmmceoeihkaaGreat.K
open Go.RowKit
theorem wpList_make_none (w:World) {ops:Array Oper} {rest:List Oper} {o:Oper} {a:Act} {Q:Exit->Act->World->Prop}
  (hg:o.guard=none) (l c:Operand) (hop:o.op=Op.makeSlice 61 l c) (C:Int) (n:Nat) (hl:a.eval l = .int .i64 0) (hc:a.eval c = .int .i64 C) (hC:C=(n:Int)) (hn:n<=281474976710656)
  (hK:∀ w',Hid (Own w' w.heap.size (some ⟨w.heap.size,0,none⟩) n [])->Below w.heap.size w w'->w.heap.size<=w'.heap.size->wpList Tryz.prog ops Q rest (a.put o.dst (.slice (some ⟨w.heap.size,0,none⟩) 0 n)) w') :
  wpList Tryz.prog ops Q (o::rest) a w:=by
 obtain ⟨i,hi,hz0,hz1,hz2⟩:=info_parts Tryz.info5
 refine wpList_make_own w hg l c 61 hop w.heap.size 5 i (.int .u8 0) 1 Tryz.underlying61 hi hz0 hz1 .i64 .i64 C n hl hc hC (by rw [hz2];omega) (by unfold maxLen;omega) (Nat.le_refl _) ?_
 intro w' hown hgrow
 have hb:Below w.heap.size w w':=(Below.refl _ _).grown hgrow (Nat.le_refl _) (by simp)
 exact hK w' hown hb hb.size
theorem Own.room {w:World} {B:Nat} {a:Option Addr} {c:Nat} {ys:List Int} (h:Own w B a c ys):ys.length<=c:=by
 rcases h.parts with ⟨_,_,e⟩|⟨_,_,_,_,_,_,h⟩
 ·rw [e];exact Nat.zero_le _
 ·exact h
theorem enc_fits {cs:List Int} (hk:AreKinds cs) (hc:cs.length=32768):∀ z∈encL cs,0<=z∧z<=255:=enc_fit hk hc
theorem encR_len_le (l:List Int):∀ (m:Nat) (cs:List Int),cs.length<=m->cs.length<=32768->(encR l cs).length<=10*cs.length
 | _,[],_,_=>by rw [encR_nil];simp
 | 0,c::r,h,_=>by simp at h
 | m+1,c::r,h,h2=>by
   have hr:=runN_le c r
   rw [List.length_cons] at h h2
   have ih:=encR_len_le l m (r.drop (runN c r)) (by rw [List.length_drop];omega) (by rw [List.length_drop];omega)
   have hp:=putL_le ((runN c r+1:Nat):Int) (by omega) (by omega)
   rw [List.length_drop] at ih
   rw [encR_cons,List.length_append,List.length_cons,List.length_cons]
   omega
set_option maxRecDepth 100000 in
set_option maxHeartbeats 2000000 in
theorem encode_c (g:Nat) (cs:List Int) (w:World) (hB:Blk w g 122 cs) (hlen:cs.length=32768) (hk:Kinds cs) :
  Calls Tryz.prog 86 #[.pointer (some ⟨g,0,none⟩)] w fun e w'=>∃ a c,e = .returned (.slice a (encL cs).length c)∧Bytes w' a (encL cs).length (encL cs)∧(encL cs).length<=c∧Own w' w.heap.size a c (encL cs)∧Below w.heap.size w w':=by
 obtain ⟨Post,hPost⟩:∃ Post:Ending->World->Prop,Post=fun e w'=>∃ a c,e = .returned (.slice a (encL cs).length c)∧Bytes w' a (encL cs).length (encL cs)∧(encL cs).length<=c∧Own w' w.heap.size a c (encL cs)∧Below w.heap.size w w':=⟨_,rfl⟩
 rw [<- hPost]
 have HPost:Hid (∀ a c w' n,encL cs=n->Own w' w.heap.size a c n->Below w.heap.size w w'->Post (.returned (.slice a n.length c)) w'):=fun a c w' n h0 h1 h2=>by
  rw [hPost];subst h0;exact ⟨a,c,rfl,h1.bytes (enc_fits hk hlen) _ rfl,h1.room,h1,h2⟩
 clear hPost
 have hgl:=hB.lt
 have hpo:=paletteOf_c g cs w hB hlen hk
 have Hlen:Hid (cs.length=32768):=hlen
 have HE:Hid (encL cs=if (encR (pal cs) cs).length<=4096*wid (pal cs).length then headL 1 (pal cs)++encR (pal cs) cs else headL 2 (pal cs)++packTo (pal cs) cs (wid (pal cs).length) (8/wid (pal cs).length) (4096*wid (pal cs).length)):=by
  show _=_
  unfold encL oneL twoL
  rw [List.length_append]
  by_cases h:(encR (pal cs) cs).length<=4096*wid (pal cs).length
  ·rw [if_pos h,if_pos (by omega)]
  ·rw [if_neg h,if_neg (by omega)]
 have HRl:Hid ((encR (pal cs) cs).length<=327680):=by show _<=_;have:=encR_len_le (pal cs) cs.length cs (Nat.le_refl _) (by omega);omega
 have HB:Hid (Blk w g 122 cs):=hB
 have HM:Hid (∀ x∈cs,x∈pal cs):=fun x hx=>mem_pal hk hx
 have Hl:Hid ((pal cs).length<=17):=pal_len cs
 have HR:Hid ((pal cs).Pairwise (· < ·)):=palTo_rise cs 17
 have HKs:Hid (AreKinds (pal cs)):=pal_kinds cs
 have HPm:Hid (encP (cs.map fun x=>(plc (pal cs) x:Int))=encR (pal cs) cs):=encP_map (pal cs) cs.length cs (Nat.le_refl _) HM.out
 have Hfit:Hid (∀ z∈encL cs,0<=z∧z<=255):=enc_fits hk hlen
 clear hB hlen hk
 generalize pal cs=l at *
 go_enter Tryz.func86,Tryz.ntmps86
 go_wp2_with fail
 refine hpo.mono ?_
 clear hpo
 rintro _ w1 ⟨⟨X,rfl,hX⟩,hb1⟩
 have HX:Hid (IsPal X l):=hX
 have hone:=hX.one
 have hsz:=hX.size
 have hs1:=hb1.size
 clear hX
 obtain ⟨Pb,HPb⟩:∃ Pb,Hid (Pb=w1.heap.size):=⟨_,rfl⟩
 go_upto_region 4 with (refine wpList_store_pal rfl (.tmp 3) (.tmp 12) rfl w1.heap.size X rfl rfl (palZ 0) (heap_alloc_new w1 _) rfl hsz hone ?_;intro w2 hO2 hX2)
 have hs2:w2.heap.size=w1.heap.size+1:=by rw [hO2.size,World.size_alloc]
 have hb2:Below w1.heap.size w1 w2:=((Below.refl _ _).alloc (Nat.le_refl _) _).trans (hO2.below (Nat.le_refl _))
 have Hb2:Hid (Below w.heap.size w w2):=hb1.trans (hb2.mono hs1)
 have HG2:Hid (Blk w2 g 122 cs):=HB.out.below Hb2.out hgl
 rw [<- HPb.out] at hX2 hs2 ⊢
 have hPw:w.heap.size<=Pb:=by rw [HPb.out];exact hs1
 clear hO2 hb2 hb1 hs1 HB HPb
 refine wp_region_held_drew (S:=fun w'=>w'.heap[Pb]?=some (.cells X 192 (0,0))) (by kernel_rfl) (by exact hX2) (fun hHeld=>?_)
 have hne:Nonempty (Sub (fun w'=>w'.heap[Pb]?=some (.cells X 192 (0,0)))):=⟨⟨_,hHeld⟩⟩
 refine wpAnyH_take (i:=0) (v:=.agg X) rfl (by kernel_rfl) (by kernel_rfl) (by kernel_rfl) (fun _ _ _ h=>h) (yields_pal (by rfl) (.tmp 3) rfl Pb rfl X hsz (fun _ h=>h)) (by exact hHeld) ?_
 refine take_step (i:=1) rfl (by kernel_rfl) (by kernel_rfl) (by kernel_rfl) (fun _ _ _ _ h=>h) (by exact hHeld) (fun K hK=>?_)
 go_simp;refine hK _ ?_;clear hK K
 refine wpAnyH_ready (rs:=[2]) (by kernel_rfl) (by simp) ?_
 refine AllReadyH.cons rfl (fun K hK=>?_) AllReadyH.nil
 go_simp
 refine (bytes_c g cs _ (by exact HG2.out) Hlen.out).mono ?_
 rintro e w3 ⟨rfl,hB3,hb3⟩
 have hb3':Below w2.heap.size w2 w3:=⟨hb3.os,hb3.tape,hb3.output,hb3.size,hb3.block⟩
 have hX3:w3.heap[Pb]?=some (.cells X 192 (0,0)):=(hb3'.block _ (by omega)).trans hX2
 have Hb3:Hid (Below w.heap.size w w3):=Hb2.out.trans (hb3'.mono (by omega))
 have hs3:=hb3'.size
 have hB3':Blk w3 (Pb+1) 5 cs:=by rw [<- hs2];exact hB3
 clear hb3 hb3' hB3
 refine hK.out _ _ (by exact hX3) (fun hHeld=>?_)
 clear hK K
 refine wpAnyH_ready (rs:=[3]) (by kernel_rfl) (by simp) ?_
 refine AllReadyH.cons rfl (fun K hK=>?_) AllReadyH.nil
 go_simp
 refine (placesOf_c X l cs _ w3 HX.out Hl.out HR.out HKs.out HM.out hB3' Hlen.out).mono ?_
 rintro e w4 ⟨⟨h,rfl,hB4,hh4⟩,hb4⟩
 have hX4:w4.heap[Pb]?=some (.cells X 192 (0,0)):=(hb4.block _ (by omega)).trans hX3
 have Hb4:Hid (Below w.heap.size w w4):=Hb3.out.trans (hb4.mono (by omega))
 have hs4:=hb4.size
 clear hb4
 refine hK.out _ _ (by exact hX4) (fun hHeld=>?_)
 clear hK K
 refine take_step (i:=4) rfl (by kernel_rfl) (by kernel_rfl) (by kernel_rfl) (fun _ _ _ _ h=>h) (by exact hHeld) (fun K hK=>?_)
 go_simp
 refine hK _ ?_
 clear hK K hne hHeld
 refine wpAnyH_done (by kernel_rfl) ?_ _
 clear hX3 hX2 Hb3 Hb2 hB3' HG2
 have hBy:Bytes w4 (some ⟨h,0,none⟩) 32768 (cs.map fun x=>(plc l x:Int)):=Row.bytes (zs:=cs.map fun x=>(plc l x:Int)) hB4 (fun z hz=>by
  obtain ⟨x,hx,rfl⟩:=List.mem_map.1 hz
  have:=plc_lt (HM.out x hx)
  have:=Hl.out
  omega) 32768 (by rw [List.length_map,Hlen.out])
 have hrc:=runs_c h 0 32768 32768 (cs.map fun x=>(plc l x:Int)) w4 hBy (by omega) (by omega)
 rw [HPm.out] at hrc
 clear hBy HPm
 have HP4:Hid (Blk w4 h 5 (cs.map fun x=>(plc l x:Int))):=hB4
 have hhl:=hB4.lt
 clear hB4
 obtain ⟨nr,hnr⟩:∃ nr,nr=(encR l cs).length:=⟨_,rfl⟩
 rw [<- hnr] at hrc HE HRl
 have Hnr:Hid ((encR l cs).length=nr):=hnr.symm
 clear hnr
 go_wp2_with fail
 refine hrc.mono ?_
 clear hrc
 rintro _ w5 ⟨⟨a5,c5,rfl,hO5⟩,hb5⟩
 have HO5:Hid (Own w5 w4.heap.size a5 c5 (encR l cs)):=hO5
 have hX5:w5.heap[Pb]?=some (.cells X 192 (0,0)):=(hb5.block _ (by omega)).trans hX4
 have HP5:Hid (Blk w5 h 5 (cs.map fun x=>(plc l x:Int))):=HP4.out.below hb5 hhl
 have Hb5:Hid (Below w.heap.size w w5):=Hb4.out.trans (hb5.mono (by omega))
 have hs5:=hb5.size
 clear hb5 hO5 hX4 HP4 Hb4
 have hwc:=width_c X l w5 HX.out Hl.out
 have Hwid:=wid_is l.length
 obtain ⟨W,hW⟩:∃ W,W=wid l.length:=⟨_,rfl⟩
 rw [<- hW] at hwc HE Hwid
 have HW:Hid (W=wid l.length):=hW
 clear hW
 go_wp2_with (refine wpList_load_pal rfl (.tmp 3) rfl Pb X rfl hX5 hsz ?_)
 refine hwc.mono ?_
 clear hwc
 rintro _ w6 ⟨rfl,hb6⟩
 have hX6:w6.heap[Pb]?=some (.cells X 192 (0,0)):=(hb6.block _ (by omega)).trans hX5
 have HP6:Hid (Blk w6 h 5 (cs.map fun x=>(plc l x:Int))):=HP5.out.below hb6 (by omega)
 have Hb6:Hid (Below w.heap.size w w6):=Hb5.out.trans (hb6.mono (by omega))
 have HO6:Hid (Own w6 w4.heap.size a5 c5 (encR l cs)):=HO5.out.later hb6
 have hs6:=hb6.size
 have hh6:h<w6.heap.size:=by omega
 have hw6:w.heap.size<=w6.heap.size:=by omega
 clear hb6 hX5 HP5 Hb5 HO5
 have hsc:=size_c W w6 (by omega)
 go_wp2_with fail
 refine hsc.mono ?_
 clear hsc
 rintro _ w9 ⟨rfl,e9⟩
 rw [e9]
 clear e9 w9
 obtain ⟨n,hn⟩:∃ n,n=l.length:=⟨_,rfl⟩
 have Hn:Hid (l.length=n):=hn.symm
 have hn17:n<=17:=by rw [hn];exact Hl.out
 have hn17i:(n:Int)<=17:=by omega
 have hsl:=slice_pal Pb n hn17
 clear hn
 by_cases hle:nr<=4096*W
 ·have hle':¬ ((4096*W:Nat):Int)<nr:=by omega
  have HF1:Hid (encL cs=headL 1 l++encR l cs):=by show _=_;rw [HE.out,if_pos hle]
  have HFin:Hid (∀ a c w',Own w' w6.heap.size a c ([]++[1,(n:Int)]++l++encR l cs)->Below w6.heap.size w6 w'->Post (.returned (.slice a (2+n+nr) c)) w'):=fun a c w' h1 h2=>by
   have:=HPost.out a c w' ([]++[1,(n:Int)]++l++encR l cs) (by rw [HF1.out];unfold headL;rw [Hn.out];rfl) (h1.base hw6) (Hb6.out.trans (h2.mono hw6))
   rw [List.length_append,List.length_append,Hn.out,Hnr.out] at this
   exact this
  have HBd:Hid (Bytes w6 a5 nr (encR l cs)):=HO6.out.bytes (fun z hz=>Hfit.out z (by rw [HF1.out];exact List.mem_append_right _ hz)) nr Hnr.out
  have Hnil:Hid (a5=none->c5=0):=fun e=>by
   rcases HO6.out.parts with ⟨_,h,_⟩|⟨_,h,_⟩
   ·exact h
   ·rw [e] at h;cases h
  have Hnb:Hid (nr<=1000000):=by show _<=_;have:=HRl.out;omega
  have HXp:Hid (w6.heap[Pb]?=some (.cells X 192 (0,0))):=hX6
  clear HPost HE HF1 HO6 HP6 hle HRl hX6 hh6 Hb6 hs6 hs5 hs4 hs3 hs2
  generalize hbody:encR l cs=body at *
  generalize a5=ab at *
  generalize c5=cb at *
  generalize nr=nb at *
  have hnum:w6.cell? ⟨Pb,17,none⟩=some (.int .i64 (n:Int)):=by rw [cell_of_row _ Pb 17 X 192 (0,0) HXp.out];exact HX.out.many.trans (by rw [Hn.out])
  have hPl:Pb<w6.heap.size:=(Array.getElem?_eq_some_iff.1 HXp.out).1
  have hnbb:(nb:Int)<=1000000:=by have:=Hnb.out;omega
  have Hlp:Hid (∀ w',Below w6.heap.size w6 w'->Bytes w' (some ⟨Pb,0,none⟩) n l∧w'.cell? ⟨Pb,17,none⟩=some (.int .i64 (n:Int))):=fun w' h'=>by
   have hh:w'.heap[Pb]?=some (.cells X 192 (0,0)):=(h'.block _ (Array.getElem?_eq_some_iff.1 HXp.out).1).trans HXp.out
   refine ⟨⟨Hn.out,Or.inr ⟨Pb,0,rfl,fun k hk=>?_⟩,fun z hz=>by have:=HKs.out z hz;omega⟩,?_⟩
   ·rw [Nat.zero_add,cell_of_row _ Pb k X 192 (0,0) hh,HX.out.kinds k (by have:=Hn.out;omega),List.getD_eq_getElem?_getD,List.getElem?_eq_getElem hk]
    rfl
   ·rw [cell_of_row _ Pb 17 X 192 (0,0) hh];exact HX.out.many.trans (by rw [Hn.out])
  go_upto_region 10 with (refine wpList_make_none w6 rfl (.const (.int .i64 0)) (.tmp 34) rfl _ (2+n+nb) rfl rfl (by omega) (by omega) ?_;intro w7 HO7 hb7 hs7)
  have hnum7:=(Hlp.out w7 hb7).2
  have HA8:Hid _:=belowAlloc hb7 hs7 (.cells #[.int .u8 1,.int .u8 (n:Int)] 5)
  have HO8:Hid (Own (w7.alloc (.cells #[.int .u8 1,.int .u8 (n:Int)] 5)) w6.heap.size (some ⟨w6.heap.size,0,none⟩) (2+n+nb) []):=HO7.out.later ((Below.refl _ _).alloc (Nat.le_refl _) _)
  have HB8:Hid (Bytes (w7.alloc (.cells #[.int .u8 1,.int .u8 (n:Int)] 5)) (some ⟨w7.heap.size,0,none⟩) 2 [1,(n:Int)]):=bytes_new w7 [1,(n:Int)] (by simp;omega) 2 rfl
  generalize 2+n+nb=cap at HO8 ⊢
  go_upto_region 11 with (at_builtin;refine wpList_append_bytes rfl (.tmp 36) (.tmp 41) rfl w6.heap.size _ 0 cap [] rfl rfl HO8.out _ 2 2 [1,(n:Int)] rfl HB8.out (fun h=>by cases h) (by omega) w6 HA8.out.1 HA8.out.2 ?_;intro a9 c9 w9 HO9 hb9 hs9)
  have hnum9:=(Hlp.out w9 hb9).2
  have HB9:Hid (Bytes w9 (some ⟨Pb,0,none⟩) n l):=(Hlp.out w9 hb9).1
  clear HO8 HB8 HA8 HO7 hb7 hs7 hnum7
  go_upto_region 12 with (at_builtin;refine wpList_append_bytes rfl (.tmp 43) (.tmp 47) rfl w6.heap.size a9 2 c9 _ rfl rfl HO9.out _ n 17 l rfl HB9.out (fun h=>by cases h) (by omega) w6 hb9 hs9 ?_;intro a10 c10 w10 HO10 hb10 hs10)
  have HB10:Hid (Bytes w10 ab nb body):=HBd.out.later hb10
  clear HO9 HB9 hnum9 hb9 hs9
  go_wp2_with (at_builtin;refine wpList_append_bytes rfl (.tmp 49) (.tmp 50) rfl w6.heap.size a10 (2+n) c10 _ (by rw [List.length_append,Hn.out];rfl) rfl HO10.out ab nb cb body rfl HB10.out Hnil.out (by omega) w6 hb10 hs10 ?_;intro a11 c11 w11 HO11 hb11 hs11)
  exact HFin.out a11 c11 w11 HO11.out hb11
 ·have hle':((4096*W:Nat):Int)<nr:=by omega
  have HF2:Hid (encL cs=headL 2 l++packTo l cs W (8/W) (4096*W)):=by show _=_;rw [HE.out,if_neg hle]
  have hpk:=packed_c h l cs w6 HP6.out Hlen.out HM.out Hl.out
  rw [<- HW.out] at hpk
  clear HO6 HE hle HRl
  go_wp2_with fail
  refine hpk.mono ?_
  clear hpk
  rintro _ w8 ⟨rfl,hB8,hb8⟩
  have hs8:=hb8.size
  have Hb8:Hid (Below w.heap.size w w8):=Hb6.out.trans (hb8.mono hw6)
  have hw8:w.heap.size<=w8.heap.size:=by omega
  have HFin:Hid (∀ a c w',Own w' w8.heap.size a c ([]++[2,(n:Int)]++l++packTo l cs W (8/W) (4096*W))->Below w8.heap.size w8 w'->Post (.returned (.slice a (2+n+4096*W) c)) w'):=fun a c w' h1 h2=>by
   have:=HPost.out a c w' ([]++[2,(n:Int)]++l++packTo l cs W (8/W) (4096*W)) (by rw [HF2.out];unfold headL;rw [Hn.out];rfl) (h1.base hw8) (Hb8.out.trans (h2.mono hw8))
   rw [List.length_append,List.length_append,Hn.out,packTo_len] at this
   exact this
  have HBd:Hid (Bytes w8 (some ⟨w6.heap.size,0,none⟩) (4096*W) (packTo l cs W (8/W) (4096*W))):=Row.bytes (zs:=packTo l cs W (8/W) (4096*W)) hB8 (fun z hz=>Hfit.out z (by rw [HF2.out];exact List.mem_append_right _ hz)) _ (packTo_len _ _ _ _ _)
  have Hnil:Hid (some (⟨w6.heap.size,0,none⟩:Addr)=none->4096*W=0):=fun e=>by cases e
  have Hnb:Hid (4096*W<=1000000):=by show _<=_;omega
  have HXp:Hid (w8.heap[Pb]?=some (.cells X 192 (0,0))):=(hb8.block _ (Array.getElem?_eq_some_iff.1 hX6).1).trans hX6
  clear HPost HF2 HP6 hX6 hh6 Hb6 hs6 hs5 hs4 hs3 hs2 hB8 hb8 hle' Hb8 hs8
  generalize packTo l cs W (8/W) (4096*W)=body at *
  generalize (some ⟨w6.heap.size,0,none⟩:Option Addr)=ab at *
  generalize 4096*W=nb at *
  have hnum:w8.cell? ⟨Pb,17,none⟩=some (.int .i64 (n:Int)):=by rw [cell_of_row _ Pb 17 X 192 (0,0) HXp.out];exact HX.out.many.trans (by rw [Hn.out])
  have hPl:Pb<w8.heap.size:=(Array.getElem?_eq_some_iff.1 HXp.out).1
  have hnbb:(nb:Int)<=1000000:=by have:=Hnb.out;omega
  have Hlp:Hid (∀ w',Below w8.heap.size w8 w'->Bytes w' (some ⟨Pb,0,none⟩) n l∧w'.cell? ⟨Pb,17,none⟩=some (.int .i64 (n:Int))):=fun w' h'=>by
   have hh:w'.heap[Pb]?=some (.cells X 192 (0,0)):=(h'.block _ (Array.getElem?_eq_some_iff.1 HXp.out).1).trans HXp.out
   refine ⟨⟨Hn.out,Or.inr ⟨Pb,0,rfl,fun k hk=>?_⟩,fun z hz=>by have:=HKs.out z hz;omega⟩,?_⟩
   ·rw [Nat.zero_add,cell_of_row _ Pb k X 192 (0,0) hh,HX.out.kinds k (by have:=Hn.out;omega),List.getD_eq_getElem?_getD,List.getElem?_eq_getElem hk]
    rfl
   ·rw [cell_of_row _ Pb 17 X 192 (0,0) hh];exact HX.out.many.trans (by rw [Hn.out])
  go_upto_region 10 with (refine wpList_make_none w8 rfl (.const (.int .i64 0)) (.tmp 34) rfl _ (2+n+nb) rfl rfl (by omega) (by omega) ?_;intro w7 HO7 hb7 hs7)
  have hnum7:=(Hlp.out w7 hb7).2
  have HA8:Hid _:=belowAlloc hb7 hs7 (.cells #[.int .u8 2,.int .u8 (n:Int)] 5)
  have HO8:Hid (Own (w7.alloc (.cells #[.int .u8 2,.int .u8 (n:Int)] 5)) w8.heap.size (some ⟨w8.heap.size,0,none⟩) (2+n+nb) []):=HO7.out.later ((Below.refl _ _).alloc (Nat.le_refl _) _)
  have HB8:Hid (Bytes (w7.alloc (.cells #[.int .u8 2,.int .u8 (n:Int)] 5)) (some ⟨w7.heap.size,0,none⟩) 2 [2,(n:Int)]):=bytes_new w7 [2,(n:Int)] (by simp;omega) 2 rfl
  generalize 2+n+nb=cap at HO8 ⊢
  go_upto_region 11 with (at_builtin;refine wpList_append_bytes rfl (.tmp 36) (.tmp 41) rfl w8.heap.size _ 0 cap [] rfl rfl HO8.out _ 2 2 [2,(n:Int)] rfl HB8.out (fun h=>by cases h) (by omega) w8 HA8.out.1 HA8.out.2 ?_;intro a9 c9 w9 HO9 hb9 hs9)
  have hnum9:=(Hlp.out w9 hb9).2
  have HB9:Hid (Bytes w9 (some ⟨Pb,0,none⟩) n l):=(Hlp.out w9 hb9).1
  clear HO8 HB8 HA8 HO7 hb7 hs7 hnum7
  go_upto_region 12 with (at_builtin;refine wpList_append_bytes rfl (.tmp 43) (.tmp 47) rfl w8.heap.size a9 2 c9 _ rfl rfl HO9.out _ n 17 l rfl HB9.out (fun h=>by cases h) (by omega) w8 hb9 hs9 ?_;intro a10 c10 w10 HO10 hb10 hs10)
  have HB10:Hid (Bytes w10 ab nb body):=HBd.out.later hb10
  clear HO9 HB9 hnum9 hb9 hs9
  go_wp2_with (at_builtin;refine wpList_append_bytes rfl (.tmp 49) (.tmp 50) rfl w8.heap.size a10 (2+n) c10 _ (by rw [List.length_append,Hn.out];rfl) rfl HO10.out ab nb nb body rfl HB10.out Hnil.out (by omega) w8 hb10 hs10 ?_;intro a11 c11 w11 HO11 hb11 hs11)
  exact HFin.out a11 c11 w11 HO11.out hb11
end Go.Proofs.YtlllmmceoeihkaaGreat.K
