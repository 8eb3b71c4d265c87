/-
  The document's Encode of bytes at a row's head.
-/
import Derived.Test.YtlllmmceoeihkaaGreatSr
import Derived.Test.YtlllmmceoeihkaaGreatKPfx
set_option maxRecDepth 20000
namespace Go.Proofs.YtlllmmceoeihkaaGreat.K
open Go.RowKit
set_option maxRecDepth 1000000 in
set_option maxHeartbeats 8000000 in
theorem rencode_p (cp g:Nat) (cs:List Int) (w:World) (hB:Pfx w g cs) (hl:cs.length=32768) (hk:Kinds cs) :
  Calls Tryz.prog 34 #[.slice (some ⟨g,0,none⟩) 32768 cp] w fun e w'=>∃ a c,e = .returned (.slice a (encL cs).length c)∧Own w' w.heap.size a c (encL cs)∧Below w.heap.size w w':=by
 have hp1:1<=(pal cs).length:=pal_pos hk (by omega)
 have hp17:(pal cs).length<=17:=pal_len cs
 have Hfit:Hid (∀ z∈pal cs,0<=z∧z<=255):=palTo_fit cs 17 (Nat.le_refl _)
 have hgw:=hB.lt
 have HB:Hid (Pfx w g cs):=hB
 have HL:Hid (cs.length=32768):=hl
 have HK:Hid (Kinds cs):=hk
 obtain ⟨R,hR⟩:∃ R,R=encL cs:=⟨_,rfl⟩
 rw [<- hR]
 have HR:Hid (R=encL cs):=hR
 have hpal:=rpalette_p cp g cs w hB hl hk
 obtain ⟨n,hn⟩:∃ n,n=(pal cs).length:=⟨_,rfl⟩
 rw [<- hn] at hp1 hp17 hpal
 have HN:Hid ((pal cs).length=n):=hn.symm
 clear hB hl hk hR hn
 go_enter Tryz.func34,Tryz.ntmps34
 go_wp2_with fail
 refine hpal.mono ?_
 clear hpal
 rintro _ w1 ⟨al,cl,rfl,hOl,hb1⟩
 have HOl:Hid (Own w1 w.heap.size al cl (pal cs)):=hOl
 clear hOl
 have hs1:=hb1.size
 have HBl:Hid (Bytes w1 al n (pal cs)):=HOl.out.bytes Hfit.out n HN.out
 have HBl2:Hid (Bytes (w1.alloc (.cells #[.int .u8 1,.int .u8 (n:Int)] 5)) al n (pal cs)):=HBl.out.later ((Below.refl _ _).alloc (Nat.le_refl _) _)
 have HO1:Hid _:=own_two w1 1 (n:Int)
 have HA1:Hid _:=belowAlloc (Below.refl w1.heap.size w1) (Nat.le_refl _) (.cells #[.int .u8 1,.int .u8 (n:Int)] 5)
 have HAH:Hid ([1,(n:Int)]++pal cs=headL 1 (pal cs)):=by show _=_;unfold headL;rw [HN.out];rfl
 have HHl:Hid ((headL 1 (pal cs)).length=2+n):=by show _=_;unfold headL;rw [List.length_cons,List.length_cons,HN.out];omega
 have HHf:Hid (∀ z∈headL 1 (pal cs),0<=z∧z<=255):=fun z hz=>by
  unfold headL at hz
  rcases List.mem_cons.1 hz with rfl | hz
  ·omega
  ·rcases List.mem_cons.1 hz with rfl | hz
   ·rw [HN.out];omega
   ·exact Hfit.out z hz
 go_upto_region 5 with (at_builtin;refine wpList_append_bytes rfl (.tmp 22) (.tmp 23) rfl w1.heap.size (some ⟨w1.heap.size,0,none⟩) 2 2 [1,(n:Int)] rfl rfl HO1.out al n cl (pal cs) rfl HBl2.out HOl.out.capNil (by omega) w1 HA1.out.1 HA1.out.2 ?_;intro a2 c2 w2 HO2 hb2 hB2)
 have HO2':Hid (Own w2 w1.heap.size a2 c2 (headL 1 (pal cs))):=by rw [<- HAH.out];exact HO2.out
 have HBh:Hid (Bytes w2 a2 (2+n) (headL 1 (pal cs))):=HO2'.out.bytes HHf.out (2+n) HHl.out
 have HcapH:Hid (a2=none->c2=0):=HO2'.out.capNil
 clear HO2
 go_upto_region 6 with (at_builtin;refine wpList_append_bytes rfl (.const (.slice none 0 0)) (.tmp 25) rfl w2.heap.size none 0 0 [] rfl rfl (Own.nil _ _) a2 (2+n) c2 (headL 1 (pal cs)) rfl HBh.out HO2'.out.capNil (by omega) w2 (Below.refl _ _) (Nat.le_refl _) ?_;intro a3 c3 w3 HO3 hb3 hB3)
 have HO3':Hid (Own w3 w2.heap.size a3 c3 (headL 1 (pal cs)++[])):=by rw [List.append_nil];exact HO3.out
 have HBl3:Hid (Bytes w2 al n (pal cs)):=HBl.out.later hb2
 have HB2:Hid (Pfx w2 g cs):=(HB.out.below hb1 hgw).below hb2 (by omega)
 have hg2:g<w2.heap.size:=HB2.out.lt
 have hw2:Below w.heap.size w w2:=hb1.trans (hb2.mono hs1)
 clear HO3 HO1 HA1 HBl2 HBl HOl HO2' HB hb1 hb2 hB2 hs1 hgw
 have HRone:Hid (∀ E,E=encR (pal cs) cs->E.length<=4096*wid n->R=headL 1 (pal cs)++E):=by
  intro E hE hle
  rw [HR.out,encL,if_pos,oneL,hE]
  rw [HN.out]
  unfold oneL
  rw [List.length_append,<- hE]
  omega
 have HRtwo:Hid (∀ E r,E++r=encR (pal cs) cs->4096*wid n<E.length->R=twoL cs):=by
  intro E r hE hle
  rw [HR.out,encL,if_neg]
  rw [HN.out]
  unfold oneL
  rw [List.length_append,<- hE,List.length_append]
  omega
 iterate 7 (first | go_values | go_skip | go_guarded | go_step | go_upon)
 go_cut [5] (fun v wc=>∃ (a4:Option Addr) (c4:Nat) (E:List Int),v = .slice a4 (2+n+E.length) c4∧E.length<=40006∧Hid (Own wc w2.heap.size a4 c4 (headL 1 (pal cs)++E))∧Below w2.heap.size w2 wc∧w2.heap.size<=wc.heap.size ∧
   Hid (E.length<=4096*wid n->R=headL 1 (pal cs)++E)∧Hid (4096*wid n<E.length->R=twoL cs))
 case first =>
  go_wp2
  go_loopw [5,6] (fun v i wr=>∃ (I:Nat) (a4:Option Addr) (c4:Nat) (E:List Int),I<=32768∧i = .int .i64 (I:Int)∧v = .slice a4 (2+n+E.length) c4∧E.length<=40000∧Hid (Own wr w2.heap.size a4 c4 (headL 1 (pal cs)++E))∧Below w2.heap.size w2 wr∧w2.heap.size<=wr.heap.size ∧
    Hid (E++encR (pal cs) (cs.drop I)=encR (pal cs) cs)) (fun _ i _=>32768-(intOf i).toNat)
  case atStart=>exact ⟨0,a3,c3,[],Nat.zero_le _,rfl,rfl,by simp,HO3',hb3,hB3,rfl⟩
  case round =>
   obtain ⟨I,a4,c4,E,hI,rfl,rfl,hE,HO4,hb4,hs4,HE⟩:=hrel
   clear HO3' hb3 hB3
   obtain ⟨X,hX⟩:∃ X,X=E.length:=⟨_,rfl⟩
   rw [<- hX] at hE ⊢
   have HX:Hid (E.length=X):=hX.symm
   clear hX
   have HB4:Hid (Pfx wr g cs):=HB2.out.below hb4 hg2
   by_cases hlt:I<32768
   ·have hlt':(I:Int)<32768:=by omega
    have hc0:=HB4.out.cell (k:=I) (by rw [HL.out];exact hlt)
    have Hc:Hid (cs.getD I 0=cs[I]'(by rw [HL.out];exact hlt)):=by show _=_;rw [List.getD_eq_getElem?_getD,List.getElem?_eq_getElem (by rw [HL.out];exact hlt)];rfl
    obtain ⟨c,hce⟩:∃ c,c=cs.getD I 0:=⟨_,rfl⟩
    rw [<- hce] at hc0
    have Hce:Hid (cs.getD I 0=c):=hce.symm
    have hcb:0<=c∧c<=16:=by rw [hce];exact HK.out.at I
    clear hce
    go_wp2
    go_loopw [7] (fun v wq=>∃ j:Nat,I+j<=32768∧v = .int .i64 ((I+j:Nat):Int)∧Hid (∀ t,t<j->(cs.drop I)[t]?=some c)∧Hid (Own wq w2.heap.size a4 c4 (headL 1 (pal cs)++E))∧Below w2.heap.size w2 wq∧w2.heap.size<=wq.heap.size) (fun v _=>32768-(intOf v).toNat)
    case atStart=>exact ⟨0,by omega,rfl,fun t ht=>absurd ht (Nat.not_lt_zero _),HO4,hb4,hs4⟩
    case round =>
     obtain ⟨j,hj,rfl,HT,HO5,hb5,hs5⟩:=hrel
     clear HO4 hb4 hs4 HB4 hc0
     obtain ⟨D,hD⟩:∃ D,D=I+j:=⟨_,rfl⟩
     rw [<- hD] at hj ⊢
     have HD:Hid (D=I+j):=hD
     clear hD
     have HB5:Hid (Pfx wr g cs):=HB2.out.below hb5 hg2
     have hc0:wr.cell? ⟨g,I,none⟩=some (.int .u8 c):=by rw [<- Hce.out];exact HB5.out.cell (by rw [HL.out];exact hlt)
     have Hat:Hid (∀ x,D<32768->cs.getD D 0=x->(cs.drop I)[j]?=some x):=fun x hDx hx=>by
      have h1:D<cs.length:=by rw [HL.out];exact hDx
      rw [List.getElem?_drop,<- HD.out,List.getElem?_eq_getElem h1,<- hx,List.getD_eq_getElem?_getD,List.getElem?_eq_getElem h1]
      rfl
     by_cases hgo:D<32768∧cs.getD D 0=c
     ·obtain ⟨hD1,hDc⟩:=hgo
      have hD1':(D:Int)<32768:=by omega
      have hcD:wr.cell? ⟨g,D,none⟩=some (.int .u8 c):=by rw [<- hDc];exact HB5.out.cell (by rw [HL.out];exact hD1)
      have HT':Hid (∀ t,t<j+1->(cs.drop I)[t]?=some c):=fun t ht=>by
       by_cases e:t=j
       ·subst e;exact Hat.out c hD1 hDc
       ·exact HT.out t (by omega)
      clear HT Hat hDc HB5
      go_wp2_with fail
      have q1:decide ((D:Int)<32768)=true:=decide_eq_true hD1'
      go_big_quiet (fail)
      go_wp2
      go_roundw
      case rel=>exact ⟨j+1,by have:=HD.out;omega,by have e:D=I+j:=HD.out;rw [e];go_num,HT',HO5,⟨hb5.os,hb5.tape,hb5.output,hb5.size,hb5.block⟩,hs5⟩
      case measure=>simp [intOf];omega
     ·have HJ:Hid (runN c (cs.drop I)=j):=runN_is c _ j HT.out (by
       intro h
       by_cases hD1:D<32768
       ·have:=Hat.out _ hD1 rfl
        rw [h] at this
        exact hgo ⟨hD1,(Option.some.inj this).symm⟩
       ·rw [List.getElem?_eq_none (by rw [List.length_drop,HL.out];have:=HD.out;omega)] at h
        cases h)
      go_upto_region 9 with fail
      go_cut [46] (fun v wc=>v = .bool false∧Hid (Own wc w2.heap.size a4 c4 (headL 1 (pal cs)++E))∧Below w2.heap.size w2 wc∧w2.heap.size<=wc.heap.size)
      case first =>
       by_cases hD1:D<32768
       ·have hD1':(D:Int)<32768:=by omega
        have hcD:=HB5.out.cell (k:=D) (by rw [HL.out];exact hD1)
        have hne:¬ cs.getD D 0=c:=fun h=>hgo ⟨hD1,h⟩
        generalize cs.getD D 0=x at hcD hne
        have hbe:(x == c)=false:=by simp [hne]
        clear hgo HT Hat HJ HB5 hne
        have q1:decide ((D:Int)<32768)=true:=decide_eq_true hD1'
        go_big_quiet (fail)
        go_wp2
        go_meet
        case rel=>exact ⟨rfl,HO5,⟨hb5.os,hb5.tape,hb5.output,hb5.size,hb5.block⟩,hs5⟩
       ·have hD1':¬ (D:Int)<32768:=by omega
        clear hgo HT Hat HJ HB5
        have q1:decide ((D:Int)<32768)=false:=decide_eq_false hD1'
        go_big_quiet (fail)
        go_wp2
        go_meet
        case rel=>exact ⟨rfl,HO5,⟨hb5.os,hb5.tape,hb5.output,hb5.size,hb5.block⟩,hs5⟩
      case rest =>
      obtain ⟨rfl,HO6,hb6,hs6⟩:=hcut
      clear HO5 hb5 hs5 HB5 hc0 HT Hat hgo
      have hstep:=encR_step (pal cs) cs I j (by rw [HL.out];exact hlt) (by rw [<- Hc.out,Hce.out];exact HJ.out)
      rw [<- Hc.out,Hce.out] at hstep
      obtain ⟨hj1,hst⟩:=hstep
      have Hst:Hid (encR (pal cs) (cs.drop I)=putL (j:Int)++(plc (pal cs) c:Int)::encR (pal cs) (cs.drop D)):=by show _=_;rw [HD.out];exact hst
      have hjle:j<=32768:=by have:=HD.out;omega
      have hP5:=putL_short j hjle
      have HPf:Hid (∀ z∈putL (j:Int),0<=z∧z<=255):=putL_fit (j:Int) (by omega)
      have Hmem:Hid (c∈pal cs):=by
       refine mem_pal HK.out ?_
       rw [<- Hce.out,Hc.out]
       exact List.getElem_mem _
      have hplc:plc (pal cs) c<n:=by rw [<- HN.out];exact plc_lt Hmem.out
      have hsub:(D:Int)-(I:Int)=(j:Int):=by have e:D=I+j:=HD.out;omega
      have hput:=rput_any none 0 0 [] (j:Int) wc (by omega) (by omega) (by omega) ⟨rfl,.inl rfl,by simp⟩ (fun _=>rfl)
      rw [Nat.zero_add,List.nil_append] at hput
      obtain ⟨P,hPe⟩:∃ P,P=(putL (j:Int)).length:=⟨_,rfl⟩
      rw [<- hPe] at hput hP5
      have HPl:Hid ((putL (j:Int)).length=P):=hPe.symm
      have Hput:Hid (Calls Tryz.prog 63 #[.slice none 0 0,.int .i64 (j:Int)] wc fun e w'=>∃ a' c',e = .returned (.slice a' P c')∧Own w' wc.heap.size a' c' (putL (j:Int))∧Below wc.heap.size wc w'):=hput
      clear hput hPe hst HJ Hmem
      go_upto_region 11 with fail
      go_wp2_with fail
      refine Hput.out.mono ?_
      clear Hput
      rintro _ w6 ⟨a6,c6,rfl,hO6,hbw6⟩
      have HR6:Hid (Own w6 wc.heap.size a6 c6 (putL (j:Int))):=hO6
      have HO7:Hid (Own w6 w2.heap.size a4 c4 (headL 1 (pal cs)++E)):=HO6.out.later hbw6
      have hb7:Below w2.heap.size w2 w6:=hb6.trans (hbw6.mono hs6)
      have hs7:w2.heap.size<=w6.heap.size:=hb7.size
      have HR7:Hid (Bytes w6 a6 P (putL (j:Int))):=HR6.out.bytes HPf.out P HPl.out
      have HLE:Hid ((headL 1 (pal cs)++E).length=2+n+X):=by show _=_;rw [List.length_append,HHl.out,HX.out]
      clear hO6 hbw6 HO6 hb6 hs6
      go_upto_region 13 with (at_builtin;refine wpList_append_bytes rfl (.tmp 53) (.tmp 54) rfl w2.heap.size a4 (2+n+X) c4 (headL 1 (pal cs)++E) HLE.out rfl HO7.out a6 P c6 (putL (j:Int)) rfl HR7.out HR6.out.capNil (by omega) w2 hb7 hs7 ?_;intro a8 c8 w8 HO8 hb8 hs8)
      have HB8:Hid (Pfx w8 g cs):=HB2.out.below hb8 hg2
      have hc8:w8.cell? ⟨g,I,none⟩=some (.int .u8 c):=by rw [<- Hce.out];exact HB8.out.cell (by rw [HL.out];exact hlt)
      have hpl:=rplace_c al n cl (pal cs) c w8 (HBl3.out.later hb8) (by omega)
      have HL8:Hid (((headL 1 (pal cs)++E)++putL (j:Int)).length=2+n+X+P):=by show _=_;rw [List.length_append,HLE.out,HPl.out]
      obtain ⟨Q,hQ⟩:∃ Q,Q=plc (pal cs) c:=⟨_,rfl⟩
      rw [<- hQ] at hpl hplc
      have HQ:Hid (plc (pal cs) c=Q):=hQ.symm
      clear hQ HB8 HR6 HR7 HO7 hb7 hs7 HLE
      have HO9:Hid (Own (w8.alloc (.cells #[.int .u8 (Q:Int)] 5)) w2.heap.size a8 c8 ((headL 1 (pal cs)++E)++putL (j:Int))):=HO8.out.later ((Below.refl _ _).alloc (Nat.le_refl _) _)
      have HB9:Hid _:=oneByte w8 (Q:Int) (by omega)
      have HA9:Hid _:=belowAlloc hb8 hs8 (.cells #[.int .u8 (Q:Int)] 5)
      go_wp2_with fail
      refine hpl.mono ?_
      clear hpl
      rintro _ w9 ⟨rfl,hw⟩
      rw [hw]
      clear hw w9
      go_upto_region 15 with (at_builtin;refine wpList_append_bytes rfl (.tmp 56) (.tmp 64) rfl w2.heap.size a8 (2+n+X+P) c8 ((headL 1 (pal cs)++E)++putL (j:Int)) HL8.out rfl HO9.out _ 1 1 [(Q:Int)] rfl HB9.out (fun h=>by cases h) (by omega) w2 HA9.out.1 HA9.out.2 ?_;intro a9 c9 w10 HO10 hb10 hs10)
      obtain ⟨E2,hE2⟩:∃ E2,E2=E++(putL (j:Int)++[(Q:Int)]):=⟨_,rfl⟩
      have HE2l:Hid (E2.length=X+P+1):=by show _=_;rw [hE2,List.length_append,List.length_append,HX.out,HPl.out];rfl
      have HO11:Hid (Own w10 w2.heap.size a9 c9 (headL 1 (pal cs)++E2)):=by rw [hE2,<- List.append_assoc,<- List.append_assoc];exact HO10.out
      have HE2:Hid (E2++encR (pal cs) (cs.drop D)=encR (pal cs) cs):=by
       show _=_
       rw [<- HE.out,Hst.out,hE2,HQ.out,List.append_assoc,List.append_assoc]
       rfl
      have hlen2:2+n+X+P+1=2+n+(X+P+1):=by omega
      rw [hlen2]
      clear HO10 HO9 HB9 HA9 HO8 hb8 hs8 hc8 HL8 HPf HPl Hst HE hE2 hlen2 HQ hsub
      obtain ⟨Y,hY⟩:∃ Y,Y=X+P+1:=⟨_,rfl⟩
      rw [<- hY]
      have HYl:Hid (E2.length=Y):=by rw [hY];exact HE2l.out
      have hYb:Y<=40006:=by omega
      clear HE2l hY
      by_cases hbr:40000<2+n+Y
      ·have hbr':(40000:Int)<((2+n+Y:Nat):Int):=by omega
       have hw8:wid n<=8:=by rcases wid_is n with h | h | h | h <;> omega
       have Hs2:Hid (E2.length<=4096*wid n->R=headL 1 (pal cs)++E2):=fun h=>by rw [HYl.out] at h;omega
       have Hl2:Hid (4096*wid n<E2.length->R=twoL cs):=HRtwo.out E2 _ HE2.out
       clear hw8
       go_wp2
       go_meet
       case rel=>exact ⟨a9,c9,E2,by rw [HYl.out],by rw [HYl.out];omega,HO11,hb10,hs10,Hs2,Hl2⟩
      ·have hbr':¬ (40000:Int)<((2+n+Y:Nat):Int):=by omega
       go_wp2
       go_roundw
       case rel=>exact ⟨D,a9,c9,E2,hj,by first | rfl | go_num,by rw [HYl.out],by rw [HYl.out];omega,HO11,hb10,hs10,HE2⟩
       case measure=>have e:D=I+j:=HD.out;simp [intOf];omega
   ·obtain rfl:I=32768:=by omega
    have Hs2:Hid (E.length<=4096*wid n->R=headL 1 (pal cs)++E):=HRone.out E (by
     have h:=HE.out
     rw [List.drop_eq_nil_of_le (by rw [HL.out];exact Nat.le_refl _)] at h
     rw [<- h]
     rw [encR_nil,List.append_nil])
    have Hl2:Hid (4096*wid n<E.length->R=twoL cs):=HRtwo.out E _ HE.out
    clear HB4 HE
    go_wp2
    go_meet
    case rel=>exact ⟨a4,c4,E,by rw [HX.out],by rw [HX.out];omega,HO4,hb4,hs4,Hs2,Hl2⟩
 case rest =>
 obtain ⟨a4,c4,E,rfl,hE,HO4,hb4,hs4,Hsh,Hlo⟩:=hcut
 clear HO3' hb3 hB3
 obtain ⟨X,hX⟩:∃ X,X=E.length:=⟨_,rfl⟩
 rw [<- hX] at hE Hsh Hlo ⊢
 have HX:Hid (E.length=X):=hX.symm
 clear hX
 have hwid:=rwidth_c n hp17 wc
 rcases wid_is n with hw | hw | hw | hw
 ·rw [hw] at hwid Hsh Hlo
  have HW:Hid (wid n=1):=hw
  have Hw17:Hid (n<=2 ^ wid n):=wid_fit hp17
  clear hw
  go_wp2_with fail
  refine hwid.mono ?_
  clear hwid
  rintro _ w5 ⟨rfl,hw5⟩
  rw [hw5]
  clear hw5 w5
  by_cases hle:X<=4096
  ·have e:=Hsh.out hle
   subst e
   clear Hsh Hlo HR HRone HRtwo
   have HL5:Hid ((headL 1 (pal cs)++E).length=2+n+X):=by show _=_;rw [List.length_append,HHl.out,HX.out]
   have hle':((2+n+X:Nat):Int)<=((2+n:Nat):Int)+4096:=by omega
   have hbw:Below w.heap.size w wc:=hw2.trans (hb4.mono hw2.size)
   have Hret:Hid (Own wc w.heap.size a4 c4 (headL 1 (pal cs)++E)):=HO4.out.base hw2.size
   go_wp2
   go_ret
   exact ⟨a4,c4,by rw [HL5.out];rfl,Hret.out,hbw⟩
  ·have e:=Hlo.out (by omega)
   subst e
   clear Hsh Hlo HRone HRtwo HR HO4 HX
   have hbw:Below w.heap.size w wc:=hw2.trans (hb4.mono hw2.size)
   have hle':¬ ((2+n+X:Nat):Int)<=((2+n:Nat):Int)+4096:=by omega
   have HBh5:Hid (Bytes wc a2 (2+n) (headL 1 (pal cs))):=HBh.out.later hb4
   have HBl5:Hid (Bytes wc al n (pal cs)):=HBl3.out.later hb4
   have HB5:Hid (Pfx wc g cs):=HB2.out.below hb4 hg2
   have hg5:g<wc.heap.size:=HB5.out.lt
   have Hcap:Hid (a2=none->c2=0):=HcapH
   clear HBh HBl3 HB2 hb4 hs4
   have Htw:Hid (twoL cs=headL 2 (pal cs)++packTo (pal cs) cs 1 8 4096):=by
    show _=_
    unfold twoL
    rw [HN.out,HW.out]
   have Hsub:Hid (∀ x∈cs,x∈pal cs):=fun x hx=>mem_pal HK.out hx
   have Hln:Hid ((pal cs).length<=2 ^ 1):=by show _<=_;have h:=Hw17.out;rw [HW.out] at h;rw [HN.out];exact h
   go_upto_region 21 with (at_builtin;refine wpList_append_bytes rfl (.const (.slice none 0 0)) (.tmp 82) rfl wc.heap.size none 0 0 [] rfl rfl (Own.nil _ _) a2 (2+n) c2 (headL 1 (pal cs)) rfl HBh5.out Hcap.out (by omega) wc (Below.refl _ _) (Nat.le_refl _) ?_;intro a6 c6 w6 HO6 hb6 hs6)
   have HO6':Hid (Own w6 wc.heap.size a6 c6 (headL 1 (pal cs))):=HO6.out
   clear HO6
   obtain ⟨g6,rfl,hg6,hc6,hf6⟩:=HO6'.out.some (by rw [HHl.out];omega)
   have hc60:w6.cell? ⟨g6,0,none⟩=some (.int .u8 1):=hc6 0 (by rw [HHl.out];omega)
   have hf60:w6.frozen? ⟨g6,0,none⟩=false:=hf6 0
   have HO7:Hid (Own (w6.setCell ⟨g6,0,none⟩ (.int .u8 2)) wc.heap.size (some ⟨g6,0,none⟩) c6 (headL 2 (pal cs))):=HO6'.out.set 0 2
   have hb7:Below wc.heap.size wc (w6.setCell ⟨g6,0,none⟩ (.int .u8 2)):=hb6.setCell hg6 _
   have hs7:wc.heap.size<=(w6.setCell ⟨g6,0,none⟩ (.int .u8 2)).heap.size:=hb7.size
   clear hc6 hf6 HO6'
   have hix:=ix0 g6 n c6 w6
   go_wp2
   rw [hix]
   go_simp
   clear hix
   go_wp2
   go_loopw [10,11] (fun v i wr=>∃ (I:Nat) (a8:Option Addr) (c8:Nat),I<=4096∧i = .int .i64 ((I*8:Nat):Int)∧v = .slice a8 (2+n+I) c8∧Hid (Own wr wc.heap.size a8 c8 (headL 2 (pal cs)++packTo (pal cs) cs 1 8 I))∧Below wc.heap.size wc wr∧wc.heap.size<=wr.heap.size) (fun _ i _=>32768-(intOf i).toNat)
   case atStart=>exact ⟨0,_,c6,Nat.zero_le _,rfl,rfl,(show Own _ _ _ _ _ by simpa [packTo] using HO7.out),hb7,hs7⟩
   case round =>
    obtain ⟨I,a8,c8,hI,rfl,rfl,HO8,hb8,hs8⟩:=hrel
    clear HO7 hb7 hs7 hc60 hf60
    by_cases hlt:I<4096
    ·have hlt':((I*8:Nat):Int)<32768:=by omega
     obtain ⟨T,hT⟩:∃ T,T=I*8:=⟨_,rfl⟩
     rw [<- hT] at hlt' ⊢
     have HT:Hid (T=I*8):=hT
     have hT8:T+8<=32768:=by omega
     have Hgl:Hid ((grpP (pal cs) cs 8 I).length=8):=grp_len _ _ _ _ (by rw [HL.out];omega)
     have Hgf:Hid (∀ p∈grpP (pal cs) cs 8 I,0<=p∧p<2 ^ 1):=grp_fit _ _ _ _ _ Hsub.out Hln.out
     clear hT
     go_wp2
     go_loopw [12,13] (fun v k wr=>∃ (K:Nat) (V:Int),K<=8∧k = .int .i64 ((K:Int)-1)∧v = .int .i64 V∧0<=V∧V<=255∧Hid (V=undig 1 ((grpP (pal cs) cs 8 I).drop K))∧Hid (Own wr wc.heap.size a8 c8 (headL 2 (pal cs)++packTo (pal cs) cs 1 8 I))∧Below wc.heap.size wc wr∧wc.heap.size<=wr.heap.size) (fun _ k _=>(intOf k+1).toNat)
     case atStart=>exact ⟨8,0,Nat.le_refl _,by simp,rfl,by omega,by omega,(show _=_ by rw [List.drop_eq_nil_of_le (by rw [Hgl.out];exact Nat.le_refl _)];rfl),HO8,hb8,hs8⟩
     case round =>
      obtain ⟨K,V,hK,rfl,rfl,v0,v1,HV,HO9,hb9,hs9⟩:=hrel
      clear HO8 hb8 hs8
      by_cases hk:1<=K
      ·obtain ⟨J,rfl⟩:∃ J,K=J+1:=⟨K-1,by omega⟩
       have hkJ:((J+1:Nat):Int)-1=(J:Int):=by omega
       rw [hkJ]
       have hJ0:(0:Int)<=(J:Int):=by omega
       have hTJ:T+J<32768:=by omega
       have hTJ':(T:Int)+(J:Int)<32768:=by omega
       have hTJ0:(0:Int)<=(T:Int)+(J:Int):=by omega
       have HB9:Hid (Pfx wr g cs):=HB5.out.below hb9 hg5
       have hc9:=HB9.out.cell (k:=T+J) (by rw [HL.out];exact hTJ)
       have Hgj:Hid ((plc (pal cs) (cs.getD (T+J) 0):Int)=(grpP (pal cs) cs 8 I)[J]'(by rw [Hgl.out];omega)):=by
        show _=_
        rw [grp_at _ _ _ _ _ (by rw [HL.out];omega) (by omega),<- HT.out]
       have hcb:0<=cs.getD (T+J) 0∧cs.getD (T+J) 0<=16:=HK.out.at (T+J)
       generalize cs.getD (T+J) 0=c at hc9 Hgj hcb
       have hpl:=rplace_c al n cl (pal cs) c wr (HBl5.out.later hb9) (by omega)
       have Hq:Hid ((plc (pal cs) c:Int)<2):=by
        have h:=Hgf.out _ (List.getElem_mem (by rw [Hgl.out];omega:J<_))
        rw [<- Hgj.out] at h
        exact h.2
       have Hu:=undig_drop 1 (grpP (pal cs) cs 8 I) J (by rw [Hgl.out];omega)
       rw [<- HV.out,<- Hgj.out] at Hu
       have Hu2:=undig_byte 1 ((grpP (pal cs) cs 8 I).drop J) (fun p hp=>Hgf.out p (List.mem_of_mem_drop hp)) (by rw [List.length_drop,Hgl.out];omega)
       obtain ⟨P,hP⟩:∃ P,P=plc (pal cs) c:=⟨_,rfl⟩
       rw [<- hP] at hpl Hq Hu
       have hPq:(P:Int)<2:=Hq.out
       have hor:bits .or .i64 (V*2) (P:Int)=V*2+P:=or_back _ _ 1 (by omega) hPq (by omega) (by omega) (by omega)
       obtain ⟨U,hU⟩:∃ U,U=V*2+(P:Int):=⟨_,rfl⟩
       rw [<- hU] at hor
       have HU:Hid (U=undig 1 ((grpP (pal cs) cs 8 I).drop J)):=by
        show _=_
        rw [Hu,hU]
        omega
       have hU2:0<=U∧U<=255:=by rw [HU.out];exact Hu2
       clear Hu Hu2 hP Hgj hU Hq HV HB9
       go_wp2_with fail
       refine hpl.mono ?_
       clear hpl
       rintro _ w9 ⟨rfl,hw⟩
       rw [hw]
       clear hw w9
       go_wp2
       go_roundw
       case rel=>exact ⟨J,U,by omega,by go_num,rfl,hU2.1,hU2.2,HU,HO9,hb9,hs9⟩
       case measure=>first | (simp [intOf];done) | (simp [intOf];omega)
      ·obtain rfl:K=0:=by omega
       have HV0:Hid (V=undig 1 (grpP (pal cs) cs 8 I)):=by have h:=HV.out;rwa [List.drop_zero] at h
       have hlen8:Hid ((headL 2 (pal cs)++packTo (pal cs) cs 1 8 I).length=2+n+I):=by
        show _=_
        rw [List.length_append,packTo_len]
        unfold headL
        rw [List.length_cons,List.length_cons,HN.out]
        omega
       have HO10:Hid (Own (wr.alloc (.cells #[.int .u8 V] 5)) wc.heap.size a8 c8 (headL 2 (pal cs)++packTo (pal cs) cs 1 8 I)):=HO9.out.later ((Below.refl _ _).alloc (Nat.le_refl _) _)
       have HB10:Hid _:=oneByte wr V ⟨v0,v1⟩
       have HA10:Hid _:=belowAlloc hb9 hs9 (.cells #[.int .u8 V] 5)
       have HAN:Hid (2+n+I+1<=140737488355328):=by show _<=_;omega
       clear HV HO9 hb9 hs9
       go_wp2_with (at_builtin;refine wpList_append_bytes rfl (.tmp 114) (.tmp 117) rfl wc.heap.size a8 (2+n+I) c8 (headL 2 (pal cs)++packTo (pal cs) cs 1 8 I) hlen8.out rfl HO10.out _ 1 1 [V] rfl HB10.out (fun h=>by cases h) HAN.out wc HA10.out.1 HA10.out.2 ?_;intro a11 c11 w11 HO11 hb11 hs11)
       have HO12:Hid (Own w11 wc.heap.size a11 c11 (headL 2 (pal cs)++packTo (pal cs) cs 1 8 (I+1))):=by
        rw [packTo,<- HV0.out,<- List.append_assoc]
        exact HO11.out
       clear HO11
       go_roundw
       case rel=>exact ⟨I+1,a11,c11,by omega,by have e:T=I*8:=HT.out;subst e;first | rfl | (simp;omega) | (congr 1;omega),by first | rfl | simp [Nat.add_assoc],HO12,hb11,hs11⟩
       case measure=>simp [intOf];omega
    ·obtain rfl:I=4096:=by omega
     have HT8:Hid (Own wr wc.heap.size a8 c8 (twoL cs)):=by rw [Htw.out];exact HO8.out
     have Htl:Hid ((twoL cs).length=2+n+4096):=by
      show _=_
      rw [Htw.out,List.length_append,packTo_len]
      unfold headL
      rw [List.length_cons,List.length_cons,HN.out]
      omega
     have hbz:Below w.heap.size w wr:=hbw.trans (hb8.mono hbw.size)
     have HTz:Hid (Own wr w.heap.size a8 c8 (twoL cs)):=HT8.out.base hbw.size
     clear HO8 HT8
     go_wp2
     go_ret
     exact ⟨a8,c8,by rw [Htl.out];rfl,HTz.out,hbz⟩
 ·rw [hw] at hwid Hsh Hlo
  have HW:Hid (wid n=2):=hw
  have Hw17:Hid (n<=2 ^ wid n):=wid_fit hp17
  clear hw
  go_wp2_with fail
  refine hwid.mono ?_
  clear hwid
  rintro _ w5 ⟨rfl,hw5⟩
  rw [hw5]
  clear hw5 w5
  by_cases hle:X<=8192
  ·have e:=Hsh.out hle
   subst e
   clear Hsh Hlo HR HRone HRtwo
   have HL5:Hid ((headL 1 (pal cs)++E).length=2+n+X):=by show _=_;rw [List.length_append,HHl.out,HX.out]
   have hle':((2+n+X:Nat):Int)<=((2+n:Nat):Int)+8192:=by omega
   have hbw:Below w.heap.size w wc:=hw2.trans (hb4.mono hw2.size)
   have Hret:Hid (Own wc w.heap.size a4 c4 (headL 1 (pal cs)++E)):=HO4.out.base hw2.size
   go_wp2
   go_ret
   exact ⟨a4,c4,by rw [HL5.out];rfl,Hret.out,hbw⟩
  ·have e:=Hlo.out (by omega)
   subst e
   clear Hsh Hlo HRone HRtwo HR HO4 HX
   have hbw:Below w.heap.size w wc:=hw2.trans (hb4.mono hw2.size)
   have hle':¬ ((2+n+X:Nat):Int)<=((2+n:Nat):Int)+8192:=by omega
   have HBh5:Hid (Bytes wc a2 (2+n) (headL 1 (pal cs))):=HBh.out.later hb4
   have HBl5:Hid (Bytes wc al n (pal cs)):=HBl3.out.later hb4
   have HB5:Hid (Pfx wc g cs):=HB2.out.below hb4 hg2
   have hg5:g<wc.heap.size:=HB5.out.lt
   have Hcap:Hid (a2=none->c2=0):=HcapH
   clear HBh HBl3 HB2 hb4 hs4
   have Htw:Hid (twoL cs=headL 2 (pal cs)++packTo (pal cs) cs 2 4 8192):=by
    show _=_
    unfold twoL
    rw [HN.out,HW.out]
   have Hsub:Hid (∀ x∈cs,x∈pal cs):=fun x hx=>mem_pal HK.out hx
   have Hln:Hid ((pal cs).length<=2 ^ 2):=by show _<=_;have h:=Hw17.out;rw [HW.out] at h;rw [HN.out];exact h
   go_upto_region 21 with (at_builtin;refine wpList_append_bytes rfl (.const (.slice none 0 0)) (.tmp 82) rfl wc.heap.size none 0 0 [] rfl rfl (Own.nil _ _) a2 (2+n) c2 (headL 1 (pal cs)) rfl HBh5.out Hcap.out (by omega) wc (Below.refl _ _) (Nat.le_refl _) ?_;intro a6 c6 w6 HO6 hb6 hs6)
   have HO6':Hid (Own w6 wc.heap.size a6 c6 (headL 1 (pal cs))):=HO6.out
   clear HO6
   obtain ⟨g6,rfl,hg6,hc6,hf6⟩:=HO6'.out.some (by rw [HHl.out];omega)
   have hc60:w6.cell? ⟨g6,0,none⟩=some (.int .u8 1):=hc6 0 (by rw [HHl.out];omega)
   have hf60:w6.frozen? ⟨g6,0,none⟩=false:=hf6 0
   have HO7:Hid (Own (w6.setCell ⟨g6,0,none⟩ (.int .u8 2)) wc.heap.size (some ⟨g6,0,none⟩) c6 (headL 2 (pal cs))):=HO6'.out.set 0 2
   have hb7:Below wc.heap.size wc (w6.setCell ⟨g6,0,none⟩ (.int .u8 2)):=hb6.setCell hg6 _
   have hs7:wc.heap.size<=(w6.setCell ⟨g6,0,none⟩ (.int .u8 2)).heap.size:=hb7.size
   clear hc6 hf6 HO6'
   have hix:=ix0 g6 n c6 w6
   go_wp2
   rw [hix]
   go_simp
   clear hix
   go_wp2
   go_loopw [10,11] (fun v i wr=>∃ (I:Nat) (a8:Option Addr) (c8:Nat),I<=8192∧i = .int .i64 ((I*4:Nat):Int)∧v = .slice a8 (2+n+I) c8∧Hid (Own wr wc.heap.size a8 c8 (headL 2 (pal cs)++packTo (pal cs) cs 2 4 I))∧Below wc.heap.size wc wr∧wc.heap.size<=wr.heap.size) (fun _ i _=>32768-(intOf i).toNat)
   case atStart=>exact ⟨0,_,c6,Nat.zero_le _,rfl,rfl,(show Own _ _ _ _ _ by simpa [packTo] using HO7.out),hb7,hs7⟩
   case round =>
    obtain ⟨I,a8,c8,hI,rfl,rfl,HO8,hb8,hs8⟩:=hrel
    clear HO7 hb7 hs7 hc60 hf60
    by_cases hlt:I<8192
    ·have hlt':((I*4:Nat):Int)<32768:=by omega
     obtain ⟨T,hT⟩:∃ T,T=I*4:=⟨_,rfl⟩
     rw [<- hT] at hlt' ⊢
     have HT:Hid (T=I*4):=hT
     have hT8:T+4<=32768:=by omega
     have Hgl:Hid ((grpP (pal cs) cs 4 I).length=4):=grp_len _ _ _ _ (by rw [HL.out];omega)
     have Hgf:Hid (∀ p∈grpP (pal cs) cs 4 I,0<=p∧p<2 ^ 2):=grp_fit _ _ _ _ _ Hsub.out Hln.out
     clear hT
     go_wp2
     go_loopw [12,13] (fun v k wr=>∃ (K:Nat) (V:Int),K<=4∧k = .int .i64 ((K:Int)-1)∧v = .int .i64 V∧0<=V∧V<=255∧Hid (V=undig 2 ((grpP (pal cs) cs 4 I).drop K))∧Hid (Own wr wc.heap.size a8 c8 (headL 2 (pal cs)++packTo (pal cs) cs 2 4 I))∧Below wc.heap.size wc wr∧wc.heap.size<=wr.heap.size) (fun _ k _=>(intOf k+1).toNat)
     case atStart=>exact ⟨4,0,Nat.le_refl _,by simp,rfl,by omega,by omega,(show _=_ by rw [List.drop_eq_nil_of_le (by rw [Hgl.out];exact Nat.le_refl _)];rfl),HO8,hb8,hs8⟩
     case round =>
      obtain ⟨K,V,hK,rfl,rfl,v0,v1,HV,HO9,hb9,hs9⟩:=hrel
      clear HO8 hb8 hs8
      by_cases hk:1<=K
      ·obtain ⟨J,rfl⟩:∃ J,K=J+1:=⟨K-1,by omega⟩
       have hkJ:((J+1:Nat):Int)-1=(J:Int):=by omega
       rw [hkJ]
       have hJ0:(0:Int)<=(J:Int):=by omega
       have hTJ:T+J<32768:=by omega
       have hTJ':(T:Int)+(J:Int)<32768:=by omega
       have hTJ0:(0:Int)<=(T:Int)+(J:Int):=by omega
       have HB9:Hid (Pfx wr g cs):=HB5.out.below hb9 hg5
       have hc9:=HB9.out.cell (k:=T+J) (by rw [HL.out];exact hTJ)
       have Hgj:Hid ((plc (pal cs) (cs.getD (T+J) 0):Int)=(grpP (pal cs) cs 4 I)[J]'(by rw [Hgl.out];omega)):=by
        show _=_
        rw [grp_at _ _ _ _ _ (by rw [HL.out];omega) (by omega),<- HT.out]
       have hcb:0<=cs.getD (T+J) 0∧cs.getD (T+J) 0<=16:=HK.out.at (T+J)
       generalize cs.getD (T+J) 0=c at hc9 Hgj hcb
       have hpl:=rplace_c al n cl (pal cs) c wr (HBl5.out.later hb9) (by omega)
       have Hq:Hid ((plc (pal cs) c:Int)<4):=by
        have h:=Hgf.out _ (List.getElem_mem (by rw [Hgl.out];omega:J<_))
        rw [<- Hgj.out] at h
        exact h.2
       have Hu:=undig_drop 2 (grpP (pal cs) cs 4 I) J (by rw [Hgl.out];omega)
       rw [<- HV.out,<- Hgj.out] at Hu
       have Hu2:=undig_byte 2 ((grpP (pal cs) cs 4 I).drop J) (fun p hp=>Hgf.out p (List.mem_of_mem_drop hp)) (by rw [List.length_drop,Hgl.out];omega)
       obtain ⟨P,hP⟩:∃ P,P=plc (pal cs) c:=⟨_,rfl⟩
       rw [<- hP] at hpl Hq Hu
       have hPq:(P:Int)<4:=Hq.out
       have hor:bits .or .i64 (V*4) (P:Int)=V*4+P:=or_back _ _ 2 (by omega) hPq (by omega) (by omega) (by omega)
       obtain ⟨U,hU⟩:∃ U,U=V*4+(P:Int):=⟨_,rfl⟩
       rw [<- hU] at hor
       have HU:Hid (U=undig 2 ((grpP (pal cs) cs 4 I).drop J)):=by
        show _=_
        rw [Hu,hU]
        omega
       have hU2:0<=U∧U<=255:=by rw [HU.out];exact Hu2
       clear Hu Hu2 hP Hgj hU Hq HV HB9
       go_wp2_with fail
       refine hpl.mono ?_
       clear hpl
       rintro _ w9 ⟨rfl,hw⟩
       rw [hw]
       clear hw w9
       go_wp2
       go_roundw
       case rel=>exact ⟨J,U,by omega,by go_num,rfl,hU2.1,hU2.2,HU,HO9,hb9,hs9⟩
       case measure=>first | (simp [intOf];done) | (simp [intOf];omega)
      ·obtain rfl:K=0:=by omega
       have HV0:Hid (V=undig 2 (grpP (pal cs) cs 4 I)):=by have h:=HV.out;rwa [List.drop_zero] at h
       have hlen8:Hid ((headL 2 (pal cs)++packTo (pal cs) cs 2 4 I).length=2+n+I):=by
        show _=_
        rw [List.length_append,packTo_len]
        unfold headL
        rw [List.length_cons,List.length_cons,HN.out]
        omega
       have HO10:Hid (Own (wr.alloc (.cells #[.int .u8 V] 5)) wc.heap.size a8 c8 (headL 2 (pal cs)++packTo (pal cs) cs 2 4 I)):=HO9.out.later ((Below.refl _ _).alloc (Nat.le_refl _) _)
       have HB10:Hid _:=oneByte wr V ⟨v0,v1⟩
       have HA10:Hid _:=belowAlloc hb9 hs9 (.cells #[.int .u8 V] 5)
       have HAN:Hid (2+n+I+1<=140737488355328):=by show _<=_;omega
       clear HV HO9 hb9 hs9
       go_wp2_with (at_builtin;refine wpList_append_bytes rfl (.tmp 114) (.tmp 117) rfl wc.heap.size a8 (2+n+I) c8 (headL 2 (pal cs)++packTo (pal cs) cs 2 4 I) hlen8.out rfl HO10.out _ 1 1 [V] rfl HB10.out (fun h=>by cases h) HAN.out wc HA10.out.1 HA10.out.2 ?_;intro a11 c11 w11 HO11 hb11 hs11)
       have HO12:Hid (Own w11 wc.heap.size a11 c11 (headL 2 (pal cs)++packTo (pal cs) cs 2 4 (I+1))):=by
        rw [packTo,<- HV0.out,<- List.append_assoc]
        exact HO11.out
       clear HO11
       go_roundw
       case rel=>exact ⟨I+1,a11,c11,by omega,by have e:T=I*4:=HT.out;subst e;first | rfl | (simp;omega) | (congr 1;omega),by first | rfl | simp [Nat.add_assoc],HO12,hb11,hs11⟩
       case measure=>simp [intOf];omega
    ·obtain rfl:I=8192:=by omega
     have HT8:Hid (Own wr wc.heap.size a8 c8 (twoL cs)):=by rw [Htw.out];exact HO8.out
     have Htl:Hid ((twoL cs).length=2+n+8192):=by
      show _=_
      rw [Htw.out,List.length_append,packTo_len]
      unfold headL
      rw [List.length_cons,List.length_cons,HN.out]
      omega
     have hbz:Below w.heap.size w wr:=hbw.trans (hb8.mono hbw.size)
     have HTz:Hid (Own wr w.heap.size a8 c8 (twoL cs)):=HT8.out.base hbw.size
     clear HO8 HT8
     go_wp2
     go_ret
     exact ⟨a8,c8,by rw [Htl.out];rfl,HTz.out,hbz⟩
 ·rw [hw] at hwid Hsh Hlo
  have HW:Hid (wid n=4):=hw
  have Hw17:Hid (n<=2 ^ wid n):=wid_fit hp17
  clear hw
  go_wp2_with fail
  refine hwid.mono ?_
  clear hwid
  rintro _ w5 ⟨rfl,hw5⟩
  rw [hw5]
  clear hw5 w5
  by_cases hle:X<=16384
  ·have e:=Hsh.out hle
   subst e
   clear Hsh Hlo HR HRone HRtwo
   have HL5:Hid ((headL 1 (pal cs)++E).length=2+n+X):=by show _=_;rw [List.length_append,HHl.out,HX.out]
   have hle':((2+n+X:Nat):Int)<=((2+n:Nat):Int)+16384:=by omega
   have hbw:Below w.heap.size w wc:=hw2.trans (hb4.mono hw2.size)
   have Hret:Hid (Own wc w.heap.size a4 c4 (headL 1 (pal cs)++E)):=HO4.out.base hw2.size
   go_wp2
   go_ret
   exact ⟨a4,c4,by rw [HL5.out];rfl,Hret.out,hbw⟩
  ·have e:=Hlo.out (by omega)
   subst e
   clear Hsh Hlo HRone HRtwo HR HO4 HX
   have hbw:Below w.heap.size w wc:=hw2.trans (hb4.mono hw2.size)
   have hle':¬ ((2+n+X:Nat):Int)<=((2+n:Nat):Int)+16384:=by omega
   have HBh5:Hid (Bytes wc a2 (2+n) (headL 1 (pal cs))):=HBh.out.later hb4
   have HBl5:Hid (Bytes wc al n (pal cs)):=HBl3.out.later hb4
   have HB5:Hid (Pfx wc g cs):=HB2.out.below hb4 hg2
   have hg5:g<wc.heap.size:=HB5.out.lt
   have Hcap:Hid (a2=none->c2=0):=HcapH
   clear HBh HBl3 HB2 hb4 hs4
   have Htw:Hid (twoL cs=headL 2 (pal cs)++packTo (pal cs) cs 4 2 16384):=by
    show _=_
    unfold twoL
    rw [HN.out,HW.out]
   have Hsub:Hid (∀ x∈cs,x∈pal cs):=fun x hx=>mem_pal HK.out hx
   have Hln:Hid ((pal cs).length<=2 ^ 4):=by show _<=_;have h:=Hw17.out;rw [HW.out] at h;rw [HN.out];exact h
   go_upto_region 21 with (at_builtin;refine wpList_append_bytes rfl (.const (.slice none 0 0)) (.tmp 82) rfl wc.heap.size none 0 0 [] rfl rfl (Own.nil _ _) a2 (2+n) c2 (headL 1 (pal cs)) rfl HBh5.out Hcap.out (by omega) wc (Below.refl _ _) (Nat.le_refl _) ?_;intro a6 c6 w6 HO6 hb6 hs6)
   have HO6':Hid (Own w6 wc.heap.size a6 c6 (headL 1 (pal cs))):=HO6.out
   clear HO6
   obtain ⟨g6,rfl,hg6,hc6,hf6⟩:=HO6'.out.some (by rw [HHl.out];omega)
   have hc60:w6.cell? ⟨g6,0,none⟩=some (.int .u8 1):=hc6 0 (by rw [HHl.out];omega)
   have hf60:w6.frozen? ⟨g6,0,none⟩=false:=hf6 0
   have HO7:Hid (Own (w6.setCell ⟨g6,0,none⟩ (.int .u8 2)) wc.heap.size (some ⟨g6,0,none⟩) c6 (headL 2 (pal cs))):=HO6'.out.set 0 2
   have hb7:Below wc.heap.size wc (w6.setCell ⟨g6,0,none⟩ (.int .u8 2)):=hb6.setCell hg6 _
   have hs7:wc.heap.size<=(w6.setCell ⟨g6,0,none⟩ (.int .u8 2)).heap.size:=hb7.size
   clear hc6 hf6 HO6'
   have hix:=ix0 g6 n c6 w6
   go_wp2
   rw [hix]
   go_simp
   clear hix
   go_wp2
   go_loopw [10,11] (fun v i wr=>∃ (I:Nat) (a8:Option Addr) (c8:Nat),I<=16384∧i = .int .i64 ((I*2:Nat):Int)∧v = .slice a8 (2+n+I) c8∧Hid (Own wr wc.heap.size a8 c8 (headL 2 (pal cs)++packTo (pal cs) cs 4 2 I))∧Below wc.heap.size wc wr∧wc.heap.size<=wr.heap.size) (fun _ i _=>32768-(intOf i).toNat)
   case atStart=>exact ⟨0,_,c6,Nat.zero_le _,rfl,rfl,(show Own _ _ _ _ _ by simpa [packTo] using HO7.out),hb7,hs7⟩
   case round =>
    obtain ⟨I,a8,c8,hI,rfl,rfl,HO8,hb8,hs8⟩:=hrel
    clear HO7 hb7 hs7 hc60 hf60
    by_cases hlt:I<16384
    ·have hlt':((I*2:Nat):Int)<32768:=by omega
     obtain ⟨T,hT⟩:∃ T,T=I*2:=⟨_,rfl⟩
     rw [<- hT] at hlt' ⊢
     have HT:Hid (T=I*2):=hT
     have hT8:T+2<=32768:=by omega
     have Hgl:Hid ((grpP (pal cs) cs 2 I).length=2):=grp_len _ _ _ _ (by rw [HL.out];omega)
     have Hgf:Hid (∀ p∈grpP (pal cs) cs 2 I,0<=p∧p<2 ^ 4):=grp_fit _ _ _ _ _ Hsub.out Hln.out
     clear hT
     go_wp2
     go_loopw [12,13] (fun v k wr=>∃ (K:Nat) (V:Int),K<=2∧k = .int .i64 ((K:Int)-1)∧v = .int .i64 V∧0<=V∧V<=255∧Hid (V=undig 4 ((grpP (pal cs) cs 2 I).drop K))∧Hid (Own wr wc.heap.size a8 c8 (headL 2 (pal cs)++packTo (pal cs) cs 4 2 I))∧Below wc.heap.size wc wr∧wc.heap.size<=wr.heap.size) (fun _ k _=>(intOf k+1).toNat)
     case atStart=>exact ⟨2,0,Nat.le_refl _,by simp,rfl,by omega,by omega,(show _=_ by rw [List.drop_eq_nil_of_le (by rw [Hgl.out];exact Nat.le_refl _)];rfl),HO8,hb8,hs8⟩
     case round =>
      obtain ⟨K,V,hK,rfl,rfl,v0,v1,HV,HO9,hb9,hs9⟩:=hrel
      clear HO8 hb8 hs8
      by_cases hk:1<=K
      ·obtain ⟨J,rfl⟩:∃ J,K=J+1:=⟨K-1,by omega⟩
       have hkJ:((J+1:Nat):Int)-1=(J:Int):=by omega
       rw [hkJ]
       have hJ0:(0:Int)<=(J:Int):=by omega
       have hTJ:T+J<32768:=by omega
       have hTJ':(T:Int)+(J:Int)<32768:=by omega
       have hTJ0:(0:Int)<=(T:Int)+(J:Int):=by omega
       have HB9:Hid (Pfx wr g cs):=HB5.out.below hb9 hg5
       have hc9:=HB9.out.cell (k:=T+J) (by rw [HL.out];exact hTJ)
       have Hgj:Hid ((plc (pal cs) (cs.getD (T+J) 0):Int)=(grpP (pal cs) cs 2 I)[J]'(by rw [Hgl.out];omega)):=by
        show _=_
        rw [grp_at _ _ _ _ _ (by rw [HL.out];omega) (by omega),<- HT.out]
       have hcb:0<=cs.getD (T+J) 0∧cs.getD (T+J) 0<=16:=HK.out.at (T+J)
       generalize cs.getD (T+J) 0=c at hc9 Hgj hcb
       have hpl:=rplace_c al n cl (pal cs) c wr (HBl5.out.later hb9) (by omega)
       have Hq:Hid ((plc (pal cs) c:Int)<16):=by
        have h:=Hgf.out _ (List.getElem_mem (by rw [Hgl.out];omega:J<_))
        rw [<- Hgj.out] at h
        exact h.2
       have Hu:=undig_drop 4 (grpP (pal cs) cs 2 I) J (by rw [Hgl.out];omega)
       rw [<- HV.out,<- Hgj.out] at Hu
       have Hu2:=undig_byte 4 ((grpP (pal cs) cs 2 I).drop J) (fun p hp=>Hgf.out p (List.mem_of_mem_drop hp)) (by rw [List.length_drop,Hgl.out];omega)
       obtain ⟨P,hP⟩:∃ P,P=plc (pal cs) c:=⟨_,rfl⟩
       rw [<- hP] at hpl Hq Hu
       have hPq:(P:Int)<16:=Hq.out
       have hor:bits .or .i64 (V*16) (P:Int)=V*16+P:=or_back _ _ 4 (by omega) hPq (by omega) (by omega) (by omega)
       obtain ⟨U,hU⟩:∃ U,U=V*16+(P:Int):=⟨_,rfl⟩
       rw [<- hU] at hor
       have HU:Hid (U=undig 4 ((grpP (pal cs) cs 2 I).drop J)):=by
        show _=_
        rw [Hu,hU]
        omega
       have hU2:0<=U∧U<=255:=by rw [HU.out];exact Hu2
       clear Hu Hu2 hP Hgj hU Hq HV HB9
       go_wp2_with fail
       refine hpl.mono ?_
       clear hpl
       rintro _ w9 ⟨rfl,hw⟩
       rw [hw]
       clear hw w9
       go_wp2
       go_roundw
       case rel=>exact ⟨J,U,by omega,by go_num,rfl,hU2.1,hU2.2,HU,HO9,hb9,hs9⟩
       case measure=>first | (simp [intOf];done) | (simp [intOf];omega)
      ·obtain rfl:K=0:=by omega
       have HV0:Hid (V=undig 4 (grpP (pal cs) cs 2 I)):=by have h:=HV.out;rwa [List.drop_zero] at h
       have hlen8:Hid ((headL 2 (pal cs)++packTo (pal cs) cs 4 2 I).length=2+n+I):=by
        show _=_
        rw [List.length_append,packTo_len]
        unfold headL
        rw [List.length_cons,List.length_cons,HN.out]
        omega
       have HO10:Hid (Own (wr.alloc (.cells #[.int .u8 V] 5)) wc.heap.size a8 c8 (headL 2 (pal cs)++packTo (pal cs) cs 4 2 I)):=HO9.out.later ((Below.refl _ _).alloc (Nat.le_refl _) _)
       have HB10:Hid _:=oneByte wr V ⟨v0,v1⟩
       have HA10:Hid _:=belowAlloc hb9 hs9 (.cells #[.int .u8 V] 5)
       have HAN:Hid (2+n+I+1<=140737488355328):=by show _<=_;omega
       clear HV HO9 hb9 hs9
       go_wp2_with (at_builtin;refine wpList_append_bytes rfl (.tmp 114) (.tmp 117) rfl wc.heap.size a8 (2+n+I) c8 (headL 2 (pal cs)++packTo (pal cs) cs 4 2 I) hlen8.out rfl HO10.out _ 1 1 [V] rfl HB10.out (fun h=>by cases h) HAN.out wc HA10.out.1 HA10.out.2 ?_;intro a11 c11 w11 HO11 hb11 hs11)
       have HO12:Hid (Own w11 wc.heap.size a11 c11 (headL 2 (pal cs)++packTo (pal cs) cs 4 2 (I+1))):=by
        rw [packTo,<- HV0.out,<- List.append_assoc]
        exact HO11.out
       clear HO11
       go_roundw
       case rel=>exact ⟨I+1,a11,c11,by omega,by have e:T=I*2:=HT.out;subst e;first | rfl | (simp;omega) | (congr 1;omega),by first | rfl | simp [Nat.add_assoc],HO12,hb11,hs11⟩
       case measure=>simp [intOf];omega
    ·obtain rfl:I=16384:=by omega
     have HT8:Hid (Own wr wc.heap.size a8 c8 (twoL cs)):=by rw [Htw.out];exact HO8.out
     have Htl:Hid ((twoL cs).length=2+n+16384):=by
      show _=_
      rw [Htw.out,List.length_append,packTo_len]
      unfold headL
      rw [List.length_cons,List.length_cons,HN.out]
      omega
     have hbz:Below w.heap.size w wr:=hbw.trans (hb8.mono hbw.size)
     have HTz:Hid (Own wr w.heap.size a8 c8 (twoL cs)):=HT8.out.base hbw.size
     clear HO8 HT8
     go_wp2
     go_ret
     exact ⟨a8,c8,by rw [Htl.out];rfl,HTz.out,hbz⟩
 ·rw [hw] at hwid Hsh Hlo
  have HW:Hid (wid n=8):=hw
  have Hw17:Hid (n<=2 ^ wid n):=wid_fit hp17
  clear hw
  go_wp2_with fail
  refine hwid.mono ?_
  clear hwid
  rintro _ w5 ⟨rfl,hw5⟩
  rw [hw5]
  clear hw5 w5
  by_cases hle:X<=32768
  ·have e:=Hsh.out hle
   subst e
   clear Hsh Hlo HR HRone HRtwo
   have HL5:Hid ((headL 1 (pal cs)++E).length=2+n+X):=by show _=_;rw [List.length_append,HHl.out,HX.out]
   have hle':((2+n+X:Nat):Int)<=((2+n:Nat):Int)+32768:=by omega
   have hbw:Below w.heap.size w wc:=hw2.trans (hb4.mono hw2.size)
   have Hret:Hid (Own wc w.heap.size a4 c4 (headL 1 (pal cs)++E)):=HO4.out.base hw2.size
   go_wp2
   go_ret
   exact ⟨a4,c4,by rw [HL5.out];rfl,Hret.out,hbw⟩
  ·have e:=Hlo.out (by omega)
   subst e
   clear Hsh Hlo HRone HRtwo HR HO4 HX
   have hbw:Below w.heap.size w wc:=hw2.trans (hb4.mono hw2.size)
   have hle':¬ ((2+n+X:Nat):Int)<=((2+n:Nat):Int)+32768:=by omega
   have HBh5:Hid (Bytes wc a2 (2+n) (headL 1 (pal cs))):=HBh.out.later hb4
   have HBl5:Hid (Bytes wc al n (pal cs)):=HBl3.out.later hb4
   have HB5:Hid (Pfx wc g cs):=HB2.out.below hb4 hg2
   have hg5:g<wc.heap.size:=HB5.out.lt
   have Hcap:Hid (a2=none->c2=0):=HcapH
   clear HBh HBl3 HB2 hb4 hs4
   have Htw:Hid (twoL cs=headL 2 (pal cs)++packTo (pal cs) cs 8 1 32768):=by
    show _=_
    unfold twoL
    rw [HN.out,HW.out]
   have Hsub:Hid (∀ x∈cs,x∈pal cs):=fun x hx=>mem_pal HK.out hx
   have Hln:Hid ((pal cs).length<=2 ^ 8):=by show _<=_;have h:=Hw17.out;rw [HW.out] at h;rw [HN.out];exact h
   go_upto_region 21 with (at_builtin;refine wpList_append_bytes rfl (.const (.slice none 0 0)) (.tmp 82) rfl wc.heap.size none 0 0 [] rfl rfl (Own.nil _ _) a2 (2+n) c2 (headL 1 (pal cs)) rfl HBh5.out Hcap.out (by omega) wc (Below.refl _ _) (Nat.le_refl _) ?_;intro a6 c6 w6 HO6 hb6 hs6)
   have HO6':Hid (Own w6 wc.heap.size a6 c6 (headL 1 (pal cs))):=HO6.out
   clear HO6
   obtain ⟨g6,rfl,hg6,hc6,hf6⟩:=HO6'.out.some (by rw [HHl.out];omega)
   have hc60:w6.cell? ⟨g6,0,none⟩=some (.int .u8 1):=hc6 0 (by rw [HHl.out];omega)
   have hf60:w6.frozen? ⟨g6,0,none⟩=false:=hf6 0
   have HO7:Hid (Own (w6.setCell ⟨g6,0,none⟩ (.int .u8 2)) wc.heap.size (some ⟨g6,0,none⟩) c6 (headL 2 (pal cs))):=HO6'.out.set 0 2
   have hb7:Below wc.heap.size wc (w6.setCell ⟨g6,0,none⟩ (.int .u8 2)):=hb6.setCell hg6 _
   have hs7:wc.heap.size<=(w6.setCell ⟨g6,0,none⟩ (.int .u8 2)).heap.size:=hb7.size
   clear hc6 hf6 HO6'
   have hix:=ix0 g6 n c6 w6
   go_wp2
   rw [hix]
   go_simp
   clear hix
   go_wp2
   go_loopw [10,11] (fun v i wr=>∃ (I:Nat) (a8:Option Addr) (c8:Nat),I<=32768∧i = .int .i64 ((I*1:Nat):Int)∧v = .slice a8 (2+n+I) c8∧Hid (Own wr wc.heap.size a8 c8 (headL 2 (pal cs)++packTo (pal cs) cs 8 1 I))∧Below wc.heap.size wc wr∧wc.heap.size<=wr.heap.size) (fun _ i _=>32768-(intOf i).toNat)
   case atStart=>exact ⟨0,_,c6,Nat.zero_le _,rfl,rfl,(show Own _ _ _ _ _ by simpa [packTo] using HO7.out),hb7,hs7⟩
   case round =>
    obtain ⟨I,a8,c8,hI,rfl,rfl,HO8,hb8,hs8⟩:=hrel
    clear HO7 hb7 hs7 hc60 hf60
    by_cases hlt:I<32768
    ·have hlt':((I*1:Nat):Int)<32768:=by omega
     obtain ⟨T,hT⟩:∃ T,T=I*1:=⟨_,rfl⟩
     rw [<- hT] at hlt' ⊢
     have HT:Hid (T=I*1):=hT
     have hT8:T+1<=32768:=by omega
     have Hgl:Hid ((grpP (pal cs) cs 1 I).length=1):=grp_len _ _ _ _ (by rw [HL.out];omega)
     have Hgf:Hid (∀ p∈grpP (pal cs) cs 1 I,0<=p∧p<2 ^ 8):=grp_fit _ _ _ _ _ Hsub.out Hln.out
     clear hT
     go_wp2
     go_loopw [12,13] (fun v k wr=>∃ (K:Nat) (V:Int),K<=1∧k = .int .i64 ((K:Int)-1)∧v = .int .i64 V∧0<=V∧V<=255∧Hid (V=undig 8 ((grpP (pal cs) cs 1 I).drop K))∧Hid (Own wr wc.heap.size a8 c8 (headL 2 (pal cs)++packTo (pal cs) cs 8 1 I))∧Below wc.heap.size wc wr∧wc.heap.size<=wr.heap.size) (fun _ k _=>(intOf k+1).toNat)
     case atStart=>exact ⟨1,0,Nat.le_refl _,by simp,rfl,by omega,by omega,(show _=_ by rw [List.drop_eq_nil_of_le (by rw [Hgl.out];exact Nat.le_refl _)];rfl),HO8,hb8,hs8⟩
     case round =>
      obtain ⟨K,V,hK,rfl,rfl,v0,v1,HV,HO9,hb9,hs9⟩:=hrel
      clear HO8 hb8 hs8
      by_cases hk:1<=K
      ·obtain ⟨J,rfl⟩:∃ J,K=J+1:=⟨K-1,by omega⟩
       have hkJ:((J+1:Nat):Int)-1=(J:Int):=by omega
       rw [hkJ]
       have hJ0:(0:Int)<=(J:Int):=by omega
       have hTJ:T+J<32768:=by omega
       have hTJ':(T:Int)+(J:Int)<32768:=by omega
       have hTJ0:(0:Int)<=(T:Int)+(J:Int):=by omega
       have HB9:Hid (Pfx wr g cs):=HB5.out.below hb9 hg5
       have hc9:=HB9.out.cell (k:=T+J) (by rw [HL.out];exact hTJ)
       have Hgj:Hid ((plc (pal cs) (cs.getD (T+J) 0):Int)=(grpP (pal cs) cs 1 I)[J]'(by rw [Hgl.out];omega)):=by
        show _=_
        rw [grp_at _ _ _ _ _ (by rw [HL.out];omega) (by omega),<- HT.out]
       have hcb:0<=cs.getD (T+J) 0∧cs.getD (T+J) 0<=16:=HK.out.at (T+J)
       generalize cs.getD (T+J) 0=c at hc9 Hgj hcb
       have hpl:=rplace_c al n cl (pal cs) c wr (HBl5.out.later hb9) (by omega)
       have Hq:Hid ((plc (pal cs) c:Int)<256):=by
        have h:=Hgf.out _ (List.getElem_mem (by rw [Hgl.out];omega:J<_))
        rw [<- Hgj.out] at h
        exact h.2
       have Hu:=undig_drop 8 (grpP (pal cs) cs 1 I) J (by rw [Hgl.out];omega)
       rw [<- HV.out,<- Hgj.out] at Hu
       have Hu2:=undig_byte 8 ((grpP (pal cs) cs 1 I).drop J) (fun p hp=>Hgf.out p (List.mem_of_mem_drop hp)) (by rw [List.length_drop,Hgl.out];omega)
       obtain ⟨P,hP⟩:∃ P,P=plc (pal cs) c:=⟨_,rfl⟩
       rw [<- hP] at hpl Hq Hu
       have hPq:(P:Int)<256:=Hq.out
       have hor:bits .or .i64 (V*256) (P:Int)=V*256+P:=or_back _ _ 8 (by omega) hPq (by omega) (by omega) (by omega)
       obtain ⟨U,hU⟩:∃ U,U=V*256+(P:Int):=⟨_,rfl⟩
       rw [<- hU] at hor
       have HU:Hid (U=undig 8 ((grpP (pal cs) cs 1 I).drop J)):=by
        show _=_
        rw [Hu,hU]
        omega
       have hU2:0<=U∧U<=255:=by rw [HU.out];exact Hu2
       clear Hu Hu2 hP Hgj hU Hq HV HB9
       go_wp2_with fail
       refine hpl.mono ?_
       clear hpl
       rintro _ w9 ⟨rfl,hw⟩
       rw [hw]
       clear hw w9
       go_wp2
       go_roundw
       case rel=>exact ⟨J,U,by omega,by go_num,rfl,hU2.1,hU2.2,HU,HO9,hb9,hs9⟩
       case measure=>first | (simp [intOf];done) | (simp [intOf];omega)
      ·obtain rfl:K=0:=by omega
       have HV0:Hid (V=undig 8 (grpP (pal cs) cs 1 I)):=by have h:=HV.out;rwa [List.drop_zero] at h
       have hlen8:Hid ((headL 2 (pal cs)++packTo (pal cs) cs 8 1 I).length=2+n+I):=by
        show _=_
        rw [List.length_append,packTo_len]
        unfold headL
        rw [List.length_cons,List.length_cons,HN.out]
        omega
       have HO10:Hid (Own (wr.alloc (.cells #[.int .u8 V] 5)) wc.heap.size a8 c8 (headL 2 (pal cs)++packTo (pal cs) cs 8 1 I)):=HO9.out.later ((Below.refl _ _).alloc (Nat.le_refl _) _)
       have HB10:Hid _:=oneByte wr V ⟨v0,v1⟩
       have HA10:Hid _:=belowAlloc hb9 hs9 (.cells #[.int .u8 V] 5)
       have HAN:Hid (2+n+I+1<=140737488355328):=by show _<=_;omega
       clear HV HO9 hb9 hs9
       go_wp2_with (at_builtin;refine wpList_append_bytes rfl (.tmp 114) (.tmp 117) rfl wc.heap.size a8 (2+n+I) c8 (headL 2 (pal cs)++packTo (pal cs) cs 8 1 I) hlen8.out rfl HO10.out _ 1 1 [V] rfl HB10.out (fun h=>by cases h) HAN.out wc HA10.out.1 HA10.out.2 ?_;intro a11 c11 w11 HO11 hb11 hs11)
       have HO12:Hid (Own w11 wc.heap.size a11 c11 (headL 2 (pal cs)++packTo (pal cs) cs 8 1 (I+1))):=by
        rw [packTo,<- HV0.out,<- List.append_assoc]
        exact HO11.out
       clear HO11
       go_roundw
       case rel=>exact ⟨I+1,a11,c11,by omega,by have e:T=I*1:=HT.out;subst e;first | rfl | (simp;omega) | (congr 1;omega),by first | rfl | simp [Nat.add_assoc],HO12,hb11,hs11⟩
       case measure=>simp [intOf];omega
    ·obtain rfl:I=32768:=by omega
     have HT8:Hid (Own wr wc.heap.size a8 c8 (twoL cs)):=by rw [Htw.out];exact HO8.out
     have Htl:Hid ((twoL cs).length=2+n+32768):=by
      show _=_
      rw [Htw.out,List.length_append,packTo_len]
      unfold headL
      rw [List.length_cons,List.length_cons,HN.out]
      omega
     have hbz:Below w.heap.size w wr:=hbw.trans (hb8.mono hbw.size)
     have HTz:Hid (Own wr w.heap.size a8 c8 (twoL cs)):=HT8.out.base hbw.size
     clear HO8 HT8
     go_wp2
     go_ret
     exact ⟨a8,c8,by rw [Htl.out];rfl,HTz.out,hbz⟩
end Go.Proofs.YtlllmmceoeihkaaGreat.K
