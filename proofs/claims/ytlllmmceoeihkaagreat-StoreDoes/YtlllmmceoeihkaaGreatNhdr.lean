/-
  The program's region: room, Free.
  The program's region: give, lay.
  Plain: sectors that are given out lie apart; what fits in number fits.
  The program's region as what is asked; Plan.
  Plain: what a header promises, entry by entry; two bytes as a number; four bytes that are compared with noughts.
-/
import Derived.Test.YtlllmmceoeihkaaGreatNwith
import Derived.Test.YtlllmmceoeihkaaGreatQtake
import Derived.Laws.BitsAllLaws
set_option maxRecDepth 20000
namespace Go.Proofs.YtlllmmceoeihkaaGreat
open Go.RowKit
def marks:List Bool->List Sp->List Bool
 | T,[]=>T
 | T,s::r=>marks (Q.doS 2 T (s.1:Int) (s.2:Int) false true) r
theorem marks_snoc (T:List Bool) (l:List Sp) (s:Sp):marks T (l++[s])=Q.doS 2 (marks T l) (s.1:Int) (s.2:Int) false true:=by
 induction l generalizing T with
 | nil=>rfl
 | cons a r ih=>exact ih _
theorem chgQ_below {F:Nat->Prop} {w w':World} {B:Nat} (h:Q.Chg F w w') (hF:∀ k,F k->B<=k) (hB:B<=w.heap.size):Below B w w' :=
 ⟨h.os,h.tape,h.output,h.size,fun k hk=>h.block k (by omega) (fun hf=>by have:=hF k hf;omega)⟩
set_option maxHeartbeats 1000000 in
theorem room_c (g:Nat) (x z:Int) (l:List Sm) (w:World) (H:RB w g x z l) (hI:∀ s∈l,s.f<1000∧s.m<1000) :
  Calls Tryz.prog 69 #[.pointer (some ⟨g,0,none⟩)] w fun e w'=>Below w.heap.size w w'∧∃ sg tb,e = .returned (.pointer (some ⟨sg,0,none⟩))∧w.heap.size<=sg∧w.heap.size<=tb∧Q.PS w' sg tb 2 (marks (List.replicate 40 false) (l.map Sm.sp)):=by
 obtain ⟨Post,hPost⟩:∃ Post:Ending->World->Prop,Post=fun e w'=>Below w.heap.size w w'∧∃ sg tb,e = .returned (.pointer (some ⟨sg,0,none⟩))∧w.heap.size<=sg∧w.heap.size<=tb∧Q.PS w' sg tb 2 (marks (List.replicate 40 false) (l.map Sm.sp)):=⟨_,rfl⟩
 rw [<- hPost]
 have HP:Hid (∀ w' sg tb,w.heap.size<=sg->w.heap.size<=tb->Q.PS w' sg tb 2 (marks (List.replicate 40 false) (l.map Sm.sp))->Below w.heap.size w w'->Post (.returned (.pointer (some ⟨sg,0,none⟩))) w'):=fun w' sg tb h1 h2 h3 h4=>by rw [hPost];exact ⟨h4,sg,tb,rfl,h1,h2,h3⟩
 clear hPost
 have HB:Hid (RB w g x z l):=H
 have HI:Hid (∀ s∈l,s.f<1000∧s.m<1000):=hI
 have hgl:=H.lt
 obtain ⟨Z,hZ⟩:∃ Z,Z=smvs l:=⟨_,rfl⟩
 have HZ:Hid (Z=smvs l):=hZ
 clear H hZ hI
 go_enter Tryz.func69,Tryz.ntmps69
 go_wp2_with fail
 refine (Q.new_c 40 2 ⟨by decide,by decide⟩ ⟨by decide,by decide⟩ w).mono ?_
 rintro _ w1 ⟨hb1,⟨h1,_⟩|⟨_,sg,tb,hsg,htb,rfl,hS⟩⟩
 ·exact absurd h1 (by unfold Q.badNew;omega)
 have Hb1:Hid (Below w.heap.size w w1):=hb1
 have HS:Hid (Q.PS w1 sg tb 2 (marks (List.replicate 40 false) [])):=hS
 have Hsg:Hid (w.heap.size<=sg∧w.heap.size<=tb):=⟨hsg,htb⟩
 have HB1:Hid (RB w1 g x z l):=HB.out.on hb1
 clear hb1 hS hsg htb HB
 go_wp2_with (refine wpList_load_mid rfl 132 (.tmp 13) rfl g 2 rfl Z _ (by rw [HZ.out];exact HB1.out.range) Tryz.underlying132 rfl (by rw [HZ.out,smvs_len,HB1.out.n];exact size132) ?_)
 go_loopw [15] (fun v wr=>∃ (j:Nat),j<=16∧v = .int .i64 (j:Int)∧Hid (Q.PS wr sg tb 2 (marks (List.replicate 40 false) ((l.map Sm.sp).take j)))∧Hid (Below w.heap.size w wr)) (fun v _=>16-(intOf v).toNat)
 case atStart=>exact ⟨0,Nat.zero_le _,by go_num,HS.out,Hb1.out⟩
 case round =>
  clear HS Hb1
  obtain ⟨j,hj,rfl,HS,HBe⟩:=hrel
  have hn:=HB1.out.n
  by_cases hlt:j<16
  ·have hlt':(j:Int)<16:=by omega
   have hjl:j<l.length:=by omega
   have hix:=ix132 j hjl hn
   rw [<- HZ.out] at hix
   have HN:Hid (marks (List.replicate 40 false) ((l.map Sm.sp).take (j+1))=Q.doS 2 (marks (List.replicate 40 false) ((l.map Sm.sp).take j)) (l[j].f:Int) (l[j].m:Int) false true):=by
    show _=_
    rw [List.take_add_one,List.getElem?_map,List.getElem?_eq_getElem hjl]
    exact marks_snoc _ _ _
   obtain ⟨hF,hM⟩:=HI.out l[j] (List.getElem_mem _)
   generalize l[j].f=F at *
   generalize l[j].m=M at *
   generalize l[j].a=A at *
   generalize l[j].b.length=N at *
   generalize l[j].c=C at *
   have hb2:Below wr.heap.size wr (wr.alloc (.cells #[.int .i64 (F:Int),.int .i64 (M:Int),.slice A N C] 131)):=(Below.refl _ _).alloc (Nat.le_refl _) _
   have HS2:Hid (Q.PS (wr.alloc (.cells #[.int .i64 (F:Int),.int .i64 (M:Int),.slice A N C] 131)) sg tb 2 (marks (List.replicate 40 false) ((l.map Sm.sp).take j))):=HS.out.on hb2
   have Hb2:Hid (Below w.heap.size w (wr.alloc (.cells #[.int .i64 (F:Int),.int .i64 (M:Int),.slice A N C] 131))):=HBe.out.alloc HBe.out.size _
   clear hb2 HS HBe
   generalize marks (List.replicate 40 false) ((l.map Sm.sp).take j)=T at *
   go_wp2_with fail
   generalize wr.alloc (.cells #[.int .i64 (F:Int),.int .i64 (M:Int),.slice A N C] 131)=w2 at *
   refine (Q.mark_c sg tb 2 T (F:Int) (M:Int) ⟨by omega,by omega⟩ ⟨by omega,by omega⟩ w2 HS2.out).mono ?_
   rintro _ w3 ⟨rfl,hS3,hC3⟩
   have HS3:Hid (Q.PS w3 sg tb 2 (marks (List.replicate 40 false) ((l.map Sm.sp).take (j+1)))):=by show Q.PS _ _ _ _ _;rw [HN.out];exact hS3
   have Hb3:Hid (Below w.heap.size w w3):=Hb2.out.trans (chgQ_below hC3 (fun k hk=>by rw [hk];exact Hsg.out.2) Hb2.out.size)
   clear hS3 hC3 HS2 Hb2 HN HP
   generalize Q.erS 2 T (F:Int) (M:Int) false=ee at *
   go_wp2
   go_roundw
   case rel=>exact ⟨j+1,by omega,by go_num,HS3,Hb3⟩
   case measure=>simp [intOf];omega
  ·obtain rfl:j=16:=by omega
   have hge:¬ ((16:Nat):Int)<16:=by omega
   have R:=HP.out wr sg tb Hsg.out.1 Hsg.out.2 (by have:=HS.out;rwa [List.take_of_length_le (by rw [List.length_map];omega)] at this) HBe.out
   clear HP HS HBe
   go_wp2
   exact R
set_option maxHeartbeats 1000000 in
theorem free_c (g:Nat) (x z:Int) (l:List Sm) (w:World) (H:RB w g x z l) (hI:∀ s∈l,s.f<1000∧s.m<1000) :
  Calls Tryz.prog 41 #[.pointer (some ⟨g,0,none⟩)] w fun e w'=>Below w.heap.size w w'∧∃ a c,e = .returned (.slice a (spansS 2 (marks (List.replicate 40 false) (l.map Sm.sp))).length c)∧Q.OwnSp w' w.heap.size a c (spansS 2 (marks (List.replicate 40 false) (l.map Sm.sp))):=by
 obtain ⟨L,hL⟩:∃ L,L=spansS 2 (marks (List.replicate 40 false) (l.map Sm.sp)):=⟨_,rfl⟩
 rw [<- hL]
 obtain ⟨Post,hPost⟩:∃ Post:Ending->World->Prop,Post=fun e w'=>Below w.heap.size w w'∧∃ a c,e = .returned (.slice a L.length c)∧Q.OwnSp w' w.heap.size a c L:=⟨_,rfl⟩
 rw [<- hPost]
 have HP:Hid (∀ w' a c,Q.OwnSp w' w.heap.size a c L->Below w.heap.size w w'->Post (.returned (.slice a L.length c)) w'):=fun w' a c h1 h2=>by rw [hPost];exact ⟨h2,a,c,rfl,h1⟩
 clear hPost
 have HB:Hid (RB w g x z l):=H
 have HI:Hid (∀ s∈l,s.f<1000∧s.m<1000):=hI
 have HL:Hid (L=spansS 2 (marks (List.replicate 40 false) (l.map Sm.sp))):=hL
 clear H hI hL
 go_enter Tryz.func41,Tryz.ntmps41
 go_wp2_with fail
 refine (room_c g x z l w HB.out HI.out).mono ?_
 rintro _ w1 ⟨hb1,sg,tb,rfl,hsg,htb,hS⟩
 have HS:Hid (Q.PS w1 sg tb 2 (marks (List.replicate 40 false) (l.map Sm.sp))):=hS
 have Hb1:Hid (Below w.heap.size w w1):=hb1
 clear hS hb1
 go_wp2_with fail
 refine (Q.spans_c sg tb 2 _ w1 HS.out).mono ?_
 rintro _ w2 ⟨a,c,rfl,hb2,hO⟩
 rw [<- HL.out] at hO ⊢
 have hb3:=Hb1.out.trans (hb2.mono Hb1.out.size)
 have R:=HP.out w2 a c (by
  refine ⟨hO.1,?_⟩
  rcases hO.2 with h | ⟨b,cap,cur,hv,hb,r⟩
  ·exact .inl h
  ·exact .inr ⟨b,cap,cur,hv,Nat.le_trans Hb1.out.size hb,r⟩) hb3
 clear HP hO hb3 hb2 Hb1 HS HL
 generalize L.length=n at *
 go_wp2
 exact R
end Go.Proofs.YtlllmmceoeihkaaGreat
set_option maxRecDepth 20000
namespace Go.Proofs.YtlllmmceoeihkaaGreat
open Go.RowKit
def giveS:List Bool->List Sm->Bool×List Sm
 | _,[]=>(true,[])
 | T,s::r=>if needS s.b.length=s.m then ((giveS T r).1,s::(giveS T r).2)
   else if (Q.tkS 2 T (needS s.b.length:Int)).2.1=0 then ((giveS (Q.tkS 2 T (needS s.b.length:Int)).2.2 r).1,⟨(Q.tkS 2 T (needS s.b.length:Int)).1.toNat,needS s.b.length,s.a,s.c,s.b⟩::(giveS (Q.tkS 2 T (needS s.b.length:Int)).2.2 r).2)
   else (false,s::r)
theorem tkS_nat (T:List Bool) (n:Int) (hT:T.length<=4096):∃ i:Nat,i<=4096∧(Q.tkS 2 T n).1=(i:Int):=by
 unfold Q.tkS
 split
 ·exact ⟨0,by omega,rfl⟩
 ·split
  ·rename_i i hi
   refine ⟨i,?_,rfl⟩
   unfold takeS at hi
   have:=List.mem_of_find?_eq_some hi
   rw [List.mem_range'_1] at this
   omega
  ·exact ⟨0,by omega,rfl⟩
theorem Chg.only {g:Nat} {w w':World} (h:Only g w w'):Chg (fun k=>k=g) w w':=⟨h.os,h.tape,h.output,Nat.le_of_eq h.size.symm,fun k _ hk=>h.block k hk⟩
theorem Chg.ofQ {F:Nat->Prop} {w w':World} (h:Q.Chg F w w'):Chg F w w':=⟨h.os,h.tape,h.output,h.size,h.block⟩
structure Gi (w:World) (g:Nat) (x z:Int) (sl:List Sm) (T0:List Bool) (sg tb j:Nat) (wr:World):Prop where
 it:∃ pre T,pre.length=j∧RB wr g x z (pre++sl.drop j)∧Q.PS wr sg tb 2 T∧giveS T0 sl=((giveS T (sl.drop j)).1,pre++(giveS T (sl.drop j)).2)
 chg:Chg (fun k=>k=g) w wr
set_option maxHeartbeats 1000000 in
theorem give_c (g:Nat) (x z:Int) (sl:List Sm) (w:World) (H:RB w g x z sl) (hI:∀ s∈sl,s.f<1000∧s.m<1000∧s.b.length<=2000) :
  Calls Tryz.prog 129 #[.pointer (some ⟨g,0,none⟩)] w fun e w'=>e = .returned (.bool (giveS (marks (List.replicate 40 false) (sl.map Sm.sp)) sl).1)∧RB w' g x z (giveS (marks (List.replicate 40 false) (sl.map Sm.sp)) sl).2∧Chg (fun k=>k=g) w w':=by
 obtain ⟨T0,hT0⟩:∃ T0,T0=marks (List.replicate 40 false) (sl.map Sm.sp):=⟨_,rfl⟩
 rw [<- hT0]
 obtain ⟨Post,hPost⟩:∃ Post:Ending->World->Prop,Post=fun e w'=>e = .returned (.bool (giveS T0 sl).1)∧RB w' g x z (giveS T0 sl).2∧Chg (fun k=>k=g) w w':=⟨_,rfl⟩
 rw [<- hPost]
 have HP:Hid (∀ b w',(giveS T0 sl).1=b->RB w' g x z (giveS T0 sl).2->Chg (fun k=>k=g) w w'->Post (.returned (.bool b)) w'):=fun b w' h1 h2 h3=>by rw [hPost];exact ⟨by rw [h1],h2,h3⟩
 clear hPost
 have HB:Hid (RB w g x z sl):=H
 have HI:Hid (∀ s∈sl,s.f<1000∧s.m<1000∧s.b.length<=2000):=hI
 have HT0:Hid (T0=marks (List.replicate 40 false) (sl.map Sm.sp)):=hT0
 have hgl:=H.lt
 obtain ⟨Z,hZ⟩:∃ Z,Z=smvs sl:=⟨_,rfl⟩
 have HZ:Hid (Z=smvs sl):=hZ
 have Hn16:Hid (sl.length=16):=H.n
 clear H hI hT0 hZ
 go_enter Tryz.func129,Tryz.ntmps129
 go_wp2_with fail
 refine (room_c g x z sl w HB.out (fun s hs=>⟨(HI.out s hs).1,(HI.out s hs).2.1⟩)).mono ?_
 rintro _ w1 ⟨hb1,sg,tb,rfl,hsg,htb,hS⟩
 rw [<- HT0.out] at hS
 have HB1:Hid (RB w1 g x z sl):=HB.out.on hb1
 have HG0:Hid (Gi w g x z sl T0 sg tb 0 w1):=⟨⟨[],T0,rfl,HB1.out,hS,rfl⟩,Chg.of_below hb1⟩
 have Hsg:Hid (w.heap.size<=sg∧w.heap.size<=tb):=⟨hsg,htb⟩
 clear hb1 hsg htb hS HB HT0
 go_wp2_with (refine wpList_load_mid rfl 132 (.tmp 13) rfl g 2 rfl Z _ (by rw [HZ.out];exact HB1.out.range) Tryz.underlying132 rfl (by rw [HZ.out,smvs_len,Hn16.out];exact size132) ?_)
 clear HB1
 go_loopw [15] (fun v wr=>∃ (j:Nat),j<=16∧v = .int .i64 (j:Int)∧Hid (Gi w g x z sl T0 sg tb j wr)) (fun v _=>16-(intOf v).toNat)
 case atStart=>exact ⟨0,Nat.zero_le _,by go_num,HG0⟩
 case round =>
  clear HG0
  obtain ⟨j,hj,rfl,HG⟩:=hrel
  have hn:=Hn16.out
  obtain ⟨pre,T,hpre,hB,hS,hE⟩:=HG.out.it
  have hC:=HG.out.chg
  by_cases hlt:j<16
  ·have hlt':(j:Int)<16:=by omega
   have hjl:j<sl.length:=by omega
   have hix:=ix132 j hjl hn
   rw [<- HZ.out] at hix
   have hdr:sl.drop j=sl[j]::sl.drop (j+1):=List.drop_eq_getElem_cons hjl
   rw [hdr] at hE hB
   obtain ⟨hF,hM,hL⟩:=HI.out sl[j] (List.getElem_mem _)
   obtain ⟨⟨F,M,A,C,bs⟩,hs⟩:∃ s,sl[j]=s:=⟨_,rfl⟩
   rw [hs] at hE hB hF hM hL hix
   simp only at hF hM hL hix
   obtain ⟨N,hN⟩:∃ N,N=bs.length:=⟨_,rfl⟩
   rw [<- hN] at hL hix
   have Hb2:Hid (Below wr.heap.size wr (wr.alloc (.cells #[.int .i64 (F:Int),.int .i64 (M:Int),.slice A N C] 131))):=(Below.refl _ _).alloc (Nat.le_refl _) _
   have hTl:=hS.few
   have hneed:needS N<100:=by unfold needS;omega
   by_cases hm:needS N=M
   ·have hE2:giveS T0 sl=((giveS T (sl.drop (j+1))).1,(pre++[⟨F,M,A,C,bs⟩])++(giveS T (sl.drop (j+1))).2):=by
     rw [hE,giveS,if_pos (by simp only;rw [<- hN];exact hm)]
     simp
    have HG2:Hid (Gi w g x z sl T0 sg tb (j+1) (wr.alloc (.cells #[.int .i64 (F:Int),.int .i64 (M:Int),.slice A N C] 131))):=⟨⟨pre++[⟨F,M,A,C,bs⟩],T,by rw [List.length_append,hpre];rfl,by rw [List.append_assoc];exact hB.on Hb2.out,hS.on Hb2.out,hE2⟩,hC.trans (Chg.of_below (F:=fun k=>k=g) Hb2.out) (fun j h=>.inl h)⟩
    clear HG hB hS hE hE2 hC HP hN hs hdr
    have x1:(wr.alloc (.cells #[.int .i64 (F:Int),.int .i64 (M:Int),.slice A N C] 131)).cell? ⟨wr.heap.size,1,none⟩=some (.int .i64 (M:Int)):=by rw [cell_of_row _ _ _ _ 131 (0,0) (heap_alloc_new wr _)];rfl
    go_wp2_with fail
    generalize wr.alloc (.cells #[.int .i64 (F:Int),.int .i64 (M:Int),.slice A N C] 131)=w2 at *
    refine (need_n N (by omega) w2).mono ?_
    rintro _ w3 ⟨rfl,hw⟩
    replace hw:=hw.symm
    subst hw
    rw [hm]
    go_wp2
    go_roundw
    case rel=>exact ⟨j+1,by omega,by go_num,HG2⟩
    case measure=>simp [intOf];omega
   ·have hm':¬ (needS N:Int)=(M:Int):=by omega
    obtain ⟨R,hR⟩:∃ R,R=needS N:=⟨_,rfl⟩
    rw [<- hR] at hm' hneed
    have hmb:((R:Int) == (M:Int))=false:=by simpa using hm'
    obtain ⟨I,hI4,hI⟩:=tkS_nat T (R:Int) hTl
    have HS2:Hid (Q.PS (wr.alloc (.cells #[.int .i64 (F:Int),.int .i64 (M:Int),.slice A N C] 131)) sg tb 2 T):=hS.on Hb2.out
    have HB2:Hid (RB (wr.alloc (.cells #[.int .i64 (F:Int),.int .i64 (M:Int),.slice A N C] 131)) g x z (pre++⟨F,M,A,C,bs⟩::sl.drop (j+1))):=hB.on Hb2.out
    have HC2:Hid (Chg (fun k=>k=g) w (wr.alloc (.cells #[.int .i64 (F:Int),.int .i64 (M:Int),.slice A N C] 131))):=hC.trans (Chg.of_below (F:=fun k=>k=g) Hb2.out) (fun j h=>.inl h)
    have HEy:Hid ((Q.tkS 2 T (R:Int)).2.1=0->giveS T0 sl=((giveS (Q.tkS 2 T (R:Int)).2.2 (sl.drop (j+1))).1,(pre++[⟨I,R,A,C,bs⟩])++(giveS (Q.tkS 2 T (R:Int)).2.2 (sl.drop (j+1))).2)):=fun h0=>by
     rw [hE,giveS,if_neg (by simp only;rw [<- hN];exact hm),if_pos (by simp only;rw [<- hN,<- hR];exact h0)]
     simp only [<- hN,<- hR,hI]
     simp
    have HEn:Hid (¬ (Q.tkS 2 T (R:Int)).2.1=0->giveS T0 sl=(false,pre++⟨F,M,A,C,bs⟩::sl.drop (j+1))):=fun h0=>by
     rw [hE,giveS,if_neg (by simp only;rw [<- hN];exact hm),if_neg (by simp only;rw [<- hN,<- hR];exact h0)]
    have HR:Hid (R=needS N):=hR
    clear HG hB hS hE hC hN hs hdr hm hR
    have x1:(wr.alloc (.cells #[.int .i64 (F:Int),.int .i64 (M:Int),.slice A N C] 131)).cell? ⟨wr.heap.size,1,none⟩=some (.int .i64 (M:Int)):=by rw [cell_of_row _ _ _ _ 131 (0,0) (heap_alloc_new wr _)];rfl
    go_wp2_with fail
    generalize wr.alloc (.cells #[.int .i64 (F:Int),.int .i64 (M:Int),.slice A N C] 131)=w2 at *
    refine (need_n N (by omega) w2).mono ?_
    rintro _ w3 ⟨rfl,hw⟩
    replace hw:=hw.symm
    subst hw
    rw [<- HR.out]
    go_wp2_with fail
    refine (Q.take_c sg tb 2 T (R:Int) ⟨by omega,by omega⟩ w2 HS2.out).mono ?_
    rintro _ w4 ⟨rfl,hS4,hC4⟩
    rw [hI]
    have htb:tb≠g:=by have:=Hsg.out.2;omega
    have hsg:sg≠g:=by have:=Hsg.out.1;omega
    have hB4:RB w4 g x z (pre++⟨F,M,A,C,bs⟩::sl.drop (j+1)):=HB2.out.keep (hC4.block g HB2.out.lt (fun e=>htb e.symm))
    have hC5:Chg (fun k=>k=g) w w4:=HC2.out.trans (Chg.ofQ hC4) (fun k hk=>.inr (by rw [hk];exact Hsg.out.2))
    by_cases h0:(Q.tkS 2 T (R:Int)).2.1=0
    ·have hE:=HEy.out h0
     rw [h0]
     have hjp:j<(pre++⟨F,M,A,C,bs⟩::sl.drop (j+1)).length:=by rw [hB4.n];exact hlt
     have hgj:(pre++⟨F,M,A,C,bs⟩::sl.drop (j+1))[j]=⟨F,M,A,C,bs⟩:=by rw [List.getElem_append_right (by omega)];simp [hpre]
     have q0:=(hB4.cells j hjp).1
     have q1:=(hB4.cells j hjp).2.1
     rw [hgj] at q0 q1
     simp only at q0 q1
     have f0:=hB4.free (2+j*3)
     have f1:=hB4.free (2+j*3+1)
     have HG2:Hid (Gi w g x z sl T0 sg tb (j+1) ((w4.setCell ⟨g,2+j*3,none⟩ (.int .i64 (I:Int))).setCell ⟨g,2+j*3+1,none⟩ (.int .i64 (R:Int)))):=by
      have hb:=hB4.setAt j I R hjp
      have hO:Only g w4 ((w4.setCell ⟨g,2+j*3,none⟩ (.int .i64 (I:Int))).setCell ⟨g,2+j*3+1,none⟩ (.int .i64 (R:Int))):=((Only.refl g w4).set _ _).set _ _
      rw [hgj] at hb
      have e:(pre++⟨F,M,A,C,bs⟩::sl.drop (j+1)).set j ⟨I,R,A,C,bs⟩=(pre++[⟨I,R,A,C,bs⟩])++sl.drop (j+1):=by
       rw [List.set_append_right _ _ (by omega),hpre,Nat.sub_self]
       simp
      simp only at hb
      rw [e] at hb
      exact ⟨⟨_,_,by rw [List.length_append,hpre];rfl,hb,hS4.keep (hO.block sg hsg) (hO.block tb htb),hE⟩,hC5.trans (Chg.only hO) (fun k hk=>.inl hk)⟩
     clear HEy HEn HS2 HB2 HC2 hS4 hC4 hB4 hC5 hE hgj hjp HP h0
     go_wp2
     go_roundw
     case rel=>exact ⟨j+1,by omega,by go_num,HG2⟩
     case measure=>simp [intOf];omega
    ·have hE:=HEn.out h0
     have R:=HP.out false w4 (by rw [hE]) (by rw [hE];exact hB4) hC5
     clear HEy HEn HS2 HB2 HC2 hS4 hC4 hB4 hC5 hE HP
     generalize (Q.tkS 2 T _).2.1=ee at *
     go_wp2
     exact R
  ·obtain rfl:j=16:=by omega
   have hge:¬ ((16:Nat):Int)<16:=by omega
   have e0:sl.drop 16=[]:=List.drop_of_length_le (by omega)
   rw [e0] at hE hB
   have R:=HP.out true wr (by rw [hE];rfl) (by rw [hE];exact hB) hC
   clear HP HG hE hB hC hS
   go_wp2
   exact R
def dropAll (sl:List Sm):List Sm:=sl.map fun (s:Sm)=>(⟨0,0,s.a,s.c,s.b⟩:Sm)
def layF (sl:List Sm):List Sm :=
 if (giveS (marks (List.replicate 40 false) (sl.map Sm.sp)) sl).1 then (giveS (marks (List.replicate 40 false) (sl.map Sm.sp)) sl).2
 else (giveS (marks (List.replicate 40 false) ((dropAll (giveS (marks (List.replicate 40 false) (sl.map Sm.sp)) sl).2).map Sm.sp)) (dropAll (giveS (marks (List.replicate 40 false) (sl.map Sm.sp)) sl).2)).2
theorem tkS_le (T:List Bool) (n:Int) (hT:T.length<=40):(Q.tkS 2 T n).1.toNat<1000∧(Q.tkS 2 T n).2.2.length<=40:=by
 unfold Q.tkS
 split
 ·exact ⟨by simp,hT⟩
 ·split
  ·rename_i i hi
   unfold takeS at hi
   have h1:=List.mem_of_find?_eq_some hi
   have h2:=List.find?_some hi
   rw [List.mem_range'_1] at h1
   simp only [Bool.and_eq_true,decide_eq_true_eq] at h2
   refine ⟨by simp only [Int.toNat_natCast];omega,?_⟩
   simp only
   rw [setS_len h2.1]
   exact hT
  ·exact ⟨by simp,hT⟩
theorem giveS_small:∀ (sl:List Sm) (T:List Bool),T.length<=40->(∀ s∈sl,s.f<1000∧s.m<1000∧s.b.length<=2000)->∀ s∈(giveS T sl).2,s.f<1000∧s.m<1000∧s.b.length<=2000
 | [],_,_,_,s,hs=>by simp [giveS] at hs
 | a :: r,T,hT,h,s,hs=>by
   have ha:=h a (by simp)
   have hr:∀ s∈r,s.f<1000∧s.m<1000∧s.b.length<=2000:=fun s hs=>h s (List.mem_cons_of_mem _ hs)
   unfold giveS at hs
   split at hs
   ·rcases List.mem_cons.1 hs with rfl | hs
    ·exact ha
    ·exact giveS_small r T hT hr s hs
   ·split at hs
    ·have hk:=tkS_le T (needS a.b.length:Int) hT
     rcases List.mem_cons.1 hs with rfl | hs
     ·refine ⟨hk.1,?_,ha.2.2⟩
      simp only
      unfold needS
      omega
     ·exact giveS_small r _ hk.2 hr s hs
    ·exact h s hs
theorem marks_len:∀ (l:List Sp) (T:List Bool),(marks T l).length=T.length
 | [],_=>rfl
 | s::r,T=>by rw [marks,marks_len r,Q.doS_len]
set_option maxHeartbeats 1000000 in
theorem lay_c (g:Nat) (x z:Int) (sl:List Sm) (w:World) (H:RB w g x z sl) (hI:∀ s∈sl,s.f<1000∧s.m<1000∧s.b.length<=2000) :
  Calls Tryz.prog 100 #[.pointer (some ⟨g,0,none⟩)] w fun e w'=>e = .returned (.tuple #[])∧RB w' g x z (layF sl)∧Chg (fun k=>k=g) w w':=by
 obtain ⟨Post,hPost⟩:∃ Post:Ending->World->Prop,Post=fun e w'=>e = .returned (.tuple #[])∧RB w' g x z (layF sl)∧Chg (fun k=>k=g) w w':=⟨_,rfl⟩
 rw [<- hPost]
 have HP:Hid (∀ w',RB w' g x z (layF sl)->Chg (fun k=>k=g) w w'->Post (.returned (.tuple #[])) w'):=fun w' h2 h3=>by rw [hPost];exact ⟨rfl,h2,h3⟩
 clear hPost
 have HB:Hid (RB w g x z sl):=H
 have HI:Hid (∀ s∈sl,s.f<1000∧s.m<1000∧s.b.length<=2000):=hI
 have hgl:=H.lt
 clear H hI
 go_enter Tryz.func100,Tryz.ntmps100
 go_wp2_with fail
 refine (give_c g x z sl w HB.out HI.out).mono ?_
 rintro _ w1 ⟨rfl,hB1,hC1⟩
 have Hsm:Hid (∀ s∈(giveS (marks (List.replicate 40 false) (sl.map Sm.sp)) sl).2,s.f<1000∧s.m<1000∧s.b.length<=2000):=giveS_small sl _ (by rw [marks_len];simp) HI.out
 cases hg1:(giveS (marks (List.replicate 40 false) (sl.map Sm.sp)) sl).1 with
 | true =>
   have R:=HP.out w1 (by unfold layF;rw [if_pos hg1];exact hB1) hC1
   clear HP hB1 hC1 Hsm hg1
   go_wp2
   go_end0
   exact R
 | false =>
   have Hlay:Hid (layF sl=(giveS (marks (List.replicate 40 false) ((dropAll (giveS (marks (List.replicate 40 false) (sl.map Sm.sp)) sl).2).map Sm.sp)) (dropAll (giveS (marks (List.replicate 40 false) (sl.map Sm.sp)) sl).2)).2):=by show _=_;unfold layF;rw [hg1];rfl
   generalize (giveS (marks (List.replicate 40 false) (sl.map Sm.sp)) sl).2=sm at *
   have HB1:Hid (RB w1 g x z sm):=hB1
   have HC1:Hid (Chg (fun k=>k=g) w w1):=hC1
   clear hB1 hC1 hg1 HB
   go_wp2_with fail
   go_loopw [5] (fun v wr=>∃ (j:Nat),j<=16∧v = .int .i64 (j:Int)∧Hid (RB wr g x z ((dropAll sm).take j++sm.drop j))∧Hid (Chg (fun k=>k=g) w wr)) (fun v _=>16-(intOf v).toNat)
   case atStart=>exact ⟨0,Nat.zero_le _,by go_num,HB1,HC1⟩
   case round =>
    have hn:=HB1.out.n
    clear HB1 HC1
    obtain ⟨j,hj,rfl,HB,HC⟩:=hrel
    by_cases hlt:j<16
    ·have hlt':(j:Int)<16:=by omega
     have hjl:j<sm.length:=by omega
     have hdl:(dropAll sm).length=16:=by unfold dropAll;rw [List.length_map];exact hn
     have hjp:j<((dropAll sm).take j++sm.drop j).length:=by rw [HB.out.n];exact hlt
     have hgj:((dropAll sm).take j++sm.drop j)[j]=sm[j]:=by rw [List.getElem_append_right (by rw [List.length_take];omega),List.getElem_drop];congr 1;rw [List.length_take];omega
     have q0:=(HB.out.cells j hjp).1
     have q1:=(HB.out.cells j hjp).2.1
     rw [hgj] at q0 q1
     have f0:=HB.out.free (2+j*3)
     have f1:=HB.out.free (2+j*3+1)
     have hb:=HB.out.setAt j 0 0 hjp
     have hO:Only g wr ((wr.setCell ⟨g,2+j*3,none⟩ (.int .i64 ((0:Nat):Int))).setCell ⟨g,2+j*3+1,none⟩ (.int .i64 ((0:Nat):Int))):=((Only.refl g wr).set _ _).set _ _
     rw [hgj] at hb
     have e:((dropAll sm).take j++sm.drop j).set j ⟨0,0,sm[j].a,sm[j].c,sm[j].b⟩=(dropAll sm).take (j+1)++sm.drop (j+1):=by
      have hd:(dropAll sm)[j]'(by omega)=⟨0,0,sm[j].a,sm[j].c,sm[j].b⟩:=by simp [dropAll]
      rw [List.set_append_right _ _ (by rw [List.length_take];omega),List.length_take,Nat.min_eq_left (by omega),Nat.sub_self,List.drop_eq_getElem_cons hjl,List.set_cons_zero,List.take_succ_eq_append_getElem (by omega),hd,List.append_assoc]
      rfl
     rw [e] at hb
     have HB2:Hid (RB ((wr.setCell ⟨g,2+j*3,none⟩ (.int .i64 0)).setCell ⟨g,2+j*3+1,none⟩ (.int .i64 0)) g x z ((dropAll sm).take (j+1)++sm.drop (j+1))):=hb
     have HC2:Hid (Chg (fun k=>k=g) w ((wr.setCell ⟨g,2+j*3,none⟩ (.int .i64 0)).setCell ⟨g,2+j*3+1,none⟩ (.int .i64 0))):=HC.out.trans (Chg.only hO) (fun k hk=>.inl hk)
     generalize sm[j].f=o0 at *
     generalize sm[j].m=o1 at *
     clear HP hb hO e hgj HB HC
     go_wp2
     go_roundw
     case rel=>exact ⟨j+1,by omega,by go_num,HB2,HC2⟩
     case measure=>simp [intOf];omega
    ·obtain rfl:j=16:=by omega
     have hge:¬ ((16:Nat):Int)<16:=by omega
     have HB3:Hid (RB wr g x z (dropAll sm)):=by
      have:=HB.out
      rwa [List.take_of_length_le (by unfold dropAll;rw [List.length_map];omega),List.drop_of_length_le (by omega),List.append_nil] at this
     have Hs3:Hid (∀ s∈dropAll sm,s.f<1000∧s.m<1000∧s.b.length<=2000):=fun s hs=>by
      unfold dropAll at hs
      obtain ⟨s',hs',rfl⟩:=List.mem_map.1 hs
      exact ⟨by simp,by simp,(Hsm.out s' hs').2.2⟩
     clear HB
     go_wp2_with fail
     refine (give_c g x z (dropAll sm) wr HB3.out Hs3.out).mono ?_
     rintro _ w5 ⟨rfl,hB5,hC5⟩
     have R:=HP.out w5 (by rw [Hlay.out];exact hB5) (HC.out.trans hC5 (fun k hk=>.inl hk))
     clear HP hB5 hC5 HC Hlay HB3 Hs3
     generalize (giveS (marks (List.replicate 40 false) ((dropAll sm).map Sm.sp)) (dropAll sm)).1=bb at *
     go_wp2
     go_end0
     exact R
end Go.Proofs.YtlllmmceoeihkaaGreat
set_option maxRecDepth 20000
namespace Go.Proofs.YtlllmmceoeihkaaGreat
section
theorem tkR_get (l:List Sp) (i:Nat):(tkR l)[i]?=if i<40 then some (decide (0<cnt l i)) else none:=by
 unfold tkR
 rw [List.getElem?_map]
 by_cases h:i<40
 ·rw [if_pos h,List.getElem?_range h];rfl
 ·rw [if_neg h,List.getElem?_eq_none (by simpa using h)];rfl
def PartOk (s:Sp):Prop:=s=(0,0)∨(1<=s.2∧2<=s.1∧s.1+s.2<=40)
structure Part (sp:List Sp):Prop where
 ok:∀ s∈sp,PartOk s
 once:∀ i,cnt sp i<=1
theorem cnt_sing (s:Sp) (i:Nat):cnt [s] i=if s.1<=i∧i<s.1+s.2 then 1 else 0:=by
 simp [cnt,covers,List.countP_cons]
theorem cnt_zz (i:Nat):cnt [(0,0)] i=0:=by rw [cnt_sing];exact if_neg (by simp only;omega)
theorem mark_step {p:List Sp} {s:Sp} (hP:Part (p++[s])):Q.doS 2 (tkR p) (s.1:Int) (s.2:Int) false true=tkR (p++[s]):=by
 have hc:∀ i,cnt (p++[s]) i=cnt p i+cnt [s] i:=fun i=>cnt_append p [s] i
 rcases hP.ok s (by simp) with rfl | ⟨h1,h2,h3⟩
 ·have:Q.mayB 2 (tkR p) ((0:Nat):Int) ((0:Nat):Int) false=false:=by unfold Q.mayB;rw [decide_eq_false (by omega)];rfl
  unfold Q.doS
  rw [this]
  apply List.ext_getElem?
  intro i
  rw [tkR_get,hc,cnt_zz,Nat.add_zero]
  exact tkR_get p i
 ·have hfree:∀ i,s.1<=i->i<s.1+s.2->cnt p i=0:=fun i hi1 hi2=>by
   have:=hP.once i
   rw [hc,cnt_sing,if_pos ⟨hi1,hi2⟩] at this
   omega
  have hall:allS (tkR p) s.1 s.2 false=true:=(allS_iff (by rw [tkR_len];exact h3) false).2 (fun i hi1 hi2=>by
   rw [tkR_get,if_pos (by omega),hfree i hi1 hi2];rfl)
  have hmay:Q.mayB 2 (tkR p) (s.1:Int) (s.2:Int) false=true:=by
   unfold Q.mayB
   rw [tkR_len,decide_eq_true (by omega)]
   exact hall
  unfold Q.doS
  rw [hmay,if_pos rfl]
  apply List.ext_getElem?
  intro i
  show (setS (tkR p) s.1 s.2 true)[i]?=_
  rw [setS_at (by rw [tkR_len];exact h3),tkR_get,tkR_get,hc,cnt_sing]
  by_cases hi:s.1<=i∧i<s.1+s.2
  ·rw [if_pos hi,if_pos hi,if_pos (by omega),decide_eq_true (by omega)]
  ·rw [if_neg hi,if_neg hi,Nat.add_zero]
theorem Part.sub {a b:List Sp} (h:Part (a++b)):Part a :=
 ⟨fun s hs=>h.ok s (List.mem_append_left _ hs),fun i=>by have:=h.once i;rw [cnt_append] at this;omega⟩
theorem marks_part:∀ (l p:List Sp),Part (p++l)->marks (tkR p) l=tkR (p++l)
 | [],p,_=>by rw [List.append_nil];rfl
 | s::r,p,h=>by
   have h':Part ((p++[s])++r):=by rw [List.append_assoc];exact h
   rw [marks,mark_step h'.sub,marks_part r (p++[s]) h',List.append_assoc]
   rfl
theorem tkR_none:tkR []=List.replicate 40 false:=by decide
theorem marks_is {l:List Sp} (h:Part l):marks (List.replicate 40 false) l=tkR l:=by
 rw [<- tkR_none,marks_part l [] h]
 rfl
/-! ### give -/
def dOf (s:Sm):Option Addr×Nat×List Int:=(s.a,s.c,s.b)
theorem giveS_dat:∀ (sl:List Sm) (T:List Bool),(giveS T sl).2.map dOf=sl.map dOf
 | [],_=>rfl
 | s::r,T=>by
   unfold giveS
   split
   ·rw [List.map_cons,giveS_dat r T];rfl
   ·split
    ·rw [List.map_cons,giveS_dat r _];rfl
    ·rfl
theorem needS_zero {b:List Int} (h:needS b.length=0):b=[]:=List.eq_nil_of_length_eq_zero (by unfold needS at h;omega)
theorem take_spec {T:List Bool} {n i:Nat} (h:takeS 2 T n=some i):2<=i∧i+n<=T.length∧allS T i n false=true:=by
 unfold takeS at h
 have h1:=List.mem_of_find?_eq_some h
 have h2:=List.find?_some h
 rw [List.mem_range'_1] at h1
 simp only [Bool.and_eq_true,decide_eq_true_eq] at h2
 exact ⟨h1.1,h2.1,h2.2⟩
theorem giveS_good:∀ (sl:List Sm) (pre:List Sp),Part (pre++sl.map Sm.sp)->(∀ s∈sl,slotOk s.sp s.b∨s.sp=(0,0))->(giveS (tkR (pre++sl.map Sm.sp)) sl).1=true ->
  Part (pre++(giveS (tkR (pre++sl.map Sm.sp)) sl).2.map Sm.sp)∧∀ s∈(giveS (tkR (pre++sl.map Sm.sp)) sl).2,slotOk s.sp s.b
 | [],pre,hP,_,_=>⟨hP,fun s hs=>by simp [giveS] at hs⟩
 | s :: r,pre,hP,hS,hT=>by
   have hr:∀ s∈r,slotOk s.sp s.b∨s.sp=(0,0):=fun x hx=>hS x (List.mem_cons_of_mem _ hx)
   have e1:pre++(s::r).map Sm.sp=(pre++[s.sp])++r.map Sm.sp:=by simp
   rw [e1] at hP hT ⊢
   by_cases hm:needS s.b.length=s.m
   ·have hok:slotOk s.sp s.b:=by
     rcases hS s (by simp) with h | h
     ·exact h
     ·have h0:s.m=0:=congrArg Prod.snd h
      exact .inl ⟨needS_zero (by omega),h⟩
    have eg:∀ T,giveS T (s::r)=((giveS T r).1,s::(giveS T r).2):=fun T=>by rw [giveS,if_pos hm]
    rw [eg] at hT ⊢
    obtain ⟨h1,h2⟩:=giveS_good r (pre++[s.sp]) hP hr hT
    refine ⟨by simpa using h1,fun x hx=>?_⟩
    rcases List.mem_cons.1 hx with rfl | hx
    ·exact hok
    ·exact h2 x hx
   ·have hz:s.sp=(0,0):=by
     rcases hS s (by simp) with h | h
     ·rcases h with ⟨hb,h⟩|⟨_,h,_⟩
      ·exact h
      ·exact absurd h.symm hm
     ·exact h
    have h0:s.m=0:=congrArg Prod.snd hz
    have hn:1<=needS s.b.length:=by omega
    obtain ⟨T,hTd⟩:∃ T,T=tkR ((pre++[s.sp])++r.map Sm.sp):=⟨_,rfl⟩
    rw [<- hTd] at hT ⊢
    cases htake:takeS 2 T (needS s.b.length) with
    | none =>
      have htk:Q.tkS 2 T (needS s.b.length:Int)=(0,7,T):=by
       unfold Q.tkS
       rw [if_neg (by omega),Int.toNat_natCast,htake]
      rw [giveS,if_neg hm,htk] at hT
      simp at hT
    | some i =>
      have htk:Q.tkS 2 T (needS s.b.length:Int)=((i:Int),0,setS T i (needS s.b.length) true):=by
       unfold Q.tkS
       rw [if_neg (by omega),Int.toNat_natCast,htake]
      have eg:giveS T (s::r)=((giveS (setS T i (needS s.b.length) true) r).1,⟨i,needS s.b.length,s.a,s.c,s.b⟩::(giveS (setS T i (needS s.b.length) true) r).2):=by
       rw [giveS,if_neg hm,htk]
       simp
      rw [eg] at hT ⊢
      obtain ⟨g1,g2,g3⟩:=take_spec htake
      have hTl:T.length=40:=by rw [hTd,tkR_len]
      have hfree:∀ j,i<=j->j<i+needS s.b.length->cnt ((pre++[s.sp])++r.map Sm.sp) j=0:=fun j hj1 hj2=>by
       have:=(allS_iff g2 false).1 g3 j hj1 hj2
       rw [hTd,tkR_get,if_pos (by omega)] at this
       have:=of_decide_eq_false (Option.some.inj this)
       omega
      have hc:∀ j,cnt ((pre++[(i,needS s.b.length)])++r.map Sm.sp) j=cnt ((pre++[s.sp])++r.map Sm.sp) j+(if i<=j∧j<i+needS s.b.length then 1 else 0):=fun j=>by
       rw [cnt_append,cnt_append,cnt_append,cnt_append,hz,cnt_zz,cnt_sing]
       simp only
       omega
      have hP':Part ((pre++[(i,needS s.b.length)])++r.map Sm.sp):=by
       refine ⟨fun x hx=>?_,fun j=>?_⟩
       ·rcases List.mem_append.1 hx with hx | hx
        ·rcases List.mem_append.1 hx with hx | hx
         ·exact hP.ok x (by simp [hx])
         ·rw [List.mem_singleton.1 hx]
          exact .inr ⟨hn,g1,by simp only;omega⟩
        ·exact hP.ok x (List.mem_append_right _ hx)
       ·rw [hc]
        by_cases hj:i<=j∧j<i+needS s.b.length
        ·rw [if_pos hj,hfree j hj.1 hj.2];omega
        ·rw [if_neg hj];exact hP.once j
      have hT':setS T i (needS s.b.length) true=tkR ((pre++[(i,needS s.b.length)])++r.map Sm.sp):=by
       apply List.ext_getElem?
       intro j
       rw [setS_at g2,tkR_get,hc]
       by_cases hj:i<=j∧j<i+needS s.b.length
       ·rw [if_pos hj,if_pos hj,if_pos (by omega),decide_eq_true (by omega)]
       ·rw [if_neg hj,if_neg hj,Nat.add_zero,hTd,tkR_get]
      rw [hT'] at hT ⊢
      obtain ⟨k1,k2⟩:=giveS_good r (pre++[(i,needS s.b.length)]) hP' hr hT
      refine ⟨by simpa [Sm.sp] using k1,fun x hx=>?_⟩
      rcases List.mem_cons.1 hx with rfl | hx
      ·refine .inr ⟨?_,rfl,g1,by simp only [Sm.sp];omega⟩
       simp only
       unfold needS at hn
       omega
      ·exact k2 x hx
/-! ### laid anew -/
def Tp (p:Nat):List Bool:=(List.range 40).map fun i=>decide (2<=i∧i<p)
theorem Tp_len (p:Nat):(Tp p).length=40:=by simp [Tp]
theorem Tp_get (p i:Nat):(Tp p)[i]?=if i<40 then some (decide (2<=i∧i<p)) else none:=by
 unfold Tp
 rw [List.getElem?_map]
 by_cases h:i<40
 ·rw [if_pos h,List.getElem?_range h];rfl
 ·rw [if_neg h,List.getElem?_eq_none (by simpa using h)];rfl
theorem Tp_take {p n:Nat} (hp:2<=p) (hn:1<=n) (h:p+n<=40):takeS 2 (Tp p) n=some p:=by
 unfold takeS
 rw [Tp_len]
 refine find_range' _ _ _ _ hp (by omega) ?_ (fun j h1 h2=>?_)
 ·rw [decide_eq_true h,Bool.true_and]
  exact (allS_iff (by rw [Tp_len];exact h) false).2 (fun i hi1 hi2=>by rw [Tp_get,if_pos (by omega),decide_eq_false (by omega)])
 ·have:allS (Tp p) j n false=false:=by
   rw [Bool.eq_false_iff]
   intro ha
   have:=(allS_iff (by rw [Tp_len];omega) false).1 ha j (Nat.le_refl _) (by omega)
   rw [Tp_get,if_pos (by omega),decide_eq_true (by omega)] at this
   cases this
  rw [this,Bool.and_false]
theorem Tp_set {p n:Nat} (hp:2<=p) (h:p+n<=40):setS (Tp p) p n true=Tp (p+n):=by
 apply List.ext_getElem?
 intro i
 rw [setS_at (by rw [Tp_len];exact h),Tp_get,Tp_get]
 by_cases hi:p<=i∧i<p+n
 ·rw [if_pos hi,if_pos (by omega),decide_eq_true (by omega)]
 ·rw [if_neg hi]
  by_cases h4:i<40
  ·rw [if_pos h4,if_pos h4]
   congr 1
   rw [decide_eq_decide]
   omega
  ·rw [if_neg h4,if_neg h4]
theorem giveS_zero:∀ (sl:List Sm) (p:Nat),2<=p->(∀ s∈sl,s.sp=(0,0))->p+needAll (sl.map Sm.b)<=40->(giveS (Tp p) sl).2.map Sm.sp=layS p (sl.map Sm.b)
 | [],_,_,_,_=>rfl
 | s :: r,p,hp,hz,hl=>by
   have hr:∀ x∈r,x.sp=(0,0):=fun x hx=>hz x (List.mem_cons_of_mem _ hx)
   have h0:s.sp=(0,0):=hz s (by simp)
   have hm0:s.m=0:=congrArg Prod.snd h0
   have e:needAll ((s::r).map Sm.b)=needS s.b.length+needAll (r.map Sm.b):=by simp [needAll]
   rw [e] at hl
   by_cases hm:needS s.b.length=s.m
   ·have hb:s.b=[]:=needS_zero (by omega)
    have hn0:needS s.b.length=0:=by omega
    rw [giveS,if_pos hm,List.map_cons,List.map_cons,layS,if_pos hb,hn0,Nat.add_zero,giveS_zero r p hp hr (by omega),h0]
   ·have hb:¬ s.b=[]:=fun h=>hm (by rw [h,hm0];rfl)
    have hn:1<=needS s.b.length:=by omega
    have htk:Q.tkS 2 (Tp p) (needS s.b.length:Int)=((p:Int),0,Tp (p+needS s.b.length)):=by
     unfold Q.tkS
     rw [if_neg (by omega),Int.toNat_natCast,Tp_take hp hn (by omega)]
     simp only
     rw [Tp_set hp (by omega)]
    rw [giveS,if_neg hm,htk]
    simp only [if_true,Int.toNat_natCast]
    rw [List.map_cons,List.map_cons,layS,if_neg hb,giveS_zero r (p+needS s.b.length) (by omega) hr (by omega)]
    rfl
theorem dropAll_dat (sl:List Sm):(dropAll sl).map dOf=sl.map dOf:=by
 unfold dropAll
 rw [List.map_map]
 rfl
theorem dat_b {l l':List Sm} (h:l.map dOf=l'.map dOf):l.map Sm.b=l'.map Sm.b:=by
 have:=congrArg (List.map (fun (d:Option Addr×Nat×List Int)=>d.2.2)) h
 rw [List.map_map,List.map_map] at this
 exact this
theorem dat_len {l l':List Sm} (h:l.map dOf=l'.map dOf):l.length=l'.length:=by
 have:=congrArg List.length h
 rwa [List.length_map,List.length_map] at this
theorem layF_dat (sl:List Sm):(layF sl).map dOf=sl.map dOf:=by
 unfold layF
 split
 ·exact giveS_dat _ _
 ·rw [giveS_dat,dropAll_dat,giveS_dat]
theorem layF_good {sl:List Sm} (hn:sl.length=16) (hP:Part (sl.map Sm.sp)) (hS:∀ s∈sl,slotOk s.sp s.b∨s.sp=(0,0)) (hl:2+needAll (sl.map Sm.b)<=40) (hf:∀ s∈sl,∀ y∈s.b,0<=y∧y<=255):GoodR ((layF sl).map Sm.sp) (sl.map Sm.b):=by
 have hf':∀ b∈sl.map Sm.b,∀ y∈b,0<=y∧y<=255:=fun b hb=>by
  obtain ⟨s,hs,rfl⟩:=List.mem_map.1 hb
  exact hf s hs
 have hb:=dat_b (layF_dat sl)
 have hlen:=dat_len (layF_dat sl)
 unfold layF at hb hlen ⊢
 split
 ·rename_i h1
  rw [if_pos h1] at hb hlen
  rw [marks_is hP] at h1 hb hlen ⊢
  obtain ⟨k1,k2⟩:=giveS_good sl [] hP hS h1
  rw [List.nil_append,List.nil_append] at k1
  rw [List.nil_append] at k2
  refine ⟨by rw [List.length_map,hlen,hn],by rw [List.length_map,hn],fun k h h'=>?_,k1.once,hf'⟩
  have e:(sl.map Sm.b)[k]=((giveS (tkR (sl.map Sm.sp)) sl).2.map Sm.b)[k]'(by rw [List.length_map] at h ⊢;exact h):=by
   congr 1
   exact hb.symm
  rw [e,List.getElem_map,List.getElem_map]
  exact k2 _ (List.getElem_mem _)
 ·rename_i h1
  rw [if_neg h1] at hb hlen
  obtain ⟨q,hq⟩:∃ q,q=(giveS (marks (List.replicate 40 false) (sl.map Sm.sp)) sl).2:=⟨_,rfl⟩
  rw [<- hq] at hb hlen ⊢
  have hqd:q.map dOf=sl.map dOf:=by rw [hq];exact giveS_dat _ _
  have hzz:∀ s∈dropAll q,s.sp=(0,0):=fun s hs=>by
   unfold dropAll at hs
   obtain ⟨x,_,rfl⟩:=List.mem_map.1 hs
   rfl
  have hdb:(dropAll q).map Sm.b=sl.map Sm.b:=dat_b ((dropAll_dat q).trans hqd)
  have hsp:(dropAll q).map Sm.sp=List.replicate (dropAll q).length (0,0):=by
   rw [List.eq_replicate_iff]
   refine ⟨by rw [List.length_map],fun x hx=>?_⟩
   obtain ⟨s,hs,rfl⟩:=List.mem_map.1 hx
   exact hzz s hs
  have hmk:marks (List.replicate 40 false) ((dropAll q).map Sm.sp)=Tp 2:=by
   have hPz:Part ((dropAll q).map Sm.sp):=by
    refine ⟨fun x hx=>?_,fun i=>?_⟩
    ·obtain ⟨s,hs,rfl⟩:=List.mem_map.1 hx
     exact .inl (hzz s hs)
    ·rw [cnt_zero (fun x hx h2=>by
      obtain ⟨s,hs,rfl⟩:=List.mem_map.1 hx
      rw [hzz s hs] at h2
      simp only at h2
      omega)]
     omega
   rw [marks_is hPz]
   apply List.ext_getElem?
   intro i
   rw [tkR_get,Tp_get,cnt_zero (fun x hx h2=>by
      obtain ⟨s,hs,rfl⟩:=List.mem_map.1 hx
      rw [hzz s hs] at h2
      simp only at h2
      omega)]
   congr 2
   rw [decide_eq_decide]
   omega
  rw [hmk,giveS_zero _ 2 (by omega) hzz (by rw [hdb];exact hl),hdb]
  exact layS_good (by rw [List.length_map,hn]) hl hf'
end
section
open Go.RowKit
structure RGs (F:Nat->Prop) (w:World) (g:Nat) (ρ:Rho):Prop where
 it:∃ sl,RB w g ρ.x ρ.z sl∧(∀ s∈sl,Dt w s∧(s.b≠[]->∃ b off,s.a=some ⟨b,off,none⟩∧F b))∧sl.map Sm.sp=ρ.sp∧sl.map Sm.b=ρ.dat
 good:GoodR ρ.sp ρ.dat
 ix:I64 ρ.x
 iz:I64 ρ.z
 inF:F g
 lt:∀ k,F k->k<w.heap.size
theorem bytes_keep {w w':World} {a:Option Addr} {n:Nat} {xs:List Int} (h:Bytes w a n xs) (hk:xs≠[]->∀ b off,a=some ⟨b,off,none⟩->w'.heap[b]?=w.heap[b]?):Bytes w' a n xs:=by
 refine ⟨h.n,?_,h.fit⟩
 rcases h.cells with e | ⟨b,off,e,hc⟩
 ·exact .inl e
 ·by_cases hx:xs=[]
  ·exact .inl hx
  ·exact .inr ⟨b,off,e,fun k hk'=>(World.cell?_of_block (a:=⟨b,off+k,none⟩) (hk hx b off e)).trans (hc k hk')⟩
theorem RGs.keep {F:Nat->Prop} {w w':World} {g:Nat} {ρ:Rho} (H:RGs F w g ρ) (hk:∀ k,F k->w'.heap[k]?=w.heap[k]?) (hs:w.heap.size<=w'.heap.size):RGs F w' g ρ:=by
 obtain ⟨sl,h1,h2,h3,h4⟩:=H.it
 refine ⟨⟨sl,h1.keep (hk g H.inF),fun s hs=>?_,h3,h4⟩,H.good,H.ix,H.iz,H.inF,fun k h=>Nat.lt_of_lt_of_le (H.lt k h) hs⟩
 obtain ⟨⟨q1,q2,q3⟩,q4⟩:=h2 s hs
 refine ⟨⟨bytes_keep q1 (fun hx b off e=>?_),q2,q3⟩,q4⟩
 obtain ⟨b',off',e',hF⟩:=q4 hx
 rw [e] at e'
 cases e'
 exact hk b hF
theorem bytes_chg {w w':World} {g:Nat} {x z:Int} {l:List Sm} (H:RB w g x z l) {a:Option Addr} {n:Nat} {xs:List Int} (h:Bytes w a n xs) (hC:Chg (fun k=>k=g) w w'):Bytes w' a n xs :=
 bytes_keep h (fun hx b off e=>by
  rcases h.cells with e0 | ⟨b',off',e',hc⟩
  ·exact absurd e0 hx
  ·rw [e] at e'
   cases e'
   have h0:=hc 0 (List.length_pos_iff.2 hx)
   refine hC.block b (World.block_lt_of_cell? w _ h0) (fun eq=>?_)
   subst eq
   exact H.no_u8 h0)
theorem good_sl {sp:List Sp} {dat:List (List Int)} {sl:List Sm} (hG:GoodR sp dat) (h3:sl.map Sm.sp=sp) (h4:sl.map Sm.b=dat):∀ s∈sl,slotOk s.sp s.b:=fun s hs=>by
 obtain ⟨k,hk,rfl⟩:=List.mem_iff_getElem.1 hs
 have:=hG.ok k (by rw [<- h3,List.length_map];exact hk) (by rw [<- h4,List.length_map];exact hk)
 simp only [<- h3,<- h4,List.getElem_map] at this
 exact this
theorem slotOk_fit {s:Sp} {b:List Int} (h:slotOk s b):s.1<256∧s.2<256∧b.length<=2000∧s.2=needS b.length∧PartOk s:=by
 rcases h with ⟨rfl,rfl⟩|⟨h1,h2,h3,h4⟩
 ·exact ⟨by decide,by decide,by simp,rfl,.inl rfl⟩
 ·have h5:1<=s.2:=by rw [h2];unfold needS;omega
  refine ⟨by omega,by omega,?_,h2,.inr ⟨h5,h3,h4⟩⟩
  unfold needS at h2
  omega
theorem fit_of {sl:List Sm} (h:∀ s∈sl,slotOk s.sp s.b):Fit sl:=fun s hs=>by
 obtain ⟨h1,h2,h3,h4,_⟩:=slotOk_fit (h s hs)
 exact ⟨h1,h2,h3,h4⟩
theorem part_of {sp:List Sp} {dat:List (List Int)} (hG:GoodR sp dat):Part sp:=⟨fun s hs=>by
 obtain ⟨k,hk,rfl⟩:=List.mem_iff_getElem.1 hs
 exact (slotOk_fit (hG.ok k hk (by rw [hG.m,<- hG.n];exact hk))).2.2.2.2,hG.once⟩
theorem cnt_le_of:∀ (l l':List Sm),l'.length=l.length->(∀ k (h:k<l'.length) (h':k<l.length),l'[k].sp=l[k].sp∨l'[k].sp=(0,0))->∀ i,cnt (l'.map Sm.sp) i<=cnt (l.map Sm.sp) i
 | [],l',hl,_,i=>by rw [List.eq_nil_of_length_eq_zero hl];exact Nat.le_refl _
 | a::r,[],hl,_,i=>by simp at hl
 | a::r,b::r',hl,h,i=>by
   have ih:=cnt_le_of r r' (by simpa using hl) (fun k h1 h2=>h (k+1) (by simpa using h1) (by simpa using h2)) i
   have h0:=h 0 (by simp) (by simp)
   simp only [List.getElem_cons_zero] at h0
   have e:∀ (x:Sp) (m:List Sp),cnt (x::m) i=cnt m i+(if covers x i then 1 else 0):=fun x m=>by simp [cnt,List.countP_cons]
   rw [List.map_cons,List.map_cons,e,e]
   rcases h0 with h0 | h0
   ·rw [h0];omega
   ·rw [h0,covers_nil]
    simp only [Bool.false_eq_true,if_false]
    omega
theorem find_once:∀ (l:List Sm) (i k:Nat) (h:k<l.length),cnt (l.map Sm.sp) i<=1->covers l[k].sp i=true->l.find? (fun s=>covers s.sp i)=some l[k]
 | [],_,_,h,_,_=>absurd h (Nat.not_lt_zero _)
 | a::r,i,0,_,_,hc=>by
   rw [List.find?_cons]
   simp only [List.getElem_cons_zero] at hc ⊢
   rw [hc]
 | a::r,i,k+1,h,ho,hc=>by
   have e:cnt ((a::r).map Sm.sp) i=cnt (r.map Sm.sp) i+(if covers a.sp i then 1 else 0):=by simp [cnt,List.countP_cons]
   simp only [List.getElem_cons_succ] at hc ⊢
   have hk:k<r.length:=by simpa using h
   have hpos:0<cnt (r.map Sm.sp) i:=cnt_pos.2 ⟨r[k].sp,List.mem_map.2 ⟨_,List.getElem_mem hk,rfl⟩,of_decide_eq_true hc⟩
   have ha:covers a.sp i=false:=by
    cases hx:covers a.sp i with
    | false=>rfl
    | true=>rw [e,hx,if_pos rfl] at ho;omega
   rw [List.find?_cons,ha]
   exact find_once r i k hk (by rw [e,ha] at ho;simpa using ho) hc
theorem blkL_mem {l:List Sm} {n i:Nat} {b:List Int}:(i,b)∈blkL l n↔i<n∧secAt l i=some b:=by
 unfold blkL
 rw [List.mem_filterMap]
 constructor
 ·rintro ⟨j,hj,e⟩
  rw [List.mem_range] at hj
  cases hs:secAt l j with
  | none=>rw [hs] at e;cases e
  | some c =>
    rw [hs] at e
    simp only [Option.map_some,Option.some.injEq,Prod.mk.injEq] at e
    obtain ⟨rfl,rfl⟩:=e
    exact ⟨hj,hs⟩
 ·rintro ⟨h1,h2⟩
  exact ⟨i,List.mem_range.2 h1,by rw [h2];rfl⟩
theorem blkL_fst (l:List Sm):∀ n,((blkL l n).map (·.1)).Nodup∧∀ i∈(blkL l n).map (·.1),i<n
 | 0=>⟨by simp [blkL],fun i hi=>by simp [blkL] at hi⟩
 | n + 1=>by
   obtain ⟨h1,h2⟩:=blkL_fst l n
   rw [blkL_next,List.map_append]
   cases hs:secAt l n with
   | none =>
     simp only [Option.map_none,Option.toList_none,List.map_nil,List.append_nil]
     exact ⟨h1,fun i hi=>Nat.lt_succ_of_lt (h2 i hi)⟩
   | some b =>
     simp only [Option.map_some,Option.toList_some,List.map_cons,List.map_nil]
     refine ⟨?_,fun i hi=>?_⟩
     ·rw [List.nodup_append]
      refine ⟨h1,by simp,fun a ha c hc e=>?_⟩
      rw [List.mem_singleton] at hc
      have:=h2 a ha
      omega
     ·rcases List.mem_append.1 hi with h | h
      ·exact Nat.lt_succ_of_lt (h2 i h)
      ·rw [List.mem_singleton] at h;omega
theorem secAt_fit {l:List Sm} (hF:Fit l) (hb:∀ s∈l,∀ y∈s.b,0<=y∧y<=255) {i:Nat} {b:List Int} (h:secAt l i=some b):b.length=32∧∀ z∈b,0<=z∧z<=255:=by
 unfold secAt at h
 split at h
 ·obtain rfl:=Option.some.inj h
  exact ⟨secP_len _ _,secP_fit (hdrL_fit hF.small) _⟩
 ·cases hf:l.find? (fun s=>covers s.sp i) with
  | none=>rw [hf] at h;cases h
  | some s =>
    rw [hf] at h
    obtain rfl:=Option.some.inj h
    exact ⟨secP_len _ _,secP_fit (hb s (List.mem_of_find?_eq_some hf)) _⟩
theorem plan_put {l:List Sm} {ps:List Pb} (hG:GoodR (l.map Sm.sp) (l.map Sm.b)) (hps:ps.map (fun p=>(p.i,p.b))=blkL l 40) (x z:Int) :
  PsOk ps∧∀ (ρ:Rho) L,ρ.x=x->ρ.z=z->OnD L ρ->OnD (putAll ρ.file L ps) ⟨x,z,l.map Sm.sp,l.map Sm.b⟩:=by
 have hS:=good_sl hG rfl rfl
 have hF:=fit_of hS
 have hn:l.length=16:=by have:=hG.n;rwa [List.length_map] at this
 have hb:∀ s∈l,∀ y∈s.b,0<=y∧y<=255:=fun s hs=>hG.fit s.b (List.mem_map.2 ⟨s,hs,rfl⟩)
 have hmem:∀ i b,i<40->secAt l i=some b->∃ p∈ps,p.i=i∧p.b=b:=fun i b h1 h2=>by
  have:=(blkL_mem (n:=40)).2 ⟨h1,h2⟩
  rw [<- hps] at this
  obtain ⟨p,hp,e⟩:=List.mem_map.1 this
  simp only [Prod.mk.injEq] at e
  exact ⟨p,hp,e.1,e.2⟩
 have hok:PsOk ps:=by
  refine ⟨fun p hp=>?_,?_⟩
  ·have:(p.i,p.b)∈blkL l 40:=by rw [<- hps];exact List.mem_map.2 ⟨p,hp,rfl⟩
   obtain ⟨h1,h2⟩:=blkL_mem.1 this
   exact ⟨h1,secAt_fit hF hb h2⟩
  ·have:=(blkL_fst l 40).1
   rw [<- hps,List.map_map] at this
   exact this
 refine ⟨hok,fun ρ L hx hz hon=>?_⟩
 subst hx hz
 refine onD_put hon hok hG (fun i hi=>?_) (fun k h h'=>.inl (fun j hj=>?_))
 ·obtain ⟨p,hp,e1,e2⟩:=hmem i (secP (hdrL l) i) (by omega) (by unfold secAt;rw [if_pos hi])
  refine ⟨p,hp,e1,?_⟩
  rw [e2,<- hdrL_R]
  have hlen:(sec (hdrL l) i).length=32:=by
   unfold sec
   rw [List.length_take,List.length_drop,hdrL_len,hn]
   omega
  unfold secP
  rw [hlen]
  simp
 ·have hk:k<l.length:=by rw [List.length_map] at h;exact h
  rw [List.getElem_map] at hj ⊢
  rw [List.getElem_map]
  obtain ⟨_,_,_,_,hp⟩:=slotOk_fit (hS l[k] (List.getElem_mem hk))
  have hp':2<=l[k].sp.1∧l[k].sp.1+l[k].sp.2<=40:=by
   rcases hp with e | ⟨_,h2,h3⟩
   ·rw [e] at hj;simp at hj
   ·exact ⟨h2,h3⟩
  have hcov:covers l[k].sp (l[k].sp.1+j)=true:=decide_eq_true ⟨by omega,by omega⟩
  obtain ⟨p,hp,e1,e2⟩:=hmem (l[k].sp.1+j) (secP l[k].b j) (by omega) (by
   unfold secAt
   rw [if_neg (by omega),find_once l _ k hk (hG.once _) hcov]
   simp only [Option.map_some]
   congr 2
   show l[k].f+j-l[k].f=j
   omega)
  exact ⟨p,hp,e1,by rw [e2];exact secP_take _ _⟩
theorem len_le {d:List (List Int)} (h:2+needAll d<=40) {b:List Int} (hb:b∈d):b.length<=1216:=by
 have:needS b.length<=needAll d:=by
  unfold needAll
  have:∀ (l:List Nat) (x:Nat),x∈l->x<=l.sum:=fun l x hx=>by
   induction l with
   | nil=>simp at hx
   | cons a r ih =>
     rw [List.sum_cons]
     rcases List.mem_cons.1 hx with rfl | hx
     ·omega
     ·have:=ih hx;omega
  exact this _ _ (List.mem_map.2 ⟨b,hb,rfl⟩)
 unfold needS at this
 omega
end
end Go.Proofs.YtlllmmceoeihkaaGreat
set_option maxRecDepth 20000
namespace Go.Proofs.YtlllmmceoeihkaaGreat
open Go.RowKit
theorem i64_or_nat (a b:Nat) (ha:a<9223372036854775808) (hb:b<9223372036854775808):bits .or .i64 (a:Int) (b:Int)=((a ||| b:Nat):Int):=by
 have hx:a ||| b<2 ^ 63:=Nat.or_lt_two_pow (by omega) (by omega)
 show IntKind.i64.wrap ((BitVec.ofInt 64 (a:Int) ||| BitVec.ofInt 64 (b:Int)).toNat:Int)=_
 rw [BitVec.toNat_or,ofInt_u64 a (by omega),ofInt_u64 b (by omega)]
 simp [IntKind.wrap,IntKind.bits,IntKind.signed]
 omega
theorem or_two (a b:Nat) (ha:a<256) (hb:b<256):bits .or .i64 (a:Int) ((b*256:Nat):Int)=((a+256*b:Nat):Int):=by
 rw [i64_or_nat a (b*256) (by omega) (by omega),Nat.or_comm,nat_join 8 (b*256) a (by omega) (by omega)]
 omega
theorem all_range_u8:∀ (xs ys:List Int),xs.length=ys.length->((List.range xs.length).all fun i=>xs.getD i 0 == ys.getD i 0)=(xs == ys)
 | [],[],_=>rfl
 | x::xs,y::ys,h=>by
   have ih:=all_range_u8 xs ys (by simpa using h)
   rw [List.length_cons,List.range_succ_eq_map,List.all_cons,List.all_map]
   simp only [List.getD_cons_zero,Function.comp_def,List.getD_cons_succ,ih]
   simp [List.cons_beq_cons]
 | [],_::_,h=>by simp at h
 | _::_,[],h=>by simp at h
theorem equalIn_u8 (d:Nat) (t e:TypeId) (n:Nat) (ht:Tryz.prog.underlying t=some (.array n e)) (he:Tryz.prog.underlying e=some (.int .u8)) (hsz:∀ w,(sizeOf e).run Tryz.prog w = .ok 1 w)
  (xs ys:List Int) (hx:xs.length=n) (hy:ys.length=n) (w:World) :
  (Op.equalIn (d+2) t (.agg (vals xs)) (.agg (vals ys))).run Tryz.prog w = .ok (xs == ys) w:=by
 rw [<- all_range_u8 xs ys (hx.trans hy.symm),hx,List.range_eq_range',Op.equalIn]
 simp only [Sem.run_bind,run_underlying ht,Result.andThen_ok,hsz,Std.Legacy.Range.forIn_eq_forIn_range',Std.Legacy.Range.size,Nat.sub_zero,Nat.add_sub_cancel,Nat.div_one]
 have hl:∀ i∈List.range' 0 n 1,i<n:=fun i hi=>by simpa using (List.mem_range'_1.1 hi).2
 generalize List.range' 0 n 1=l at hl ⊢
 induction l with
 | nil=>simp
 | cons i l ih =>
   have hi:i<n:=hl i (by simp)
   have px:(Go.part e (vals xs) (i*1)).run Tryz.prog w = .ok (.int .u8 (xs.getD i 0)) w:=by
    simp [Go.part,isAgg,run_underlying he,vals,List.getD,List.getElem?_eq_getElem (show i<xs.length by omega)]
   have py:(Go.part e (vals ys) (i*1)).run Tryz.prog w = .ok (.int .u8 (ys.getD i 0)) w:=by
    simp [Go.part,isAgg,run_underlying he,vals,List.getD,List.getElem?_eq_getElem (show i<ys.length by omega)]
   have pe:(Op.equalIn (d+1) e (.int .u8 (xs.getD i 0)) (.int .u8 (ys.getD i 0))).run Tryz.prog w = .ok (xs.getD i 0 == ys.getD i 0) w:=run_equalIn_int w d e .u8 .u8 _ _ he
   simp only [List.forIn_cons,Sem.run_bind,px,py,pe,Result.andThen_ok,List.all_cons]
   cases hb:(xs.getD i 0 == ys.getD i 0)
   ·simp
   ·simp only [Bool.not_true,Bool.false_eq_true,if_false,Sem.run_pure,Result.andThen_ok,Bool.true_and]
    exact ih fun j hj=>hl j (by simp [hj])
theorem four_eq (a b c d:Int) (w:World):(Op.equalIn 10000 198 (.agg #[.int .u8 a,.int .u8 b,.int .u8 c,.int .u8 d]) (.agg #[.int .u8 0,.int .u8 0,.int .u8 0,.int .u8 0])).run Tryz.prog w = .ok ([a,b,c,d] == ([0,0,0,0]:List Int)) w:=equalIn_u8 9998 198 5 4 Tryz.underlying198 Tryz.underlying5 size5N [a,b,c,d] [0,0,0,0] rfl rfl w
/-! ### the header -/
abbrev En:Type:=Sp×Nat
theorem entN_len (b:List Int):(entS b).length=16:=by simp [entS]
theorem entN_at (b:List Int) (k:Nat) (hk:k<16):(entS b)[k]'(by rw [entN_len];exact hk)=(((b.getD (4*k) 0).toNat,(b.getD (4*k+1) 0).toNat),(b.getD (4*k+2) 0).toNat+256*(b.getD (4*k+3) 0).toNat):=by simp [entS]
theorem HdOk.part {hs:List En} (h:HdOk hs):Part (hs.map (·.1)):=⟨fun s hs'=>by
 obtain ⟨e,he,rfl⟩:=List.mem_map.1 hs'
 rcases h.ok e he with rfl | ⟨h1,h2,h3,h4⟩
 ·exact .inl rfl
 ·exact .inr ⟨by rw [h2];unfold needS;omega,h3,h4⟩,h.once⟩
theorem HdOk.sub {hs:List En} (h:HdOk hs) (j:Nat):HdOk (hs.take j):=⟨fun e he=>h.ok e (List.mem_of_mem_take he),fun i=>by
 have:=h.once i
 rw [<- List.take_append_drop j hs,List.map_append,cnt_append] at this
 omega⟩
theorem place_zero {hs:List En} {j:Nat} (hj:j<hs.length) (h:HdOk (hs.take j)) (he:hs[j]=((0,0),0)):HdOk (hs.take (j+1))∧tkR ((hs.take (j+1)).map (·.1))=tkR ((hs.take j).map (·.1)):=by
 have e:hs.take (j+1)=hs.take j++[((0,0),0)]:=by rw [List.take_succ_eq_append_getElem hj,he]
 have hc:∀ i,cnt ((hs.take (j+1)).map (·.1)) i=cnt ((hs.take j).map (·.1)) i:=fun i=>by
  rw [e,List.map_append,cnt_append]
  show _+cnt [(0,0)] i=_
  rw [cnt_zz,Nat.add_zero]
 refine ⟨⟨fun x hx=>?_,fun i=>by rw [hc];exact h.once i⟩,?_⟩
 ·rw [e] at hx
  rcases List.mem_append.1 hx with hx | hx
  ·exact h.ok x hx
  ·rw [List.mem_singleton.1 hx];exact .inl rfl
 ·apply List.ext_getElem?
  intro i
  rw [tkR_get,tkR_get,hc]
theorem may_free {p:List Sp} {f m:Nat} (h:Q.mayB 2 (tkR p) (f:Int) (m:Int) false=true):1<=m∧2<=f∧f+m<=40∧∀ i,f<=i->i<f+m->cnt p i=0:=by
 unfold Q.mayB at h
 rw [tkR_len,Bool.and_eq_true,decide_eq_true_iff] at h
 obtain ⟨⟨h1,h2,h3,h4⟩,h5⟩:=h
 have hfm:f+m<=40:=by omega
 refine ⟨by omega,by omega,hfm,fun i hi1 hi2=>?_⟩
 have:=(allS_iff (T:=tkR p) (f:=f) (m:=m) (by rw [tkR_len];exact hfm) false).1 h5 i hi1 hi2
 rw [tkR_get,if_pos (by omega)] at this
 have:=of_decide_eq_false (Option.some.inj this)
 omega
theorem place_ok {hs:List En} {j f m n:Nat} (hj:j<hs.length) (h:HdOk (hs.take j)) (he:hs[j]=((f,m),n)) (hn:1<=n) (hm:m=needS n) (hmay:Q.mayB 2 (tkR ((hs.take j).map (·.1))) (f:Int) (m:Int) false=true) :
  HdOk (hs.take (j+1))∧Q.doS 2 (tkR ((hs.take j).map (·.1))) (f:Int) (m:Int) false true=tkR ((hs.take (j+1)).map (·.1)):=by
 have e:hs.take (j+1)=hs.take j++[((f,m),n)]:=by rw [List.take_succ_eq_append_getElem hj,he]
 obtain ⟨h1,h2,h3,hfree⟩:=may_free hmay
 have hc:∀ i,cnt ((hs.take (j+1)).map (·.1)) i=cnt ((hs.take j).map (·.1)) i+(if f<=i∧i<f+m then 1 else 0):=fun i=>by
  rw [e,List.map_append,cnt_append]
  show _+cnt [(f,m)] i=_
  rw [cnt_sing]
 have hok:HdOk (hs.take (j+1)):=by
  refine ⟨fun x hx=>?_,fun i=>?_⟩
  ·rw [e] at hx
   rcases List.mem_append.1 hx with hx | hx
   ·exact h.ok x hx
   ·rw [List.mem_singleton.1 hx];exact .inr ⟨hn,hm,h2,h3⟩
  ·rw [hc]
   by_cases hi:f<=i∧i<f+m
   ·rw [if_pos hi,hfree i hi.1 hi.2];omega
   ·rw [if_neg hi];exact h.once i
 refine ⟨hok,?_⟩
 have e2:(hs.take (j+1)).map (·.1)=(hs.take j).map (·.1)++[(f,m)]:=by rw [e,List.map_append];rfl
 have hp:=hok.part
 rw [e2] at hp ⊢
 exact mark_step hp
theorem place_bad1 {hs:List En} {j f m n:Nat} (hj:j<hs.length) (he:hs[j]=((f,m),n)) (hz:((f,m),n)≠((0,0),0)) (h:¬ (1<=n∧m=needS n)):¬ HdOk hs:=fun hok=>by
 have:=hok.ok hs[j] (List.getElem_mem hj)
 rw [he] at this
 rcases this with h1 | h1
 ·exact hz h1
 ·exact h ⟨h1.1,h1.2.1⟩
theorem place_bad2 {hs:List En} {j f m n:Nat} (hj:j<hs.length) (he:hs[j]=((f,m),n)) (hz:((f,m),n)≠((0,0),0)) (hmay:Q.mayB 2 (tkR ((hs.take j).map (·.1))) (f:Int) (m:Int) false=false):¬ HdOk hs:=fun hok=>by
 have h0:=hok.ok hs[j] (List.getElem_mem hj)
 rw [he] at h0
 rcases h0 with h1 | ⟨h1,h2,h3,h4⟩
 ·exact hz h1
 ·simp only at h1 h2 h3 h4
  have e:hs.take (j+1)=hs.take j++[((f,m),n)]:=by rw [List.take_succ_eq_append_getElem hj,he]
  have hm1:1<=m:=by rw [h2];unfold needS;omega
  have hfree:∀ i,f<=i->i<f+m->cnt ((hs.take j).map (·.1)) i=0:=fun i hi1 hi2=>by
   have h5:=(hok.sub (j+1)).once i
   have h6:cnt ((hs.take (j+1)).map (·.1)) i=cnt ((hs.take j).map (·.1)) i+1:=by
    rw [e,List.map_append,cnt_append]
    show _+cnt [(f,m)] i=_
    rw [cnt_sing,if_pos ⟨hi1,hi2⟩]
   have h7:cnt ((hs.take j).map (·.1)) i+1<=1:=by rw [<- h6];exact h5
   omega
  have hall:allS (tkR ((hs.take j).map (·.1))) f m false=true:=(allS_iff (by rw [tkR_len];exact h4) false).2 (fun i hi1 hi2=>by
   rw [tkR_get,if_pos (by omega),hfree i hi1 hi2];rfl)
  unfold Q.mayB at hmay
  rw [tkR_len,decide_eq_true (by omega),Bool.true_and] at hmay
  rw [show (f:Int).toNat=f from Int.toNat_natCast f,show (m:Int).toNat=m from Int.toNat_natCast m,hall] at hmay
  cases hmay
end Go.Proofs.YtlllmmceoeihkaaGreat
