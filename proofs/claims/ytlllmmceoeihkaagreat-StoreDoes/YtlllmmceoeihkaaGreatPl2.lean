/-
  The program's region: Plan, with where its blocks lie.
-/
import Derived.Test.YtlllmmceoeihkaaGreatGfill
set_option maxRecDepth 20000
namespace Go.Proofs.YtlllmmceoeihkaaGreat
open Go.RowKit
theorem own_base {B B' t k:Nat} {w:World} {v:Value} {n:Nat} {cs:List Value} (h:w.ownsRow B t k v n cs) (hB:B'<=B):w.ownsRow B' t k v n cs:=by
 refine ⟨h.1,?_⟩
 rcases h.2 with h1 | ⟨g,c',cur,hv,hb,r⟩
 ·exact .inl h1
 ·exact .inr ⟨g,c',cur,hv,Nat.le_trans hB hb,r⟩
theorem rows_base {B B':Nat} {w:World} {l:List Pb} (h:PbRows B w l) (hB:B'<=B):PbRows B' w l:=fun p hp=>by
 obtain ⟨q,h1,h2⟩:=h p hp
 exact ⟨q,Nat.le_trans hB h1,h2⟩
def Plan2Say (ρ:Rho) (L:List Cs) (w:World) (e:Ending) (w':World):Prop:=Below w.heap.size w w' ∧
 (((planS ρ.dat L).1≠0∧∃ pa pc,e = .returned (.tuple #[.slice pa 0 pc,.pointer none,.int .i64 (planS ρ.dat L).1])) ∨
  ((planS ρ.dat L).1=0∧∃ pa pc g' sp' ps,e = .returned (.tuple #[.slice pa ps.length pc,.pointer (some ⟨g',0,none⟩),.int .i64 0]) ∧
   GoodR sp' (planS ρ.dat L).2∧OwnPb w' w.heap.size pa pc ρ.file ps∧PbRows w.heap.size w' ps∧PsOk ps ∧
   ∀ L',Good L'->OnD L' ρ->OnD (putAll ρ.file L' ps) ⟨ρ.x,ρ.z,sp',(planS ρ.dat L).2⟩))
set_option maxHeartbeats 1000000 in
theorem plan2_c (F:Nat->Prop) (g:Nat) (ρ:Rho) (a:Option Addr) (n c:Nat) (l:List Cg) (w:World) (H:RGs F w g ρ) (hC:CgsAt w a l) (hn:l.length=n) (hM:n<=maxLen) :
  Calls Tryz.prog 74 #[.pointer (some ⟨g,0,none⟩),.slice a n c] w (Plan2Say ρ (l.map Cg.cs) w):=by
 obtain ⟨Post,hPost⟩:∃ Post:Ending->World->Prop,Post=Plan2Say ρ (l.map Cg.cs) w:=⟨_,rfl⟩
 rw [<- hPost]
 have HPn:Hid (∀ w' v,(planS ρ.dat (l.map Cg.cs)).1=v->v≠0->Below w.heap.size w w'->Post (.returned (.tuple #[.slice none 0 0,.pointer none,.int .i64 v])) w'):=fun w' v h1 h2 h3=>by rw [hPost];exact ⟨h3,.inl ⟨by rw [h1];exact h2,none,0,by rw [h1]⟩⟩
 have HPy:Hid (∀ w' pa pc g' sp' ps,(planS ρ.dat (l.map Cg.cs)).1=0->GoodR sp' (planS ρ.dat (l.map Cg.cs)).2->OwnPb w' w.heap.size pa pc ρ.file ps->PbRows w.heap.size w' ps->PsOk ps->(∀ L',Good L'->OnD L' ρ->OnD (putAll ρ.file L' ps) ⟨ρ.x,ρ.z,sp',(planS ρ.dat (l.map Cg.cs)).2⟩)->Below w.heap.size w w'->Post (.returned (.tuple #[.slice pa ps.length pc,.pointer (some ⟨g',0,none⟩),.int .i64 0])) w'):=fun w' pa pc g' sp' ps h1 h2 h3 h4 h5 h6 h7=>by rw [hPost];exact ⟨h7,.inr ⟨h1,pa,pc,g',sp',ps,rfl,h2,h3,h4,h5,h6⟩⟩
 clear hPost
 obtain ⟨sl,hB,hD,hsp,hdat⟩:=H.it
 have HB:Hid (RB w g ρ.x ρ.z sl):=hB
 have HD:Hid (∀ s∈sl,Dt w s∧(s.b≠[]->∃ b off,s.a=some ⟨b,off,none⟩∧F b)):=hD
 have Hsp:Hid (sl.map Sm.sp=ρ.sp):=hsp
 have Hdat:Hid (sl.map Sm.b=ρ.dat):=hdat
 have HG:Hid (RGs F w g ρ):=H
 have HC:Hid (CgsAt w a l):=hC
 have Hn:Hid (l.length=n):=hn
 have HM:Hid (n<=maxLen):=hM
 clear H hC hn hM hB hD hsp hdat
 go_enter Tryz.func74,Tryz.ntmps74
 go_wp2_with fail
 refine (apart_c ρ.dat a n c l w HC.out Hn.out HM.out).mono ?_
 rintro _ w1 ⟨rfl,hb1⟩
 cases hch:chgAll ρ.dat [] (l.map Cg.cs) with
 | none =>
   have R:=HPn.out w1 1 (by unfold planS;rw [hch]) (by decide) hb1
   clear HPn HPy hb1
   simp only [Option.isSome_none]
   go_wp2
   exact bodyPost_ret (results_tmp3 (t:=4) (u:=5) (v:=6) rfl _ _ _) rfl R
 | some d' =>
   have Hb1:Hid (Below w.heap.size w w1):=hb1
   have HB1:Hid (RB w1 g ρ.x ρ.z sl):=HB.out.on hb1
   have HC1:Hid (CgsAt w1 a l):=HC.out.on hb1
   have Hch:Hid (chgAll (sl.map Sm.b) [] (l.map Cg.cs)=some d'):=by show _=_;rw [Hdat.out];exact hch
   have Hok:Hid (∀ s∈sl,slotOk s.sp s.b):=good_sl HG.out.good Hsp.out Hdat.out
   simp only [Option.isSome_some]
   clear hb1
   go_wp2_with fail
   refine (fits_c g ρ.x ρ.z sl d' a n c l w1 HB1.out (fun s hs=>(slotOk_fit (Hok.out s hs)).2.2.1) HC1.out Hn.out HM.out Hch.out).mono ?_
   rintro _ w2 ⟨rfl,hb2⟩
   have hb12:=Hb1.out.trans (hb2.mono Hb1.out.size)
   by_cases hfit:2+needAll d'<=40
   ·have hpl:planS ρ.dat (l.map Cg.cs)=(0,d'):=by unfold planS;rw [hch];simp only;rw [if_pos hfit]
    have Hfit:Hid (2+needAll d'<=40):=hfit
    rw [hpl] at HPy
    have HB2:Hid (RB w2 g ρ.x ρ.z sl):=HB1.out.on hb2
    have HC2:Hid (CgsAt w2 a l):=HC1.out.on hb2
    have HD2:Hid (∀ s∈sl,Dt w2 s):=fun s hs=>(HD.out s hs).1.on hb12
    have Hb2:Hid (Below w.heap.size w w2):=hb12
    rw [decide_eq_true hfit]
    clear HPn hb2 hb12 HB1 HC1 Hb1 hpl hch hfit
    go_wp2_with fail
    refine (with_c g ρ.x ρ.z sl d' a n c l w2 HB2.out HD2.out HC2.out Hn.out HM.out Hch.out).mono ?_
    rintro _ w3 ⟨hb3,rfl,sl',hB3,hD3,hbd,hrel⟩
    have hlen:sl'.length=sl.length:=hB3.n.trans HB2.out.n.symm
    have hSW:∀ s∈sl',slotOk s.sp s.b∨s.sp=(0,0):=fun s hs=>by
     obtain ⟨k,hk,rfl⟩:=List.mem_iff_getElem.1 hs
     rcases hrel k hk (by omega) with e | h
     ·rw [e];exact .inl (Hok.out _ (List.getElem_mem _))
     ·exact .inr (Prod.ext h.1 h.2.1)
    have hPt:Part (sl'.map Sm.sp):=by
     refine ⟨fun x hx=>?_,fun i=>?_⟩
     ·obtain ⟨s,hs,rfl⟩:=List.mem_map.1 hx
      rcases hSW s hs with h | h
      ·exact (slotOk_fit h).2.2.2.2
      ·exact .inl h
     ·refine Nat.le_trans (cnt_le_of sl sl' hlen (fun k h h'=>?_) i) ?_
      ·rcases hrel k h h' with e | h
       ·exact .inl (by rw [e])
       ·exact .inr (Prod.ext h.1 h.2.1)
      ·rw [Hsp.out];exact HG.out.good.once i
    have hfitb:∀ s∈sl',∀ y∈s.b,0<=y∧y<=255:=fun s hs=>(hD3 s hs).by_.fit
    have hGd:=layF_good (hB3.n) hPt hSW (by rw [hbd];exact Hfit.out) hfitb
    rw [hbd] at hGd
    have hldat:(layF sl').map Sm.b=d':=(dat_b (layF_dat sl')).trans hbd
    have HB3:Hid (RB w3 w2.heap.size ρ.x ρ.z sl'):=hB3
    have HD3:Hid (∀ s∈sl',Dt w3 s):=hD3
    have Hrel:Hid (∀ k (h:k<sl'.length) (h':k<sl.length),sl'[k]=sl[k]∨New w2.heap.size sl'[k]):=hrel
    have HGd:Hid (GoodR ((layF sl').map Sm.sp) d'):=hGd
    have Hld:Hid ((layF sl').map Sm.b=d'):=hldat
    have Hb3:Hid (Below w2.heap.size w2 w3):=hb3
    have Hsm:Hid (∀ s∈sl',s.f<1000∧s.m<1000∧s.b.length<=2000):=fun s hs=>by
     have hl:=len_le Hfit.out (b:=s.b) (by rw [<- hbd];exact List.mem_map.2 ⟨s,hs,rfl⟩)
     rcases hSW s hs with h | h
     ·have:=slotOk_fit h
      have h1:s.f<256:=this.1
      have h2:s.m<256:=this.2.1
      exact ⟨by omega,by omega,by omega⟩
     ·have h1:s.f=0:=congrArg Prod.fst h
      have h2:s.m=0:=congrArg Prod.snd h
      exact ⟨by omega,by omega,by omega⟩
    have Hlen:Hid (sl'.length=sl.length):=hlen
    have Hbd:Hid (sl'.map Sm.b=d'):=hbd
    clear hb3 hB3 hD3 hbd hrel hlen hSW hPt hfitb hGd hldat
    go_wp2_with fail
    refine (lay_c w2.heap.size ρ.x ρ.z sl' w3 HB3.out Hsm.out).mono ?_
    rintro _ w4 ⟨rfl,hB4,hC4⟩
    have HB4:Hid (RB w4 w2.heap.size ρ.x ρ.z (layF sl')):=hB4
    have HC4:Hid (Chg (fun k=>k=w2.heap.size) w3 w4):=hC4
    have HD4:Hid (∀ s∈layF sl',Dt w4 s):=fun s hs=>by
     have hd:dOf s∈(layF sl').map dOf:=List.mem_map.2 ⟨s,hs,rfl⟩
     rw [layF_dat] at hd
     obtain ⟨s',hs',e⟩:=List.mem_map.1 hd
     have e1:s'.a=s.a:=congrArg Prod.fst e
     have e2:s'.c=s.c:=congrArg (fun q=>q.2.1) e
     have e3:s'.b=s.b:=congrArg (fun q=>q.2.2) e
     obtain ⟨q1,q2,q3⟩:=HD3.out s' hs'
     have:=bytes_chg HB3.out q1 HC4.out
     rw [e1,e3] at this
     rw [e1,e2] at q2
     rw [e2,e3] at q3
     exact ⟨this,q2,q3⟩
    have HGd2:Hid (GoodR ((layF sl').map Sm.sp) ((layF sl').map Sm.b)):=by show GoodR _ _;rw [Hld.out];exact HGd.out
    clear hB4 hC4
    go_wp2_with fail
    refine (blocks_c w2.heap.size ρ.x ρ.z (layF sl') w4 HB4.out (fit_of (good_sl HGd2.out rfl rfl)) HD4.out).mono ?_
    rintro _ w5 ⟨hb5,pa,pc,ps,rfl,hO,hR,hps⟩
    obtain ⟨hok,hput⟩:=plan_put HGd2.out hps ρ.x ρ.z
    have hs24:w2.heap.size<=w4.heap.size:=Nat.le_trans Hb3.out.size HC4.out.size
    have hs5:w4.heap.size<=w5.heap.size:=hb5.size
    have hb61:Below w2.heap.size w2 w5:=by
     have h4:Below w2.heap.size w3 w4:=HC4.out.below (fun k hk=>by rw [hk];exact Nat.le_refl _) Hb3.out.size
     exact (Hb3.out.trans h4).trans (hb5.mono hs24)
    have hbw5:Below w.heap.size w w5:=Hb2.out.trans (hb61.mono Hb2.out.size)
    have hlt2:w2.heap.size<w5.heap.size:=Nat.lt_of_lt_of_le HB4.out.lt hs5
    have hws:=Hb2.out.size
    have hF5:∀ k,(F k∨(w.heap.size<=k∧k<w5.heap.size))->k<w5.heap.size:=fun k hk=>hk.elim (fun h=>Nat.lt_of_lt_of_le (HG.out.lt k h) hbw5.size) (fun h=>h.2)
    have R:=HPy.out w5 pa pc w2.heap.size ((layF sl').map Sm.sp) ps trivial HGd.out (own_base hO (Nat.le_trans hws hs24)) (rows_base hR (Nat.le_trans hws hs24)) hok (fun L' _ hon=>by
      have:=hput ρ L' rfl rfl hon
      rw [Hld.out] at this
      exact this) hbw5
    clear HPy hO hR hps hok hput hb5 hb61 hbw5 hF5 HB3 HD3 Hrel HGd Hld Hb3 Hsm Hlen Hbd HB4 HC4 HD4 HGd2
    generalize ps.length=np at *
    go_wp2
    exact bodyPost_ret (results_tmp3 (t:=4) (u:=5) (v:=6) rfl _ _ _) rfl R
   ·have hpl:planS ρ.dat (l.map Cg.cs)=(11,[]):=by unfold planS;rw [hch];simp only;rw [if_neg hfit]
    have R:=HPn.out w2 11 (by rw [hpl]) (by decide) hb12
    rw [decide_eq_false hfit]
    clear HPn HPy hb2 hb12
    go_wp2
    exact bodyPost_ret (results_tmp3 (t:=4) (u:=5) (v:=6) rfl _ _ _) rfl R
end Go.Proofs.YtlllmmceoeihkaaGreat
