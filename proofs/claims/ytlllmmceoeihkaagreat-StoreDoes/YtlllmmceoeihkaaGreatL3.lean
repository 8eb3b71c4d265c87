/-
  StoreDoes.
-/
import Derived.Test.YtlllmmceoeihkaaGreatTf
set_option maxRecDepth 20000
namespace Go.Proofs.YtlllmmceoeihkaaGreat
open Go.RowKit
open Z (Km RSt KRow Cz needK loadK)
theorem both_new {n0:Nat} {w:World} {d s m:Nat} {F:Nat->Prop} {S:St} (hS:SO F w s d m 0 S [] R0) (hf:S.free) (hw:S.writes<=2000) (hF:∀ k,F k->n0<=k) (hs:n0<=s) (hm:n0<=m) (hn:n0<=w.heap.size):Both n0 (w.alloc (.cells #[.slice none 0 0] 34)) d s w.heap.size E0 2000 0 0:=by
 have hb:Below w.heap.size w (w.alloc (.cells #[.slice none 0 0] 34)):=(Below.refl _ _).alloc (Nat.le_refl _) _
 have hmk:ManyOk []:=fun x z=>rfl
 exact ⟨F,m,0,S,[],R0,_,0,[],none,0,⟨hS.on hb,rst_new w 0,Nat.zero_le _,Nat.le_trans hn hb.size,fun k hk=>⟨hF k hk,fun e=>by have:=hS.lt k hk;omega⟩,⟨hs,fun e=>by have:=hS.lts.1;omega⟩,⟨hm,fun e=>by have:=hS.lts.2;omega⟩,fun k hk=>by rw [hk];exact hn⟩,⟨has_new,rfok0,hf,hw,doc_nil,many_r0 doc_nil hmk ed0_ok,ed0_ok,Nat.le_refl _⟩,Nat.le_refl _⟩
theorem both_loads {n0:Nat} {w:World} {d s r:Nat} {E:Ed} {wb:Int} {N M:Nat} (h:Both n0 w d s r E wb N M) (x z:Int) (hx:I64 x) (hz:I64 z):Calls Tryz.prog 14 #[.pointer (some ⟨s,0,none⟩),.pointer (some ⟨r,0,none⟩),valA x z] w fun e w'=>Below w.heap.size w w'∧e = .returned (.bool true):=by
 obtain ⟨F,m,n,S,V,R,G,B,L,av,cv,hp,ht,_⟩:=h
 refine (loads_c hp.so ht.has ht.ok ht.free.1 hp.rs x z hx hz).mono ?_
 rintro e w' ⟨hb,β,rfl,hβ⟩
 rw [hβ (ht.doc.load x z).symm]
 exact ⟨hb,rfl⟩
theorem both_whole {n0:Nat} {w:World} {d s r:Nat} {E:Ed} {wb:Int} {N M:Nat} (h:Both n0 w d s r E wb N M) (x z:Int) (hx:I64 x) (hz:I64 z):Calls Tryz.prog 15 #[.pointer (some ⟨s,0,none⟩),valA x z] w fun e w'=>e = .returned (.bool true)∧Below w.heap.size w w':=by
 obtain ⟨F,m,n,S,V,R,G,B,L,av,cv,hp,ht,_⟩:=h
 exact whole_c hp.so ht.has ht.free.1 x z hx hz
set_option maxHeartbeats 4000000 in
theorem storeDoes_l (w:World) (a:Option Addr) (n c:Nat) (l:List LOp) (hW:OpsAt w a l) (hl:l.length=n) :
  Calls Tryz.prog 3 #[.slice a n c] w fun e w'=>e = .returned (.bool true)∧Below w.heap.size w w':=by
 obtain ⟨Post,hPost⟩:∃ Post:Ending->World->Prop,Post=fun e w'=>e = .returned (.bool true)∧Below w.heap.size w w':=⟨_,rfl⟩
 rw [<- hPost]
 have HP:Hid (∀ w',Below w.heap.size w w'->Post (.returned (.bool true)) w'):=fun w' h=>by rw [hPost];exact ⟨rfl,h⟩
 clear hPost
 have HW:Hid (OpsAt w a l):=hW
 have Hl:Hid (l.length=n):=hl
 clear hW hl
 go_enter Tryz.func3,Tryz.ntmps3
 go_wp2_with fail
 refine (awake_l _).mono ?_
 rintro _ w1 ⟨rfl,hb1⟩
 replace HP:Hid (∀ w',Below w1.heap.size w1 w'->Post (.returned (.bool true)) w'):=fun w' h=>HP.out w' (hb1.trans (h.mono hb1.size))
 have HW1:Hid (OpsAt w1 a l):=HW.out.on hb1
 clear hb1 HW
 go_wp2_with fail
 refine (small_c a n c l w1 HW1.out Hl.out).mono ?_
 rintro _ w1' ⟨hwe,hsm⟩
 replace hwe:=hwe.symm
 subst hwe
 obtain ⟨sm,rfl,HSm⟩:∃ sm:Bool,_=Ending.returned (Value.bool sm)∧Hid (sm=true->SmallO l):=by
  rcases hsm with ⟨h1,h2⟩|⟨h1,h2⟩
  ·exact ⟨true,h1,fun _=>h2⟩
  ·exact ⟨false,h1,fun h=>by cases h⟩
 clear hsm
 go_wp2_with fail
 refine (new_c w1).mono ?_
 rintro _ w2 ⟨⟨d,F,rfl,hD,hF,hdl⟩,hb2⟩
 cases sm with
 | false =>
   have R:=HP.out w2 hb2
   clear HP hb2 HW1 Hl HSm hD hF hdl
   go_wp2
   exact R
 | true =>
 have Hsm:Hid (SmallO l):=HSm.out rfl
 have hn40:n<=40:=by have:=Hsm.out.1;have:=Hl.out;omega
 have hop:=open_st F d St.new [] w2 hD hdl RecL.new (by decide)
 have HB2:Hid (Below w1.heap.size w1 w2∧∀ k,F k->w1.heap.size<=k):=⟨hb2,hF⟩
 clear HSm hD hF hdl hb2
 go_wp2_with fail
 refine hop.mono ?_
 clear hop
 rintro _ w3 ⟨S1,sv,Er,rfl,hC,hwr,hst,⟨rfl,s,m,F',rfl,hS,hF',hs,hm⟩|⟨_,_,hnf,_⟩⟩
 rotate_left
 ·exact absurd ⟨rfl,rfl⟩ hnf
 have HB3:Hid (Below w1.heap.size w1 w3):=HB2.out.1.trans (chg_below hC HB2.out.2 HB2.out.1.size)
 have HBo:Hid (Both w1.heap.size (w3.alloc (.cells #[.slice none 0 0] 34)) d s w3.heap.size E0 2000 0 0):=both_new hS (hst.free ⟨rfl,rfl⟩) (by have:St.new.writes=0:=rfl;omega) (fun k hk=>(hF' k hk).elim (HB2.out.2 k) (fun h=>Nat.le_trans HB2.out.1.size h.1)) (Nat.le_trans HB2.out.1.size hs) (Nat.le_trans HB2.out.1.size hm) HB3.out.size
 clear hC hwr hst hS hF' hs hm HB2
 go_upto_region 10 with fail
 have HB4:Hid (Below w1.heap.size w1 (w3.alloc (.cells #[.slice none 0 0] 34))):=HB3.out.alloc HB3.out.size _
 clear HB3
 generalize w3.alloc (.cells #[.slice none 0 0] 34)=w4 at *
 generalize w3.heap.size=r0 at *
 go_wp2
 go_loopw [6,8,9,10,11,12,13,14,15] (fun sv rv iv _ _ _ _ _ _ wr=>∃ (i s r:Nat) (E:Ed),sv = .pointer (some ⟨s,0,none⟩)∧rv = .pointer (some ⟨r,0,none⟩)∧iv = .int .i64 (i:Int)∧i<=n∧Hid (Both w1.heap.size wr d s r E (2000+2000*(i:Int)) i (6*i))∧Hid (Below w1.heap.size w1 wr)) (fun _ _ iv _ _ _ _ _ _ _=>n-(intOf iv).toNat)
 case atStart=>exact ⟨0,s,r0,E0,rfl,rfl,rfl,Nat.zero_le _,HBo.out,HB4.out⟩
 case round =>
  clear HBo HB4
  obtain ⟨i,s,r,E,rfl,rfl,rfl,hi,HBo,HB⟩:=hrel
  by_cases hlt:i<n
  ·have hlt':(i:Int)<(n:Int):=by omega
   have hil:i<l.length:=by rw [Hl.out];exact hlt
   obtain ⟨b,off,rfl,hat0⟩:=HW1.out i hil
   have hon:l[i].n<=6:=Hsm.out.2 _ (List.getElem_mem hil)
   have Hol:Hid (l[i].l.length=l[i].n):=hat0.len
   have HA:Hid (∀ W,Below w1.heap.size w1 W->LOpAt W b off i l[i]):=fun W hb=>by
    obtain ⟨b',off',e,h⟩:=(HW1.out.on hb) i hil
    cases e
    exact h
   clear hat0
   generalize l[i]=o at *
   have hmx:o.n<=9223372036854775807:=by omega
   obtain ⟨wi,hwi⟩:∃ wi,wi=wr:=⟨_,rfl⟩
   subst hwi
   go_wp2
   go_loopw [10,11] (fun kv _ wk=>∃ k:Nat,kv = .int .i64 (k:Int)∧k<=o.n∧Hid (Below wi.heap.size wi wk)∧Hid (∀ j (h:j<o.l.length),j<k->Near o.l[j])) (fun kv _ _=>o.n-(intOf kv).toNat)
   case atStart=>exact ⟨0,rfl,Nat.zero_le _,Below.refl _ _,fun j _ hj=>absurd hj (by omega)⟩
   case round =>
    obtain ⟨k,rfl,hk,HK,HNe⟩:=hrel
    have HBk:Hid (Below w1.heap.size w1 wr):=HB.out.trans (HK.out.mono HB.out.size)
    have hat:=HA.out _ HBk.out
    have e1:=hat.c1
    by_cases hkl:k<o.n
    ·have hkl':(k:Int)<(o.n:Int):=by omega
     have hkll:k<o.l.length:=by rw [Hol.out];exact hkl
     obtain ⟨lb,lo,hoa,hwk⟩:=hat.ws k hkll
     rw [hoa] at e1
     have c0:=hwk.c0
     have c1:=hwk.c1
     have hb1:Below wi.heap.size wi (wr.alloc (.cells #[.int .i64 o.l[k].x,.int .i64 o.l[k].z] 39)):=HK.out.alloc HK.out.size _
     have HK2:Hid _:=hb1
     have HBx:Hid (Below w1.heap.size w1 (wr.alloc (.cells #[.int .i64 o.l[k].x,.int .i64 o.l[k].z] 39))):=HB.out.trans (hb1.mono HB.out.size)
     obtain ⟨x,hx⟩:∃ x,x=o.l[k].x:=⟨_,rfl⟩
     obtain ⟨z,hz⟩:∃ z,z=o.l[k].z:=⟨_,rfl⟩
     have HNk:Hid (Near o.l[k]↔(-1073741824<=x∧x<=1073741824)∧(-1073741824<=z∧z<=1073741824)):=by rw [hx,hz];exact Iff.rfl
     rw [<- hx,<- hz] at HK2 HBx
     rw [<- hx] at c0
     rw [<- hz] at c1
     clear hat hwk hb1 HK hx hz HBk
     have R:=HP.out _ HBx.out
     by_cases h1:x < -1073741824
     ·clear HNk HP HNe HK2 HBx HA HBo HB
      go_wp2
      exact R
     by_cases h2:1073741824<x
     ·clear HNk HP HNe HK2 HBx HA HBo HB
      go_wp2
      exact R
     by_cases h3:z < -1073741824
     ·clear HNk HP HNe HK2 HBx HA HBo HB
      go_wp2
      exact R
     by_cases h4:1073741824<z
     ·clear HNk HP HNe HK2 HBx HA HBo HB
      go_wp2
      exact R
     have HN2:Hid (∀ j (h:j<o.l.length),j<k+1->Near o.l[j]):=fun j hj hjk=>by
      by_cases e:j=k
      ·subst e;exact HNk.out.2 ⟨⟨by omega,by omega⟩,⟨by omega,by omega⟩⟩
      ·exact HNe.out j hj (by omega)
     clear HNk HP HNe HBx R
     go_wp2
     go_roundw
     case rel=>exact ⟨k+1,by go_num,by omega,HK2.out,HN2.out⟩
     case measure=>simp [intOf];omega
    ·obtain rfl:k=o.n:=by omega
     have HNa:Hid (∀ p∈o.l,Near p):=fun p hp=>by
      obtain ⟨j,hj,rfl⟩:=List.mem_iff_getElem.1 hp
      exact HNe.out j hj (by rw [<- Hol.out];exact hj)
     have e0:=hat.c0
     have hds:=does_c (HBo.out.on HK.out) (by omega) (by omega) (by omega) o (fun W hb=>(HA.out W (HBk.out.trans hb)).ws) Hol.out hon HNa.out
     clear hat HNe HK HBo HB
     go_wp2_with fail
     refine hds.mono ?_
     clear hds e0 e1
     rintro _ w5 ⟨hb5,s',r',E',rfl,hbo5⟩
     have HB5:Hid (Below w1.heap.size w1 w5):=HBk.out.trans hb5
     have HBo5:Hid (Both w1.heap.size w5 d s' r' E' (2000+2000*((i+1:Nat):Int)) (i+1) (6*(i+1))):=hbo5.more (by omega) (Nat.le_refl _) (by omega)
     clear hb5 hbo5 HBk
     go_wp2
     go_loopw [13,14,15] (fun kv _ _ wq=>∃ k:Nat,kv = .int .i64 (k:Int)∧k<=o.n∧Hid (Below w5.heap.size w5 wq)) (fun kv _ _ _=>o.n-(intOf kv).toNat)
     case atStart=>exact ⟨0,rfl,Nat.zero_le _,Below.refl _ _⟩
     case round =>
      obtain ⟨k,rfl,hk2,HQ⟩:=hrel
      have HBq:Hid (Below w1.heap.size w1 wr):=HB5.out.trans (HQ.out.mono HB5.out.size)
      have hat:=HA.out _ HBq.out
      have e1:=hat.c1
      by_cases hkl2:k<o.n
      ·have hkl':(k:Int)<(o.n:Int):=by omega
       have hkll:k<o.l.length:=by rw [Hol.out];exact hkl2
       obtain ⟨lb,lo,hoa,hwk⟩:=hat.ws k hkll
       have HAk:Hid (∀ W,Below w1.heap.size w1 W->WkAt W lb lo k o.l[k]∧W.cell? ⟨b,off+i*2+1,none⟩=some (.slice (some ⟨lb,lo,none⟩) o.n o.c)):=fun W hb=>by
        have h1:=HA.out W hb
        obtain ⟨b',off',e,h⟩:=h1.ws k hkll
        rw [hoa] at e
        cases e
        have h2:=h1.c1
        rw [hoa] at h2
        exact ⟨h,h2⟩
       have hIk:=near_i64 (HNa.out _ (List.getElem_mem hkll))
       have hld:=both_loads (HBo5.out.on HQ.out) o.l[k].x o.l[k].z hIk.1 hIk.2
       have HWh:Hid (∀ W,Below wr.heap.size wr W->Calls Tryz.prog 15 #[.pointer (some ⟨s',0,none⟩),valA o.l[k].x o.l[k].z] W fun e w'=>e = .returned (.bool true)∧Below W.heap.size W w'):=fun W hb=>both_whole ((HBo5.out.on HQ.out).on hb) _ _ hIk.1 hIk.2
       rw [hoa] at e1
       have c0:=hwk.c0
       have c1:=hwk.c1
       clear hat hwk hIk HP hoa
       generalize o.l[k]=p at *
       go_wp2_with fail
       refine hld.mono ?_
       clear hld c0 c1 e1
       rintro _ w6 ⟨hb6,rfl⟩
       have HB6:Hid (Below w1.heap.size w1 w6):=HBq.out.trans (hb6.mono HBq.out.size)
       have HQ6:Hid (Below w5.heap.size w5 w6):=HQ.out.trans (hb6.mono HQ.out.size)
       obtain ⟨hwk,e1⟩:=HAk.out _ HB6.out
       have c0:=hwk.c0
       have c1:=hwk.c1
       have hwh:=HWh.out w6 hb6
       clear hwk hb6 HWh HAk HB6 HQ HBq
       go_wp2_with fail
       refine hwh.mono ?_
       clear hwh c0 c1 e1
       rintro _ w7 ⟨rfl,hb7⟩
       have HQ7:Hid (Below w5.heap.size w5 w7):=HQ6.out.trans (hb7.mono HQ6.out.size)
       clear hb7 HQ6
       go_wp2
       go_roundw
       case rel=>exact ⟨k+1,by go_num,by omega,HQ7.out⟩
       case measure=>simp [intOf];omega
      ·obtain rfl:k=o.n:=by omega
       have HBo6:Hid _:=HBo5.out.on HQ.out
       clear hat HP HQ HBo5
       go_wp2
       go_roundw
       case rel=>exact ⟨i+1,s',r',E',rfl,rfl,by go_num,by omega,HBo6.out,HBq.out⟩
       case measure=>simp [intOf];omega
  ·obtain rfl:i=n:=by omega
   have R:=HP.out wr HB.out
   clear HP HBo HB HW1 Hl Hsm
   go_wp2
   exact R
end Go.Proofs.YtlllmmceoeihkaaGreat
