/-
  The program's reader, over the bytes that are left.
  The program's reader: runs.
  The program's reader: packed numbers.
  The program's reader: a chunk.
  The program's Decode: what gives up is caught.
  Places are packed one by one.
  The document's store: Region, place, Load, Need.
-/
import Derived.Test.YtlllmmceoeihkaaGreatSr
import Derived.Deep.RegionHeld
import Derived.Test.YtlllmmceoeihkaaGreatKPfx
import Derived.Recover
import Derived.Laws.BitsAllLaws
import Derived.Test.YtlllmmceoeihkaaGreatDv
import Derived.Test.YtlllmmceoeihkaaGreatKRenp
import Derived.Deep.RegionWith
import Derived.Test.YtlllmmceoeihkaaGreatCl
namespace Go.Proofs.YtlllmmceoeihkaaGreat.K
open Go.RowKit
theorem lnumber_short (q b:Nat) (M:Int) (w:World) (h:Lefts w q b []):Calls Tryz.prog 134 #[.pointer (some ⟨q,0,none⟩),.int .i64 M] w fun e w'=>e=gives 3∧w'=w:=by
 obtain ⟨off,n,c,hR,hB,_⟩:=h
 have:=hB.n
 simp at this
 subst this
 exact number_short q _ c M w hR
theorem lnumber_form (q b:Nat) (bs:List Int) (M:Int) (w:World) (h:Lefts w q b bs) (hne:bs≠[]) (hg:(getL bs).1<1∨M<(getL bs).1):Calls Tryz.prog 134 #[.pointer (some ⟨q,0,none⟩),.int .i64 M] w fun e w'=>e=gives 4∧w'=w:=by
 obtain ⟨off,n,c,hR,hB,hn,_,h6⟩:=h
 have:=hB.n
 have:=List.length_pos_iff.2 hne
 exact number_form q _ n c bs M w hR hB (by omega) h6 hg
theorem lnumber_yes (q b:Nat) (bs:List Int) (M:Int) (w:World) (h:Lefts w q b bs) (hne:bs≠[]) (h1:1<=(getL bs).1) (h2:(getL bs).1<=M):Calls Tryz.prog 134 #[.pointer (some ⟨q,0,none⟩),.int .i64 M] w fun e w' =>
  e = .returned (.int .i64 (getL bs).1)∧Lefts w' q b (bs.drop (getL bs).2.toNat)∧Only q w w':=by
 obtain ⟨off,n,c,hR,hB,hn,hb,h6⟩:=h
 have hl:=hB.n
 have hp:=List.length_pos_iff.2 hne
 have hin:=getL_in hB.fit
 obtain ⟨s,hs⟩:=Int.eq_ofNat_of_zero_le hin.2.2.1
 refine (number_yes q b off n c s bs M w hR hB (by omega) hn h6 h1 h2 hs).mono ?_
 rintro e w' ⟨he,o',ho,hR',hO⟩
 refine ⟨he,?_,hO⟩
 rw [hs,Int.toNat_natCast]
 exact Lefts.moved hB hb hn h6 (hO.below (Nat.le_refl _)) (by omega) ho hR'
theorem ltake_no (q b m:Nat) (bs:List Int) (w:World) (h:Lefts w q b bs) (hm:bs.length<m):Calls Tryz.prog 108 #[.pointer (some ⟨q,0,none⟩),.int .i64 (m:Int)] w fun e w'=>e=gives 3∧w'=w:=by
 obtain ⟨off,n,c,hR,hB,_⟩:=h
 exact take_no q _ n c m w hR (by have:=hB.n;omega)
theorem ltake_yes (q b m:Nat) (bs:List Int) (w:World) (h:Lefts w q b bs) (h1:1<=m) (hm:m<=bs.length):Calls Tryz.prog 108 #[.pointer (some ⟨q,0,none⟩),.int .i64 (m:Int)] w fun e w' =>
  (∃ off c,e = .returned (.slice (some ⟨b,off,none⟩) m c)∧Bytes w' (some ⟨b,off,none⟩) m (bs.take m)∧b<q)∧Lefts w' q b (bs.drop m)∧Only q w w':=by
 obtain ⟨off,n,c,hR,hB,hn,hb,h6⟩:=h
 have hl:=hB.n
 refine (take_yes q b off n c m w hR h1 (by omega) hn).mono ?_
 rintro e w' ⟨he,o',ho,hR',hO⟩
 have hw:=hO.below (Nat.le_refl q)
 refine ⟨⟨off,c,he,?_,hb⟩,Lefts.moved hB hb hn h6 hw (by omega) ho hR',hO⟩
 have hB':=hB.under hw hb
 refine ⟨by rw [List.length_take];omega,?_,fun z hz=>hB'.fit z (List.mem_of_mem_take hz)⟩
 rcases hB'.cells with e | ⟨b',o',e,hc⟩
 ·left;rw [e,List.take_nil]
 ·cases e
  refine Or.inr ⟨_,_,rfl,fun j hj=>?_⟩
  rw [List.length_take] at hj
  rw [hc j (by omega),List.getElem_take]
theorem Lefts.drew {w:World} {q b:Nat} {bs:List Int} (h:Lefts w q b bs):Lefts w.drew q b bs:=by
 obtain ⟨off,n,c,h1,h2,h3,h4,h5⟩:=h
 exact ⟨off,n,c,h1,⟨h2.n,h2.cells,h2.fit⟩,h3,h4,h5⟩
theorem below_drew {B:Nat} {a w:World} (h:Below B a w):Below B a w.drew:=⟨h.os,h.tape,h.output,h.size,h.block⟩
/-! ### a region that draws its order -/
theorem wpAnyH_strong {P:Program} {md:Region.Mode} {ops:Array Oper} {Q:Exit->Act->World->Prop} {S S':World->Prop} (h:∀ w,S' w->S w) :
  ∀ {fuel:Nat} {listed:Array Bool} {a:Act} {w:World},wpAnyH P md ops Q S' fuel listed a w->wpAnyH P md ops Q S fuel listed a w
 | 0,_,_,_,hw=>hw
 | _+1,_,_,_,hw=>⟨hw.1,fun i hi=>wpOp_mono (fun _ w' h'=>⟨h w' h'.1,wpAnyH_strong h h'.2⟩) (hw.2 i hi)⟩
structure Sub (S:World->Prop) where
 w:World
 ok:S w
theorem take_step {P:Program} {md:Region.Mode} {ops:Array Oper} {Q:Exit->Act->World->Prop} {S:World->Prop} {i:Nat} {oi:Oper} {fuel:Nat} {listed:Array Bool} {a:Act} {w:World} (hi:ops[i]?=some oi)
  (hs:Region.noSelect ops=true) (hf:Region.free md ops listed i=true) (hr:(Region.ready md ops listed).contains i=true)
  (hQ:∀ v c a w,Q (.panic c) (a.put oi.dst v) w->Q (.panic c) a w) (hS:S w)
  (h:∀ K:Act->Prop,(∀ a,wpAnyH P md ops Q S fuel (listed.setIfInBounds i true) a w->K a)->if Region.wanted oi (yielded ops a.tmps)=true then ∃ v,(∀ s:Sub S,(execOp a.eval oi).run P s.w = .ok (.value v) s.w)∧K (a.put oi.dst v) else K (a.put oi.dst undef)) :
  wpAnyH P md ops Q S (fuel+1) listed a w:=by
 have h':=h _ (fun _ h=>h)
 by_cases hw:Region.wanted oi (yielded ops a.tmps)=true
 ·rw [if_pos hw] at h'
  obtain ⟨v,hv,hk⟩:=h'
  exact wpAnyH_take hi hs hf hr (hQ v) (Or.inl ⟨hw,fun w hS=>hv ⟨w,hS⟩⟩) hS hk
 ·rw [if_neg hw] at h'
  exact wpAnyH_take hi hs hf hr (hQ undef) (Or.inr ⟨by simpa using hw,rfl⟩) hS h'
theorem below_drewN {B:Nat} {a w:World} (h:Below B a w) (n:Nat):Below B a (w.drewN n):=⟨h.os,h.tape,h.output,h.size,h.block⟩
theorem yields_pal {ops:Array Oper} {S:World->Prop} {op:Oper} {a:Act} (hw:Region.wanted op (yielded ops a.tmps)=true) (x:Operand) (ho:op.op = .load 192 x)
  (g:Nat) (hx:a.eval x = .pointer (some ⟨g,0,none⟩)) (X:Array Value) (hs:X.size=18) (hS:∀ w,S w->w.heap[g]?=some (.cells X 192 (0,0))):YieldsIf Tryz.prog ops S op (.agg X) a:=by
 have:=yieldsIf_load_mid (P:=Tryz.prog) (ops:=ops) (S:=S) (op:=op) (a:=a) hw 192 x ho g 0 hx X.toList _ (fun w h j v hv=>by
  rw [Nat.zero_add,cell_of_row w g j _ 192 (0,0) (hS w h)];simpa using hv) Tryz.underlying192 rfl (by rw [Array.length_toList,hs];kernel_rfl)
 rwa [Array.toArray_toList] at this
end Go.Proofs.YtlllmmceoeihkaaGreat.K
namespace Go.Proofs.YtlllmmceoeihkaaGreat.K
open Go.RowKit
def RunsSay (l bs:List Int) (q b g:Nat) (w:World) (e:Ending) (w':World):Prop :=
 Below q w w'∧((∃ E:Int,E≠0∧runsD l 32768 bs=(E,[])∧e=gives E)∨(∃ out rest,out.length=32768∧runsD l 32768 bs=comb out (runsD l 0 rest)∧e = .returned (.tuple #[])∧Blk w' g 122 out∧Lefts w' q b rest))
def Stand (w:World) (g:Nat) (out:List Int):Prop:=∃ cs,Blk w g 122 cs∧cs.length=32768∧cs.take out.length=out
theorem Stand.set {w':World} {g A N:Nat} {out cs:List Int} {x:Int} (hl:cs.length=32768) (ho:out.length=A+N) (h:cs.take (A+N)=out) (hi:A+N<32768) (hB:Blk w' g 122 (setC cs ((A:Int)+(N:Int)) x)) (hx:0<=x∧x<=16) :
  Stand w' g (out++[x]):=by
 rw [(okSet_yes (i:=(A:Int)+(N:Int)) (k:=x) ⟨by omega,by omega,hx.1,hx.2⟩ cs).2,show ((A:Int)+(N:Int)).toNat=A+N by omega] at hB
 refine ⟨_,hB,by rw [List.length_set,hl],?_⟩
 rw [List.length_append,List.length_singleton,ho,List.take_set,List.take_add_one,h,List.set_append,if_neg (by omega)]
 have:A+N<cs.length:=by omega
 simp [ho,this]
theorem one_cell {w:World} {b o:Nat} {x:Int} (h:Bytes w (some ⟨b,o,none⟩) 1 [x]):w.cell? ⟨b,o,none⟩=some (.int .u8 x):=by
 obtain ⟨b',o',z,e,hc,_,_,hk,hz⟩:=h.get 0 (by omega)
 cases e
 rw [hz] at hc
 exact hc
set_option maxRecDepth 1000000 in
set_option maxHeartbeats 2000000 in
theorem druns_c (q b g:Nat) (X:Array Value) (l bs Z:List Int) (w:World) (hL:Lefts w q b bs) (hX:IsPal X l) (hl:l.length<=17) (hk:AreKinds l) (hG:Blk w g 122 Z) (hZ:Z.length=32768) (hqg:q<g) :
  Calls Tryz.prog 111 #[.pointer (some ⟨q,0,none⟩),.agg X,.pointer (some ⟨g,0,none⟩)] w (RunsSay l bs q b g w):=by
 have hq:=hL.lt
 have hg:=hG.lt
 have HX:Hid (IsPal X l):=hX
 have hXs:=hX.size
 have HC0:Hid (runsD l 32768 bs=comb [] (runsD l (32768-([]:List Int).length) bs)):=by show _=_;rw [comb_nil];rfl
 have HF:Hid (∀ (E:Int) w',E≠0->runsD l 32768 bs=(E,[])->Below q w w'->RunsSay l bs q b g w (gives E) w'):=fun E w' h1 h2 h3=>⟨h3,Or.inl ⟨E,h1,h2,rfl⟩⟩
 have HT:Hid (∀ w' out rest,out.length=32768->runsD l 32768 bs=comb out (runsD l 0 rest)->Blk w' g 122 out->Lefts w' q b rest->Below q w w'->RunsSay l bs q b g w (.returned (.tuple #[])) w'):=fun w' out rest h1 h2 h3 h4 h5=>⟨h5,Or.inr ⟨out,rest,h1,h2,rfl,h3,h4⟩⟩
 obtain ⟨Post,hPost⟩:∃ Post,Post=RunsSay l bs q b g w:=⟨_,rfl⟩
 rw [<- hPost]
 have HP:Hid (Post=RunsSay l bs q b g w):=hPost
 clear hPost
 have Hw1:Hid (Below w.heap.size w (w.alloc (.cells X 192))):=(Below.refl _ _).alloc (Nat.le_refl _) _
 have HS0:Hid (Stand (w.alloc (.cells X 192)) g ([]:List Int)):=⟨Z,hG.below Hw1.out hg,hZ,rfl⟩
 have HL0:Hid (Lefts (w.alloc (.cells X 192)) q b bs):=hL.below Hw1.out hq
 have HX0:Hid ((w.alloc (.cells X 192)).heap[w.heap.size]?=some (.cells X 192 (0,0))):=heap_alloc_new w _
 have HB0:Hid (Below q w (w.alloc (.cells X 192))):=Hw1.out.mono (Nat.le_of_lt hq)
 clear hL hX hG hZ Hw1
 go_enter Tryz.func111,Tryz.ntmps111
 go_wp2
 generalize w.alloc (.cells X 192)=wa at *
 go_loopw [6] (fun v6 wr=>∃ (A:Nat) (out rest:List Int),A<=32768∧v6 = .int .i64 (A:Int)∧Hid (out.length=A)∧Hid (runsD l 32768 bs=comb out (runsD l (32768-out.length) rest))∧Hid (Stand wr g out)∧Hid (Lefts wr q b rest)∧Hid (wr.heap[w.heap.size]?=some (.cells X 192 (0,0)))∧Hid (Below q w wr)) (fun v _=>32768-(intOf v).toNat)
 case atStart=>exact ⟨0,[],bs,by omega,rfl,rfl,HC0,HS0,HL0,HX0,HB0⟩
 case round =>
  obtain ⟨A,out,rest,hA,rfl,HA,HC,HS,HL,HXr,Hb⟩:=hrel
  clear HC0 HS0 HL0 HX0 HB0
  by_cases hlt:A<32768
  ·have hlt':(A:Int)<32768:=by omega
   obtain ⟨Nd,hNd⟩:∃ Nd:Nat,(32768:Int)-(A:Int)=(Nd:Int):=⟨32768-A,by omega⟩
   have HNd:Hid (32768-A=Nd):=by show _=_;omega
   have Hneed:Hid (Nd≠0):=by show _≠_;omega
   have HC':Hid (runsD l 32768 bs=comb out (runsD l Nd rest)):=by show _=_;rw [<- HNd.out,<- HA.out];exact HC.out
   clear HC
   by_cases h0:rest=[]
   ·subst h0
    have R:Post (gives 3) wr:=by rw [HP.out];exact HF.out 3 wr (by omega) (by rw [HC'.out,runsD_short l _ Hneed.out];rfl) Hb.out
    have HN:Hid (Calls Tryz.prog 134 #[.pointer (some ⟨q,0,none⟩),.int .i64 (Nd:Int)] wr fun e w'=>e=gives 3∧w'=wr):=lnumber_short q b Nd wr HL.out
    clear HF HT HP HC' HS HL HXr Hb HX
    go_wp2_with fail
    refine HN.out.mono ?_
    clear HN
    rintro _ _ ⟨rfl,rfl⟩
    go_wp2
    exact ⟨rfl,R⟩
   ·have Hbyte:Hid (∀ z∈rest,0<=z∧z<=255):=by
     obtain ⟨_,_,_,_,hB,_⟩:=HL.out
     exact hB.fit
    by_cases hgd:(getL rest).1<1∨(Nd:Int)<(getL rest).1
    ·have R:Post (gives 4) wr:=by rw [HP.out];exact HF.out 4 wr (by omega) (by rw [HC'.out,runsD_form l _ rest Hneed.out h0 (Or.inr hgd)];rfl) Hb.out
     have HN:Hid (Calls Tryz.prog 134 #[.pointer (some ⟨q,0,none⟩),.int .i64 (Nd:Int)] wr fun e w'=>e=gives 4∧w'=wr):=lnumber_form q b rest Nd wr HL.out h0 hgd
     clear HF HT HP HC' HS HL HXr Hb HX hgd h0
     go_wp2_with fail
     refine HN.out.mono ?_
     clear HN
     rintro _ _ ⟨rfl,rfl⟩
     go_wp2
     exact ⟨rfl,R⟩
    ·have HH:Hid (¬ ((getL rest).2=0∨(getL rest).1<1∨(Nd:Int)<(getL rest).1)):=by
      rintro (h | h)
      ·have:=getL_two h;omega
      ·exact hgd h
     obtain ⟨G,hG⟩:=Int.eq_ofNat_of_zero_le (getL_in Hbyte.out).1
     have HG:Hid ((getL rest).1=(G:Int)∧1<=G∧G<=Nd):=⟨hG,by omega,by omega⟩
     have HN:Hid (Calls Tryz.prog 134 #[.pointer (some ⟨q,0,none⟩),.int .i64 (Nd:Int)] wr fun e w'=>e = .returned (.int .i64 (G:Int))∧Lefts w' q b (rest.drop (getL rest).2.toNat)∧Only q wr w'):=by
      have:=lnumber_yes q b rest Nd wr HL.out h0 (by omega) (by omega)
      rw [hG] at this
      rw [hG] at *
      exact this
     have Hne:Hid (rest≠[]):=h0
     clear hG hgd h0 Hbyte HL
     go_wp2_with fail
     refine HN.out.mono ?_
     clear HN
     rintro _ w2 ⟨rfl,hL2,hO2⟩
     have HS2:Hid (Stand w2 g out):=by
      obtain ⟨cs,hC,h2,h3⟩:=HS.out
      exact ⟨cs,hC.only hO2 (by omega),h2,h3⟩
     have HX2:Hid (w2.heap[w.heap.size]?=some (.cells X 192 (0,0))):=(hO2.block _ (by omega)).trans HXr.out
     have Hb2:Hid (Below q w w2):=Hb.out.trans (hO2.below (Nat.le_refl _))
     clear hO2 HS HXr Hb
     rcases hd:rest.drop (getL rest).2.toNat with _ | ⟨pz,r⟩
     ·rw [hd] at hL2
      have R:∀ w3:World,Below q w w3->Post (gives 3) w3:=fun w3 h3=>by rw [HP.out];exact HF.out 3 w3 (by omega) (by rw [HC'.out,runsD_cut l _ rest Hneed.out Hne.out HH.out hd];rfl) h3
      have HR:Hid (∀ w3:World,Below q w w3->Post (gives 3) w3):=R
      clear HF HT HP HC' HX R hd HH
      go_wp2_with fail
      refine wp_region_held_drew (S:=fun w'=>w'.heap[w.heap.size]?=some (.cells X 192 (0,0))) (by kernel_rfl) (by exact HX2.out) (fun hHeld=>?_)
      have hne:Nonempty (Sub (fun w'=>w'.heap[w.heap.size]?=some (.cells X 192 (0,0)))):=⟨⟨_,hHeld⟩⟩
      refine wpAnyH_take (i:=0) (v:=.agg X) rfl (by kernel_rfl) (by kernel_rfl) (by kernel_rfl) (fun _ _ _ h=>h) (yields_pal (by rfl) (.tmp 4) rfl w.heap.size rfl X hXs (fun _ h=>h)) (by exact hHeld) ?_
      refine take_step (i:=1) rfl (by kernel_rfl) (by kernel_rfl) (by kernel_rfl) (fun _ _ _ _ h=>h) (by exact hHeld) (fun K hK=>?_)
      go_simp;refine hK _ ?_;clear hK K
      refine wpAnyH_ready (rs:=[2]) (by kernel_rfl) (by simp) ?_
      refine AllReadyH.cons rfl (fun K hK=>?_) AllReadyH.nil
      go_simp
      refine (ltake_no q b 1 [] _ hL2.drew (by simp)).mono ?_
      rintro _ _ ⟨rfl,rfl⟩
      go_wp2
      exact ⟨rfl,HR.out _ (below_drew Hb2.out)⟩
     ·have hpb:0<=pz∧pz<=255:=by
       obtain ⟨_,_,_,_,hB,_⟩:=hL2
       exact hB.fit pz (by rw [hd];exact List.mem_cons_self ..)
      rw [hd] at hL2
      obtain ⟨PZ,rfl⟩:=Int.eq_ofNat_of_zero_le hpb.1
      have Htk:Hid (∀ w,Lefts w q b ((PZ:Int)::r)->Calls Tryz.prog 108 #[.pointer (some ⟨q,0,none⟩),.int .i64 1] w fun e w' =>
        (∃ off c,e = .returned (.slice (some ⟨b,off,none⟩) 1 c)∧Bytes w' (some ⟨b,off,none⟩) 1 [(PZ:Int)]∧b<q)∧Lefts w' q b r∧Only q w w'):=fun w h=>ltake_yes q b 1 ((PZ:Int)::r) w h (by omega) (by simp)
      obtain ⟨hp0,hp1⟩:=hpb
      have hwr:IntKind.i64.wrap (PZ:Int)=(PZ:Int):=by rw [IntKind.wrap_i64];omega
      by_cases hfar:l.length<=PZ
      ·have R:∀ w3:World,Below q w w3->Post (gives 4) w3:=fun w3 h3=>by rw [HP.out];exact HF.out 4 w3 (by omega) (by rw [HC'.out,runsD_far l _ rest Hneed.out Hne.out HH.out hd (by omega)];rfl) h3
       have HR:Hid (∀ w3:World,Below q w w3->Post (gives 4) w3):=R
       have Hfar:Hid ((l.length:Int)<=PZ):=by show (l.length:Int)<=PZ;omega
       clear HF HT HP HC' R hd HH hfar
       go_wp2_with fail
       refine wp_region_held_drew (S:=fun w'=>w'.heap[w.heap.size]?=some (.cells X 192 (0,0))) (by kernel_rfl) (by exact HX2.out) (fun hHeld=>?_)
       have hne:Nonempty (Sub (fun w'=>w'.heap[w.heap.size]?=some (.cells X 192 (0,0)))):=⟨⟨_,hHeld⟩⟩
       refine wpAnyH_take (i:=0) (v:=.agg X) rfl (by kernel_rfl) (by kernel_rfl) (by kernel_rfl) (fun _ _ _ h=>h) (yields_pal (by rfl) (.tmp 4) rfl w.heap.size rfl X hXs (fun _ h=>h)) (by exact hHeld) ?_
       refine take_step (i:=1) rfl (by kernel_rfl) (by kernel_rfl) (by kernel_rfl) (fun _ _ _ _ h=>h) (by exact hHeld) (fun K hK=>?_)
       go_simp;refine hK _ ?_;clear hK K
       refine wpAnyH_ready (rs:=[2]) (by kernel_rfl) (by simp) ?_
       refine AllReadyH.cons rfl (fun K hK=>?_) AllReadyH.nil
       go_simp
       refine (Htk.out _ hL2.drew).mono ?_
       rintro _ w3 ⟨⟨o3,c3,rfl,hB3,hbq⟩,hL3,hO3⟩
       have HX3:Hid (w3.heap[w.heap.size]?=some (.cells X 192 (0,0))):=(hO3.block _ (by omega)).trans HX2.out
       have hc3:w3.cell? ⟨b,o3,none⟩=some (.int .u8 (PZ:Int)):=one_cell hB3
       have HS3:Hid (Stand w3 g out):=by
        obtain ⟨cs,hC,h2,h3⟩:=HS2.out
        exact ⟨cs,(hO3.block _ (by omega)).trans hC,h2,h3⟩
       have Hb3:Hid (Below q w w3):=(below_drew Hb2.out).trans (hO3.below (Nat.le_refl _))
       have HL3:Hid (Lefts w3 q b r):=hL3
       clear HS2 HX2 Hb2 hL2 hB3 hO3 hL3
       refine hK.out _ _ (by exact HX3.out) (fun hHeld=>?_)
       clear hK K hne
       refine wpAnyH_strong (S':=fun w'=>w'.cell? ⟨b,o3,none⟩=some (.int .u8 (PZ:Int))∧w'.heap[w.heap.size]?=some (.cells X 192 (0,0))) (fun _ h=>h.2) ?_
       replace hHeld:w3.cell? ⟨b,o3,none⟩=some (.int .u8 (PZ:Int))∧w3.heap[w.heap.size]?=some (.cells X 192 (0,0)):=⟨hc3,HX3.out⟩
       have hne:Nonempty (Sub (fun w'=>w'.cell? ⟨b,o3,none⟩=some (.int .u8 (PZ:Int))∧w'.heap[w.heap.size]?=some (.cells X 192 (0,0)))):=⟨⟨_,hHeld⟩⟩
       have hcc:∀ s:Sub (fun w'=>w'.cell? ⟨b,o3,none⟩=some (.int .u8 (PZ:Int))∧w'.heap[w.heap.size]?=some (.cells X 192 (0,0))),s.w.cell? ⟨b,o3,none⟩=some (.int .u8 (PZ:Int)):=fun s=>s.ok.1
       refine take_step (i:=3) rfl (by kernel_rfl) (by kernel_rfl) (by kernel_rfl) (fun _ _ _ _ h=>h) (by exact hHeld) (fun K hK=>?_)
       go_simp;refine hK _ ?_;clear hK K
       refine take_step (i:=4) rfl (by kernel_rfl) (by kernel_rfl) (by kernel_rfl) (fun _ _ _ _ h=>h) (by exact hHeld) (fun K hK=>?_)
       go_simp;refine hK _ ?_;clear hK K
       refine take_step (i:=5) rfl (by kernel_rfl) (by kernel_rfl) (by kernel_rfl) (fun _ _ _ _ h=>h) (by exact hHeld) (fun K hK=>?_)
       go_simp;refine hK _ ?_;clear hK K
       refine wpAnyH_ready (rs:=[6]) (by kernel_rfl) (by simp) ?_
       refine AllReadyH.cons rfl (fun K hK=>?_) AllReadyH.nil
       go_simp
       refine (kind_no X l PZ _ HX.out Hfar.out).mono ?_
       rintro _ w4 ⟨rfl,hb4⟩
       go_wp2
       exact ⟨rfl,HR.out _ (Hb3.out.trans (hb4.mono (by have:=HL3.out.lt;omega)))⟩
      ·have HE:Hid (runsD l 32768 bs=comb (out++List.replicate G (l.getD PZ 0)) (runsD l (Nd-G) r)):=by
        show _=_
        rw [HC'.out,runsD_go l _ rest Hneed.out Hne.out HH.out hd (by omega),comb_comb,HG.out.1,Int.toNat_natCast,Int.toNat_natCast]
       have Hfar:Hid (PZ<l.length):=by show PZ<l.length;omega
       have HKx:Hid (0<=l.getD PZ 0∧l.getD PZ 0<=16):=hk _ (getD_mem Hfar.out)
       have HKc:Hid (∀ w,Calls Tryz.prog 135 #[.agg X,.int .i64 (PZ:Int)] w fun e w'=>e = .returned (.int .i64 (l.getD PZ 0))∧Below w.heap.size w w'):=fun w=>kind_yes X l PZ w HX.out hl Hfar.out ⟨HKx.out.1,by have:=HKx.out.2;omega⟩
       obtain ⟨x,hx⟩:∃ x,x=l.getD PZ 0:=⟨_,rfl⟩
       rw [<- hx] at HE HKx HKc
       clear HC' hd HH hfar hx HX Hfar
       go_wp2_with fail
       refine wp_region_held_drew (S:=fun w'=>w'.heap[w.heap.size]?=some (.cells X 192 (0,0))) (by kernel_rfl) (by exact HX2.out) (fun hHeld=>?_)
       have hne:Nonempty (Sub (fun w'=>w'.heap[w.heap.size]?=some (.cells X 192 (0,0)))):=⟨⟨_,hHeld⟩⟩
       refine wpAnyH_take (i:=0) (v:=.agg X) rfl (by kernel_rfl) (by kernel_rfl) (by kernel_rfl) (fun _ _ _ h=>h) (yields_pal (by rfl) (.tmp 4) rfl w.heap.size rfl X hXs (fun _ h=>h)) (by exact hHeld) ?_
       refine take_step (i:=1) rfl (by kernel_rfl) (by kernel_rfl) (by kernel_rfl) (fun _ _ _ _ h=>h) (by exact hHeld) (fun K hK=>?_)
       go_simp;refine hK _ ?_;clear hK K
       refine wpAnyH_ready (rs:=[2]) (by kernel_rfl) (by simp) ?_
       refine AllReadyH.cons rfl (fun K hK=>?_) AllReadyH.nil
       go_simp
       refine (Htk.out _ hL2.drew).mono ?_
       rintro _ w3 ⟨⟨o3,c3,rfl,hB3,hbq⟩,hL3,hO3⟩
       have HX3:Hid (w3.heap[w.heap.size]?=some (.cells X 192 (0,0))):=(hO3.block _ (by omega)).trans HX2.out
       have hc3:w3.cell? ⟨b,o3,none⟩=some (.int .u8 (PZ:Int)):=one_cell hB3
       have HS3:Hid (Stand w3 g out):=by
        obtain ⟨cs,hC,h2,h3⟩:=HS2.out
        exact ⟨cs,(hO3.block _ (by omega)).trans hC,h2,h3⟩
       have Hb3:Hid (Below q w w3):=(below_drew Hb2.out).trans (hO3.below (Nat.le_refl _))
       have HL3:Hid (Lefts w3 q b r):=hL3
       clear HS2 HX2 Hb2 hL2 hB3 hO3 hL3
       refine hK.out _ _ (by exact HX3.out) (fun hHeld=>?_)
       clear hK K hne
       refine wpAnyH_strong (S':=fun w'=>w'.cell? ⟨b,o3,none⟩=some (.int .u8 (PZ:Int))∧w'.heap[w.heap.size]?=some (.cells X 192 (0,0))) (fun _ h=>h.2) ?_
       replace hHeld:w3.cell? ⟨b,o3,none⟩=some (.int .u8 (PZ:Int))∧w3.heap[w.heap.size]?=some (.cells X 192 (0,0)):=⟨hc3,HX3.out⟩
       have hne:Nonempty (Sub (fun w'=>w'.cell? ⟨b,o3,none⟩=some (.int .u8 (PZ:Int))∧w'.heap[w.heap.size]?=some (.cells X 192 (0,0)))):=⟨⟨_,hHeld⟩⟩
       have hcc:∀ s:Sub (fun w'=>w'.cell? ⟨b,o3,none⟩=some (.int .u8 (PZ:Int))∧w'.heap[w.heap.size]?=some (.cells X 192 (0,0))),s.w.cell? ⟨b,o3,none⟩=some (.int .u8 (PZ:Int)):=fun s=>s.ok.1
       refine take_step (i:=3) rfl (by kernel_rfl) (by kernel_rfl) (by kernel_rfl) (fun _ _ _ _ h=>h) (by exact hHeld) (fun K hK=>?_)
       go_simp;refine hK _ ?_;clear hK K
       refine take_step (i:=4) rfl (by kernel_rfl) (by kernel_rfl) (by kernel_rfl) (fun _ _ _ _ h=>h) (by exact hHeld) (fun K hK=>?_)
       go_simp;refine hK _ ?_;clear hK K
       refine take_step (i:=5) rfl (by kernel_rfl) (by kernel_rfl) (by kernel_rfl) (fun _ _ _ _ h=>h) (by exact hHeld) (fun K hK=>?_)
       go_simp;refine hK _ ?_;clear hK K
       refine wpAnyH_ready (rs:=[6]) (by kernel_rfl) (by simp) ?_
       refine AllReadyH.cons rfl (fun K hK=>?_) AllReadyH.nil
       go_simp
       refine (HKc.out _).mono ?_
       rintro _ w4 ⟨rfl,hb4⟩
       have h3s:=HL3.out.lt
       have h3g:g<w3.heap.size:=by
        obtain ⟨cs,hC,_⟩:=HS3.out
        exact hC.lt
       have h3p:w.heap.size<w3.heap.size:=(Array.getElem?_eq_some_iff.1 HX3.out).1
       have HX4:Hid (w4.heap[w.heap.size]?=some (.cells X 192 (0,0))):=(hb4.block _ h3p).trans HX3.out
       have HS4:Hid (Stand w4 g out):=by
        obtain ⟨cs,hC,h2,h3⟩:=HS3.out
        exact ⟨cs,hC.below hb4 h3g,h2,h3⟩
       have Hb4:Hid (Below q w w4):=Hb3.out.trans (hb4.mono (by omega))
       have HL4:Hid (Lefts w4 q b r):=HL3.out.below hb4 h3s
       have hc4:w4.cell? ⟨b,o3,none⟩=some (.int .u8 (PZ:Int)):=by
        unfold World.cell? at hc3 ⊢
        rw [hb4.block b (by omega)]
        exact hc3
       clear HX3 HS3 Hb3 HL3 hb4 h3s h3g h3p hc3
       refine hK.out _ _ ⟨hc4,HX4.out⟩ (fun hHeld=>?_)
       clear hK K
       refine take_step (i:=7) rfl (by kernel_rfl) (by kernel_rfl) (by kernel_rfl) (fun _ _ _ _ h=>h) (by exact hHeld) (fun K hK=>?_)
       go_simp
       refine hK _ ?_
       clear hK K hne hcc hHeld hc4
       refine wpAnyH_done (by kernel_rfl) ?_ _
       have HGN:Hid (1<=G∧A+G<=32768):=by have:=HG.out;have:=HNd.out;exact ⟨by omega,by omega⟩
       have HE2:Hid (runsD l 32768 bs=comb (out++List.replicate G x) (runsD l (32768-(out++List.replicate G x).length) r)):=by
        show _=_
        rw [HE.out,List.length_append,List.length_replicate,HA.out,show 32768-(A+G)=Nd-G by have:=HNd.out;omega]
       have HAG:Hid ((out++List.replicate G x).length=A+G):=by show _=_;rw [List.length_append,List.length_replicate,HA.out]
       have hA1:(A:Int)<=32767:=by omega
       have hG1:(G:Int)<=32768:=by have:=HGN.out;omega
       clear HE HG HNd HKc Hneed Hne hNd hwr hp0 hp1 Htk HF HT HP hA hlt
       go_wp2
       go_loopw [24] (fun v24 wr=>∃ (N:Nat),N<=G∧v24 = .int .i64 (N:Int)∧Hid (Stand wr g (out++List.replicate N x))∧Hid (Lefts wr q b r)∧Hid (wr.heap[w.heap.size]?=some (.cells X 192 (0,0)))∧Hid (Below q w wr)) (fun v _=>G-(intOf v).toNat)
       case atStart=>exact ⟨0,Nat.zero_le _,rfl,(show Stand _ _ _ by simpa using HS4.out),HL4,HX4,Hb4⟩
       case round =>
        obtain ⟨N,hN,rfl,HS5,HL5,HX5,Hb5⟩:=hrel
        clear HS4 HL4 HX4 Hb4
        by_cases hlt2:N<G
        ·have hlt2':(N:Int)<G:=by omega
         obtain ⟨cs,hC,hcl,htk⟩:=HS5.out
         have hlen:(out++List.replicate N x).length=A+N:=by rw [List.length_append,List.length_replicate,HA.out]
         rw [hlen] at htk
         have HSet:Hid (Calls Tryz.prog 136 #[.pointer (some ⟨g,0,none⟩),.int .i64 ((A:Int)+(N:Int)),.int .i64 x] wr fun e w'=>e = .returned (.bool (okSet ((A:Int)+(N:Int)) x))∧Stand w' g (out++List.replicate (N+1) x)∧Only g wr w'):=by
          refine (set_c g cs ((A:Int)+(N:Int)) x wr hC hcl).mono ?_
          rintro e w' ⟨h1,h2,h3⟩
          refine ⟨h1,?_,h3⟩
          rw [List.replicate_succ',<- List.append_assoc]
          exact Stand.set hcl hlen htk (by have:=HGN.out;omega) h2 HKx.out
         have hAN:(A:Int)+(N:Int)<=32767:=by have:=HGN.out;omega
         clear hC hcl htk hlen HS5
         go_wp2_with fail
         refine HSet.out.mono ?_
         clear HSet
         rintro _ w6 ⟨rfl,hS6,hO6⟩
         have HL6:Hid (Lefts w6 q b r):=HL5.out.only hO6 hqg
         have HX6:Hid (w6.heap[w.heap.size]?=some (.cells X 192 (0,0))):=(hO6.block _ (by omega)).trans HX5.out
         have Hb6:Hid (Below q w w6):=Hb5.out.trans (hO6.below (by omega))
         have HS6:Hid (Stand w6 g (out++List.replicate (N+1) x)):=hS6
         clear hS6 hO6 HL5 HX5 Hb5
         go_wp2
         go_roundw
         case rel=>exact ⟨N+1,by omega,by go_num,HS6,HL6,HX6,Hb6⟩
         case measure=>simp [intOf];omega
        ·obtain rfl:N=G:=by omega
         have hlt2':¬ (N:Int)<N:=by omega
         have hAN:(A:Int)+(N:Int)<=32768:=by have:=HGN.out;omega
         go_wp2
         go_roundw
         case rel=>exact ⟨A+N,out++List.replicate N x,r,HGN.out.2,by go_num,HAG,HE2,HS5,HL5,HX5,Hb5⟩
         case measure =>
          have:=HGN.out
          simp [intOf]
          omega
  ·obtain rfl:A=32768:=by omega
   have hlt':¬ (32768:Int)<32768:=by omega
   obtain ⟨cs,hC,hcl,htk⟩:=HS.out
   have R:Post (.returned (.tuple #[])) wr:=by
    rw [HP.out]
    refine HT.out wr out rest HA.out ?_ ?_ HL.out Hb.out
    ·rw [HC.out,HA.out]
    ·rw [HA.out,List.take_of_length_le (by omega)] at htk
     rw [<- htk];exact hC
   clear HF HT HP HC HS HL HXr Hb HX hC hcl htk
   go_wp2
   go_end0
   exact R
theorem digsW_get (w:Nat):∀ (k:Nat) (v:Int) (j:Nat),j<k->(digsW w k v).getD j 0=v/2 ^ (w*j)%2 ^ w
 | k+1,v,0,_=>by simp [digsW]
 | k+1,v,j+1,h=>by
   have:=digsW_get w k (v/2 ^ w) j (by omega)
   rw [digsW,List.getD_cons_succ,this,Int.ediv_ediv_of_nonneg (Int.le_of_lt (Int.pow_pos (by omega))),<- Int.pow_add,show w+w*j=w*(j+1) by rw [Nat.mul_add];omega]
theorem spread_get (w m:Nat) (hm:0<m) (bs:List Int) (i:Nat) (h:i/m<bs.length):(spread w m bs).getD i 0=bs.getD (i/m) 0/2 ^ (w*(i%m))%2 ^ w:=by
 have h1:=spread_byte w m bs (i/m) h
 have h2:=digsW_get w m bs[i/m] (i%m) (Nat.mod_lt _ hm)
 rw [List.getD_eq_getElem?_getD (l:=bs),List.getElem?_eq_getElem h,Option.getD_some,<- h2,h1]
 simp only [List.getD_eq_getElem?_getD,List.getElem?_take,List.getElem?_drop]
 rw [if_pos (Nat.mod_lt _ hm),Nat.div_add_mod' i m]
theorem and_low (x:Int) (w:Nat) (h0:0<=x) (h1:x<9223372036854775808) (hw:w<63):bits .and .i64 x (2 ^ w-1)=x%2 ^ w:=by
 obtain ⟨X,rfl⟩:=Int.eq_ofNat_of_zero_le h0
 have hp:0<2 ^ w:=Nat.pow_pos (by omega)
 have hw2:2 ^ w<=2 ^ 62:=Nat.pow_le_pow_right (by omega) (by omega)
 have e:((2:Int) ^ w-1)=((2 ^ w-1:Nat):Int):=by
  rw [Int.ofNat_sub (by omega)]
  simp
 have hx:X &&& (2 ^ w-1)<2 ^ 62:=by rw [Nat.and_two_pow_sub_one_eq_mod];exact Nat.lt_of_lt_of_le (Nat.mod_lt _ hp) hw2
 rw [e]
 show IntKind.i64.wrap ((BitVec.ofInt 64 (X:Int) &&& BitVec.ofInt 64 ((2 ^ w-1:Nat):Int)).toNat:Int)=_
 rw [BitVec.toNat_and,ofInt_u64 X (by omega),ofInt_u64 _ (by omega)]
 have h3:IntKind.i64.wrap ((X &&& (2 ^ w-1):Nat):Int)=((X &&& (2 ^ w-1):Nat):Int):=by
  rw [IntKind.wrap_i64];omega
 rw [h3,Nat.and_two_pow_sub_one_eq_mod]
 simp
def ReadSay (D:Int×List Int) (q b g:Nat) (w:World) (e:Ending) (w':World):Prop :=
 Below q w w'∧((∃ E:Int,E≠0∧D=(E,[])∧e=gives E)∨(∃ out rest,out.length=32768∧D=(if rest=[] then (0,out) else (2,[]))∧e = .returned (.tuple #[])∧Blk w' g 122 out∧Lefts w' q b rest))
theorem RunsSay.read {l bs:List Int} {q b g:Nat} {w:World} {e:Ending} {w':World} (h:RunsSay l bs q b g w e w'):ReadSay (runsD l 32768 bs) q b g w e w':=by
 obtain ⟨h1,h2 | ⟨out,rest,h2,h3,h4,h5,h6⟩⟩:=h
 ·exact ⟨h1,Or.inl h2⟩
 ·refine ⟨h1,Or.inr ⟨out,rest,h2,?_,h4,h5,h6⟩⟩
  rw [h3,runsD_done]
  by_cases e:rest=[]
  ·rw [if_pos e,if_pos e];unfold comb;rw [if_pos rfl,List.append_nil]
  ·rw [if_neg e,if_neg e];rfl
end Go.Proofs.YtlllmmceoeihkaaGreat.K
namespace Go.Proofs.YtlllmmceoeihkaaGreat.K
open Go.RowKit
theorem sp_get {W m:Nat} {bs:List Int} (hm:0<m) {I:Nat} (h:I/m<bs.length) {i s:Nat} (hi:I/m=i) (hs:W*(I%m)=s):(spread W m bs).getD I 0=bs.getD i 0/2 ^ s%2 ^ W:=by
 rw [spread_get W m hm bs I h,hi,hs]
theorem take_map_succ (f:Int->Int) (sp:List Int) (I:Nat) (h:I<sp.length):(sp.take (I+1)).map f=(sp.take I).map f++[f (sp.getD I 0)]:=by
 rw [List.take_add_one,List.map_append,List.getD_eq_getElem?_getD,List.getElem?_eq_getElem h]
 rfl
def WmN (W m M:Nat):Prop:=(W=1∧m=8∧M=4096)∨(W=2∧m=4∧M=8192)∨(W=4∧m=2∧M=16384)∨(W=8∧m=1∧M=32768)
theorem WmN.at_ {W m M:Nat} (h:WmN W m M) {I:Nat} (hI:I<32768):0<m∧I/m<M∧I/m=I*W/8∧W*(I%m)=I*W%8∧I*W<=1000000:=by
 rcases h with ⟨rfl,rfl,rfl⟩|⟨rfl,rfl,rfl⟩|⟨rfl,rfl,rfl⟩|⟨rfl,rfl,rfl⟩ <;> omega
set_option maxRecDepth 1000000 in
set_option maxHeartbeats 2000000 in
theorem dpacked_g {W m M:Nat} (hd:WmN W m M) (q b g:Nat) (X:Array Value) (l bs Z:List Int) (w:World) (hL:Lefts w q b bs) (hX:IsPal X l) (hn:l.length<=17) (hk:AreKinds l) (hG:Blk w g 122 Z) (hZ:Z.length=32768) (hqg:q<g) (hW:wid l.length=W) :
  Calls Tryz.prog 112 #[.pointer (some ⟨q,0,none⟩),.agg X,.pointer (some ⟨g,0,none⟩)] w (ReadSay (packD l W bs) q b g w):=by
 have hq:=hL.lt
 have hg:=hG.lt
 have hXs:=hX.size
 have HX:Hid (IsPal X l):=hX
 have HF:Hid (∀ (E:Int) w',E≠0->packD l W bs=(E,[])->Below q w w'->ReadSay (packD l W bs) q b g w (gives E) w'):=fun E w' h1 h2 h3=>⟨h3,Or.inl ⟨E,h1,h2,rfl⟩⟩
 have HT:Hid (∀ w' out rest,out.length=32768->packD l W bs=(if rest=[] then (0,out) else (2,[]))->Blk w' g 122 out->Lefts w' q b rest->Below q w w'->ReadSay (packD l W bs) q b g w (.returned (.tuple #[])) w'):=fun w' out rest h1 h2 h3 h4 h5=>⟨h5,Or.inr ⟨out,rest,h1,h2,rfl,h3,h4⟩⟩
 obtain ⟨Post,hPost⟩:∃ Post,Post=ReadSay (packD l W bs) q b g w:=⟨_,rfl⟩
 rw [<- hPost]
 have HP:Hid (Post=ReadSay (packD l W bs) q b g w):=hPost
 clear hPost
 have Hw1:Hid (Below w.heap.size w (w.alloc (.cells X 192))):=(Below.refl _ _).alloc (Nat.le_refl _) _
 have hsz:=World.size_alloc w (.cells X 192)
 have HWc:Hid (Calls Tryz.prog 116 #[.agg X] (w.alloc (.cells X 192)) fun e w'=>e = .returned (.int .i64 (W:Int))∧Below (w.heap.size+1) (w.alloc (.cells X 192)) w'):=by
  have:=width_c X l (w.alloc (.cells X 192)) hX hn
  rw [hW,hsz] at this
  exact this
 have HS0:Hid (Stand (w.alloc (.cells X 192)) g ([]:List Int)):=⟨Z,hG.below Hw1.out hg,hZ,rfl⟩
 have HL0:Hid (Lefts (w.alloc (.cells X 192)) q b bs):=hL.below Hw1.out hq
 have HB0:Hid (Below q w (w.alloc (.cells X 192))):=Hw1.out.mono (Nat.le_of_lt hq)
 clear hL hX hG hZ Hw1 hsz hW
 go_enter Tryz.func112,Tryz.ntmps112
 go_wp2_with (refine wpList_load_pal rfl (.tmp 4) rfl w.heap.size X rfl (heap_alloc_new w _) hXs ?_)
 refine HWc.out.mono ?_
 clear HWc
 rintro _ w2 ⟨rfl,hb2⟩
 have HX2:Hid (w2.heap[w.heap.size]?=some (.cells X 192 (0,0))):=(hb2.block _ (by omega)).trans (heap_alloc_new w _)
 have HS2:Hid (Stand w2 g ([]:List Int)):=by
  obtain ⟨cs,hC,h2,h3⟩:=HS0.out
  exact ⟨cs,hC.below hb2 (by omega),h2,h3⟩
 have HL2:Hid (Lefts w2 q b bs):=HL0.out.below hb2 (by omega)
 have Hb2:Hid (Below q w w2):=HB0.out.trans (hb2.mono (by omega))
 clear HS0 HL0 HB0 hb2
 have hs:=size_c W w2 (by rcases hd with ⟨h,_⟩|⟨h,_⟩|⟨h,_⟩|⟨h,_⟩ <;> omega)
 have hM4:4096*W=M:=by rcases hd with ⟨h,_,h'⟩|⟨h,_,h'⟩|⟨h,_,h'⟩|⟨h,_,h'⟩ <;> omega
 have hM5:M<=32768:=by rcases hd with ⟨_,_,h⟩|⟨_,_,h⟩|⟨_,_,h⟩|⟨_,_,h⟩ <;> omega
 have hW8:W<=8:=by omega
 have hM1:1<=M:=by rcases hd with ⟨_,_,h⟩|⟨_,_,h⟩|⟨_,_,h⟩|⟨_,_,h⟩ <;> omega
 have hMm:M*m=32768:=by rcases hd with ⟨_,h,h'⟩|⟨_,h,h'⟩|⟨_,h,h'⟩|⟨_,h,h'⟩ <;> rw [h,h']
 have hm8:8/W=m:=by rcases hd with ⟨h,h',_⟩|⟨h,h',_⟩|⟨h,h',_⟩|⟨h,h',_⟩ <;> rw [h,h']
 have hW1:1<=W:=by omega
 rw [hM4] at hs
 go_wp2_with fail
 refine hs.mono ?_
 clear hs
 rintro _ w9 ⟨rfl,e9⟩
 rw [e9]
 clear e9 w9
 by_cases hlen:bs.length<M
 ·have R:Post (gives 3) w2:=by rw [HP.out];exact HF.out 3 w2 (by omega) (packD_short (by omega)) Hb2.out
  have HTk:Hid (Calls Tryz.prog 108 #[.pointer (some ⟨q,0,none⟩),.int .i64 (M:Int)] w2 fun e w'=>e=gives 3∧w'=w2):=ltake_no q b M bs w2 HL2.out hlen
  clear HF HT HP HX2 HS2 HL2 Hb2
  go_wp2_with fail
  refine HTk.out.mono ?_
  rintro _ _ ⟨rfl,rfl⟩
  go_wp2
  exact ⟨rfl,R⟩
 ·have HTk:Hid (Calls Tryz.prog 108 #[.pointer (some ⟨q,0,none⟩),.int .i64 (M:Int)] w2 fun e w'=>(∃ off c,e = .returned (.slice (some ⟨b,off,none⟩) M c)∧Bytes w' (some ⟨b,off,none⟩) M (bs.take M)∧b<q)∧Lefts w' q b (bs.drop M)∧Only q w2 w'):=ltake_yes q b M bs w2 HL2.out (by omega) (by omega)
  obtain ⟨sp,hsp⟩:∃ sp,sp=spread W m (bs.take M):=⟨_,rfl⟩
  have htl:(bs.take M).length=M:=by rw [List.length_take];omega
  have HSl:Hid (sp.length=32768):=by show _=_;rw [hsp,spread_len,htl,hMm]
  have HSg:Hid (∀ I,I<32768->I*W/8<M∧I*W<=1000000∧sp.getD I 0=(bs.take M).getD (I*W/8) 0/2 ^ (I*W%8)%2 ^ W):=fun I hI=>by
   obtain ⟨h0,h1,h2,h3,h4⟩:=hd.at_ hI
   rw [hsp]
   exact ⟨by omega,h4,sp_get h0 (by rw [htl];exact h1) h2 h3⟩
  have HF4:Hid (∀ p∈sp,(l.length:Int)<=p->packD l W bs=(4,[])):=fun p hp h=>packD_bad (w:=W) (by rcases hd with ⟨h,_⟩|⟨h,_⟩|⟨h,_⟩|⟨h,_⟩ <;> omega) (by rw [hm8,hM4,<- hsp];exact hp) h
  have HE:Hid ((∀ p∈sp,p<(l.length:Int))->packD l W bs=if bs.drop M=[] then (0,sp.map fun p=>l.getD p.toNat 0) else (2,[])):=fun h=>by
   rw [packD_end (w:=W) (by rcases hd with ⟨h,_⟩|⟨h,_⟩|⟨h,_⟩|⟨h,_⟩ <;> omega) (by rw [hm8,hM4,<- hsp];exact h),hm8,hM4,<- hsp]
   by_cases e:bs.drop M=[]
   ·rw [if_pos e,if_neg (by rw [List.drop_eq_nil_iff] at e;omega)]
   ·rw [if_neg e,if_pos (by rw [List.drop_eq_nil_iff] at e;omega)]
  clear hsp htl hlen HL2 hd hM4 hMm hm8 hM1
  go_wp2_with fail
  refine HTk.out.mono ?_
  clear HTk
  rintro _ w3 ⟨⟨o3,c3,rfl,hB3,hbq⟩,hL3,hO3⟩
  have HB3:Hid (Bytes w3 (some ⟨b,o3,none⟩) M (bs.take M)):=hB3
  have HL3:Hid (Lefts w3 q b (bs.drop M)):=hL3
  have HX3:Hid (w3.heap[w.heap.size]?=some (.cells X 192 (0,0))):=(hO3.block _ (by omega)).trans HX2.out
  have HS3:Hid (Stand w3 g ([]:List Int)):=by
   obtain ⟨cs,hC,h2,h3⟩:=HS2.out
   exact ⟨cs,hC.only hO3 (by omega),h2,h3⟩
  have Hb3:Hid (Below q w w3):=Hb2.out.trans (hO3.below (Nat.le_refl _))
  clear hB3 hL3 hO3 HX2 HS2 Hb2
  go_wp2
  go_loopw [17] (fun v17 wr=>∃ (I:Nat),I<=32768∧v17 = .int .i64 (I:Int)∧Hid (Stand wr g ((sp.take I).map fun p=>l.getD p.toNat 0))∧Hid (Lefts wr q b (bs.drop M))∧Hid (wr.heap[w.heap.size]?=some (.cells X 192 (0,0)))∧Hid (Below q w wr)∧Hid (Bytes wr (some ⟨b,o3,none⟩) M (bs.take M))∧Hid (∀ p∈sp.take I,p<(l.length:Int))) (fun v _=>32768-(intOf v).toNat)
  case atStart=>exact ⟨0,by omega,rfl,HS3,HL3,HX3,Hb3,HB3,fun p hp=>by simp at hp⟩
  case round =>
   obtain ⟨I,hI,rfl,HS,HL,HXr,Hb,HB,HA⟩:=hrel
   clear HS3 HL3 HX3 Hb3 HB3
   by_cases hlt:I<32768
   ·have hlt':(I:Int)<32768:=by omega
    obtain ⟨hJ,hA2,hsg⟩:=HSg.out I hlt
    obtain ⟨A,HAe⟩:∃ A:Nat,Hid (A=I*W):=⟨_,rfl⟩
    have hA:(I:Int)*(W:Int)=(A:Int):=by rw [HAe.out];simp
    rw [<- HAe.out] at hJ hA2 hsg
    obtain ⟨J,HJ⟩:∃ J:Nat,Hid (J=A/8):=⟨_,rfl⟩
    obtain ⟨T,HT8⟩:∃ T:Nat,Hid (T=A%8):=⟨_,rfl⟩
    have hq1:(A:Int)/8=(J:Int):=by rw [HJ.out];omega
    have hr1:(A:Int).tmod 8=(T:Int):=by rw [HT8.out,Int.tmod_eq_emod_of_nonneg (by omega)];omega
    have hT7:T<=7:=by rw [HT8.out];omega
    rw [<- HJ.out] at hJ hsg
    rw [<- HT8.out] at hsg
    have hJi:(J:Int)<(M:Int):=by omega
    obtain ⟨b4,o4,x,e1,cx,x0,x1,hJl,hx⟩:=HB.out.get J hJ
    cases e1
    have hxe:x=(bs.take M).getD (J) 0:=by rw [List.getD_eq_getElem?_getD,List.getElem?_eq_getElem hJl,hx];rfl
    have hd0:(0:Int)<=x/2 ^ (T)∧x/2 ^ (T)<=255:=⟨Int.ediv_nonneg x0 (Int.le_of_lt (Int.pow_pos (by omega))),Int.le_trans (Int.ediv_le_self _ x0) x1⟩
    have hQw:(2:Int) ^ W=((2 ^ W:Nat):Int):=by rw [Int.natCast_pow];rfl
    have hQb:1<=2 ^ W∧2 ^ W<=256:=⟨Nat.pow_pos (by omega),Nat.le_trans (Nat.pow_le_pow_right (by omega) hW8) (by omega)⟩
    have hand:bits .and .i64 (x/2 ^ T) (2 ^ W-1)=(x/2 ^ T)%2 ^ W:=and_low _ W hd0.1 (by omega) (by omega)
    rw [hQw] at hand hsg
    obtain ⟨Q,HQ⟩:∃ Q:Nat,Hid (Q=2 ^ W):=⟨_,rfl⟩
    rw [<- HQ.out] at hand hsg hQb
    have hQs:(2:Int) ^ W=(Q:Int):=by rw [hQw,HQ.out]
    rw [<- hxe] at hsg
    obtain ⟨P,hP⟩:=Int.eq_ofNat_of_zero_le (Int.emod_nonneg (x/2 ^ (T)) (show (Q:Int)≠0 by omega))
    rw [hP] at hand
    have Hs:Hid (sp.getD I 0=(P:Int)):=by
     show _=_
     rw [hsg,<- hP]
    have HPb:Hid ((P:Int)<=255):=by
     have:=Int.emod_lt_of_pos (x/2 ^ (T)) (show (0:Int)<(Q:Int) by omega)
     show (P:Int)<=255
     omega
    clear hx hJl hxe hsg hP hd0 hQw hJ
    by_cases hfar:l.length<=P
    ·have HR:Hid (∀ w',Below q w w'->Post (gives 4) w'):=fun w' h=>by
      rw [HP.out]
      exact HF.out 4 w' (by omega) (HF4.out (P:Int) (by rw [<- Hs.out];exact getD_mem (by rw [HSl.out];exact hlt)) (by omega)) h
     have hL:=HL.out.lt
     have HK:Hid (∀ w,Calls Tryz.prog 135 #[.agg X,.int .i64 (P:Int)] w fun e w'=>e=gives 4∧Below w.heap.size w w'):=fun w=>kind_no X l P w HX.out (by omega)
     have HqL:Hid (q<wr.heap.size):=hL
     clear HF HT HP HF4 HE HS HB HA HX Hs HPb hL
     go_wp2_with fail
     go_big_quiet (fail)
     go_wp2_with (refine wpList_load_pal rfl (.tmp 4) rfl w.heap.size X rfl (by exact HXr.out) hXs ?_)
     refine (HK.out _).mono ?_
     clear HK
     rintro _ w5 ⟨rfl,hb5⟩
     have R:=HR.out w5 ((below_drewN Hb.out _).trans (hb5.mono (Nat.le_of_lt HqL.out)))
     clear HR hb5
     go_wp2
     exact ⟨rfl,R⟩
    ·have hPl:P<l.length:=by omega
     have HKx:Hid (0<=l.getD P 0∧l.getD P 0<=16):=hk _ (getD_mem hPl)
     have HK:Hid (∀ w,Calls Tryz.prog 135 #[.agg X,.int .i64 (P:Int)] w fun e w'=>e = .returned (.int .i64 (l.getD P 0))∧Below w.heap.size w w'):=fun w=>kind_yes X l P w HX.out hn hPl ⟨HKx.out.1,by have:=HKx.out.2;omega⟩
     have HA2:Hid (∀ p∈sp.take (I+1),p<(l.length:Int)):=fun p hp=>by
      rw [List.take_add_one,List.mem_append] at hp
      rcases hp with hp | hp
      ·exact HA.out p hp
      ·have hI2:I<sp.length:=by rw [HSl.out];exact hlt
       have h3:=Hs.out
       rw [List.getD_eq_getElem?_getD,List.getElem?_eq_getElem hI2,Option.getD_some] at h3
       rw [List.getElem?_eq_getElem hI2,Option.toList_some,List.mem_singleton,h3] at hp
       omega
     have HM:Hid ((sp.take (I+1)).map (fun p=>l.getD p.toNat 0)=(sp.take I).map (fun p=>l.getD p.toNat 0)++[l.getD P 0]):=by
      show _=_
      rw [take_map_succ _ sp I (by rw [HSl.out];exact hlt),Hs.out,Int.toNat_natCast]
     have HML:Hid (((sp.take I).map (fun p=>l.getD p.toNat 0)).length=I):=by show _=_;rw [List.length_map,List.length_take,HSl.out];omega
     obtain ⟨y,hy⟩:∃ y,y=l.getD P 0:=⟨_,rfl⟩
     rw [<- hy] at HKx HK HM
     clear hy hfar hPl Hs HA
     have HLl:Hid (q<wr.heap.size):=HL.out.lt
     have HXl:Hid (w.heap.size<wr.heap.size):=(Array.getElem?_eq_some_iff.1 HXr.out).1
     go_wp2_with fail
     go_big_quiet (fail)
     go_wp2_with (refine wpList_load_pal rfl (.tmp 4) rfl w.heap.size X rfl (by exact HXr.out) hXs ?_)
     refine (HK.out _).mono ?_
     clear HK
     rintro _ w5 ⟨rfl,hb5⟩
     have hb5':Below wr.heap.size wr w5:=⟨hb5.os,hb5.tape,hb5.output,hb5.size,hb5.block⟩
     have hqr:=HLl.out
     have hgr:g<wr.heap.size:=by
      obtain ⟨cs,hC,_⟩:=HS.out
      exact hC.lt
     have HX5:Hid (w5.heap[w.heap.size]?=some (.cells X 192 (0,0))):=(hb5'.block _ HXl.out).trans HXr.out
     have HS5:Hid (Stand w5 g ((sp.take I).map fun p=>l.getD p.toNat 0)):=by
      obtain ⟨cs,hC,h2,h3⟩:=HS.out
      exact ⟨cs,hC.below hb5' hgr,h2,h3⟩
     have HL5:Hid (Lefts w5 q b (bs.drop M)):=HL.out.below hb5' hqr
     have Hb5:Hid (Below q w w5):=Hb.out.trans (hb5'.mono (Nat.le_of_lt hqr))
     have HB5:Hid (Bytes w5 (some ⟨b,o3,none⟩) M (bs.take M)):=HB.out.under hb5' (by omega)
     clear hb5 hb5' HX HS HL Hb HB HXr hqr hgr HLl HXl
     have HSet:Hid (Calls Tryz.prog 136 #[.pointer (some ⟨g,0,none⟩),.int .i64 (I:Int),.int .i64 y] w5 fun e w'=>e = .returned (.bool (okSet (I:Int) y))∧Stand w' g ((sp.take (I+1)).map fun p=>l.getD p.toNat 0)∧Only g w5 w'):=by
      obtain ⟨cs,hC,h2,h3⟩:=HS5.out
      rw [HML.out] at h3
      refine (set_c g cs (I:Int) y w5 hC h2).mono ?_
      rintro e w' ⟨h4,h5,h6⟩
      refine ⟨h4,?_,h6⟩
      rw [HM.out]
      exact Stand.set (A:=I) (N:=0) h2 HML.out h3 (by omega) (by simpa using h5) HKx.out
     clear HS5
     go_wp2_with fail
     refine HSet.out.mono ?_
     clear HSet
     rintro _ w6 ⟨rfl,hS6,hO6⟩
     have HS6:Hid (Stand w6 g ((sp.take (I+1)).map fun p=>l.getD p.toNat 0)):=hS6
     have HL6:Hid (Lefts w6 q b (bs.drop M)):=HL5.out.only hO6 hqg
     have HX6:Hid (w6.heap[w.heap.size]?=some (.cells X 192 (0,0))):=(hO6.block _ (by omega)).trans HX5.out
     have Hb6:Hid (Below q w w6):=Hb5.out.trans (hO6.below (by omega))
     have HB6:Hid (Bytes w6 (some ⟨b,o3,none⟩) M (bs.take M)):=HB5.out.under (hO6.below (Nat.le_refl _)) (by omega)
     clear hS6 hO6 HL5 HX5 Hb5 HB5
     go_wp2
     go_roundw
     case rel=>exact ⟨I+1,by omega,by go_num,HS6,HL6,HX6,Hb6,HB6,HA2⟩
     case measure=>simp [intOf];omega
   ·obtain rfl:I=32768:=by omega
    have hlt':¬ (32768:Int)<32768:=by omega
    obtain ⟨cs,hC,hcl,htk⟩:=HS.out
    have htake:sp.take 32768=sp:=List.take_of_length_le (Nat.le_of_eq HSl.out)
    have R:Post (.returned (.tuple #[])) wr:=by
     rw [HP.out]
     have ha:=HA.out
     rw [htake] at ha htk
     rw [List.length_map,HSl.out,List.take_of_length_le (by omega)] at htk
     refine HT.out wr cs (bs.drop M) hcl ?_ hC HL.out Hb.out
     rw [HE.out ha,htk]
    clear HF HT HP HF4 HE HS HL HXr Hb HX hC hcl htk HA HB htake
    go_wp2
    go_end0
    exact R
theorem dpacked_c (q b g:Nat) (X:Array Value) (l bs Z:List Int) (w:World) (hL:Lefts w q b bs) (hX:IsPal X l) (hn:l.length<=17) (hk:AreKinds l) (hG:Blk w g 122 Z) (hZ:Z.length=32768) (hqg:q<g) :
  Calls Tryz.prog 112 #[.pointer (some ⟨q,0,none⟩),.agg X,.pointer (some ⟨g,0,none⟩)] w (ReadSay (packD l (wid l.length) bs) q b g w):=by
 have hd:WmN (wid l.length) (8/wid l.length) (4096*wid l.length):=by
  rcases wid_is l.length with h | h | h | h <;> rw [h] <;> unfold WmN <;> omega
 exact dpacked_g hd q b g X l bs Z w hL hX hn hk hG hZ hqg rfl
end Go.Proofs.YtlllmmceoeihkaaGreat.K
namespace Go.Proofs.YtlllmmceoeihkaaGreat.K
open Go.RowKit
theorem IsPal.one {X:Array Value} {l:List Int} (h:IsPal X l):X.all (·.oneCell')=true:=by
 rw [Array.all_eq_true_iff_forall_mem]
 intro v hv
 obtain ⟨i,hi,rfl⟩:=Array.mem_iff_getElem.1 hv
 have hs:=h.size
 by_cases e:i=17
 ·subst e
  have:=h.many
  rw [Array.getElem?_eq_getElem hi] at this
  rw [Option.some.inj this]
  rfl
 ·have:=h.kinds i (by omega)
  rw [Array.getElem?_eq_getElem hi] at this
  rw [Option.some.inj this]
  rfl
def ChunkSay (D:Int×List Int) (q:Nat) (w:World) (e:Ending) (w':World):Prop :=
 Below q w w'∧((D.1≠0∧e=gives D.1)∨(D.1=0∧∃ g,q<g∧e = .returned (.pointer (some ⟨g,0,none⟩))∧Blk w' g 122 D.2))
theorem tail_say {D:Int×List Int} {q b g:Nat} {w w1 w2:World} {e:Ending} (hb:Below q w w1) (h:ReadSay D q b g w1 e w2) :
  (∃ E:Int,e=gives E∧∀ w',Below q w w'->ChunkSay D q w (gives E) w')∧Below q w w2 ∨
  (e = .returned (.tuple #[])∧Below q w w2∧∃ rest,Lefts w2 q b rest∧(rest≠[]->∀ w',Below q w w'->ChunkSay D q w (gives 2) w')∧(rest=[]->q<g->ChunkSay D q w (.returned (.pointer (some ⟨g,0,none⟩))) w2)):=by
 obtain ⟨h1,⟨E,h2,h3,h4⟩|⟨out,rest,h2,h3,h4,h5,h6⟩⟩:=h
 ·refine Or.inl ⟨⟨E,h4,fun w' hw=>⟨hw,Or.inl ?_⟩⟩,hb.trans h1⟩
  rw [h3]
  exact ⟨h2,rfl⟩
 ·refine Or.inr ⟨h4,hb.trans h1,rest,h6,fun hr w' hw=>⟨hw,Or.inl ?_⟩,fun hr hq=>⟨hb.trans h1,Or.inr ?_⟩⟩
  ·rw [h3,if_neg hr];exact ⟨by show (2:Int)≠0;omega,rfl⟩
  ·rw [h3,if_pos hr];exact ⟨rfl,g,hq,rfl,h5⟩
theorem Lefts.drewN {w:World} {q b:Nat} {bs:List Int} (h:Lefts w q b bs) (n:Nat):Lefts (w.drewN n) q b bs:=by
 obtain ⟨off,k,c,h1,h2,h3,h4,h5⟩:=h
 exact ⟨off,k,c,h1,⟨h2.n,h2.cells,h2.fit⟩,h3,h4,h5⟩
set_option maxRecDepth 1000000 in
set_option maxHeartbeats 2000000 in
theorem dchunk_short (q:Nat) (a:Option Addr) (n c:Nat) (bs:List Int) (w:World) (hR:Rdr w q a n c) (hB:Bytes w a n bs) (h:n<2):Calls Tryz.prog 84 #[.pointer (some ⟨q,0,none⟩)] w (ChunkSay (decL bs) q w):=by
 have hl:=hB.n
 have R:ChunkSay (decL bs) q w (gives 3) w:=by
  have e:decL bs=(3,[]):=by unfold decL;rw [if_pos (by omega)]
  rw [e]
  exact ⟨Below.refl _ _,Or.inl ⟨by show (3:Int)≠0;omega,rfl⟩⟩
 have hT:=take_no q a n c 2 w hR h
 clear hR hB hl
 generalize ChunkSay (decL bs) q w=Post at *
 go_enter Tryz.func84,Tryz.ntmps84
 go_wp2_with fail
 refine hT.mono ?_
 rintro _ _ ⟨rfl,rfl⟩
 go_wp2
 exact ⟨rfl,R⟩
set_option maxRecDepth 1000000 in
set_option maxHeartbeats 2000000 in
theorem dchunk_c (q b:Nat) (bs:List Int) (w:World) (hL:Lefts w q b bs) (hn:2<=bs.length):Calls Tryz.prog 84 #[.pointer (some ⟨q,0,none⟩)] w (ChunkSay (decL bs) q w):=by
 obtain ⟨D,hD⟩:∃ D,D=decL bs:=⟨_,rfl⟩
 rw [<- hD]
 have hfit:∀ z∈bs,0<=z∧z<=255:=by
  obtain ⟨_,_,_,_,hB,_⟩:=hL
  exact hB.fit
 obtain ⟨f,hf⟩:∃ f,f=bs.getD 0 0:=⟨_,rfl⟩
 obtain ⟨K,hK⟩:=Int.eq_ofNat_of_zero_le (hfit _ (getD_mem (l:=bs) (i:=1) (by omega))).1
 have hf0:=hfit _ (getD_mem (l:=bs) (i:=0) (by omega))
 rw [<- hf] at hf0
 have hK1:=hfit _ (getD_mem (l:=bs) (i:=1) (by omega))
 rw [hK] at hK1
 have HD:Hid (D=if (f≠1∧f≠2)∨(K:Int)<1∨17<(K:Int) then (4,[]) else if (bs.length:Int)<2+K then (3,[]) else if okPal ((bs.drop 2).take K)=false then (4,[])
   else if f=1 then runsD ((bs.drop 2).take K) 32768 (bs.drop (2+K)) else packD ((bs.drop 2).take K) (wid K) (bs.drop (2+K))):=by
  show _=_
  rw [hD]
  unfold decL
  rw [if_neg (by omega),<- hf,hK,Int.toNat_natCast]
 have Hfit:Hid (∀ z∈bs,0<=z∧z<=255):=hfit
 have HTk:Hid (Calls Tryz.prog 108 #[.pointer (some ⟨q,0,none⟩),.int .i64 2] w fun e w'=>(∃ off c,e = .returned (.slice (some ⟨b,off,none⟩) 2 c)∧w'.cell? ⟨b,off,none⟩=some (.int .u8 f)∧w'.cell? ⟨b,off+1,none⟩=some (.int .u8 (K:Int)))∧Lefts w' q b (bs.drop 2)∧Below q w w'):=by
  refine (ltake_yes q b 2 bs w hL (by omega) hn).mono ?_
  rintro e w' ⟨⟨off,c,h1,h2,h3⟩,h4,h5⟩
  refine ⟨⟨off,c,h1,?_,?_⟩,h4,h5.below (Nat.le_refl _)⟩
  ·obtain ⟨b',o',z,e,hc,_,_,hk,hz⟩:=h2.get 0 (by omega)
   cases e
   rw [hz,List.getElem_take] at hc
   rw [hf,List.getD_eq_getElem?_getD,List.getElem?_eq_getElem (by omega)]
   exact hc
  ·obtain ⟨b',o',z,e,hc,_,_,hk,hz⟩:=h2.get 1 (by omega)
   cases e
   rw [hz,List.getElem_take] at hc
   rw [<- hK,List.getD_eq_getElem?_getD,List.getElem?_eq_getElem (by omega)]
   exact hc
 have hq:=hL.lt
 have Hq:Hid (q<w.heap.size):=hq
 obtain ⟨Post,hPost⟩:∃ Post,Post=ChunkSay D q w:=⟨_,rfl⟩
 rw [<- hPost]
 have HP:Hid (Post=ChunkSay D q w):=hPost
 have HG:Hid (∀ (E:Int) w',E≠0->D=(E,[])->Below q w w'->Post (gives E) w'):=fun E w' h1 h2 h3=>by
  rw [hPost,h2]
  exact ⟨h3,Or.inl ⟨h1,rfl⟩⟩
 clear hPost hD hL hfit hf hK hq
 obtain ⟨f0,f1⟩:=hf0
 go_enter Tryz.func84,Tryz.ntmps84
 go_wp2_with fail
 refine HTk.out.mono ?_
 clear HTk
 rintro _ w2 ⟨⟨off,c,rfl,hc0,hc1⟩,hL2,hb2⟩
 have HL2:Hid (Lefts w2 q b (bs.drop 2)):=hL2
 have Hb2:Hid (Below q w w2):=hb2
 clear hL2 hb2
 by_cases hf1:f=1
 ·subst hf1
  go_wp2_with fail
  go_big_quiet (fail)
  go_wp2_with fail
  refine (check_yes 4 _).mono ?_
  rintro _ w9 ⟨rfl,e9⟩
  rw [e9]
  clear e9 w9
  have HL3:Hid (Lefts (w2.drewN nq) q b (bs.drop 2)):=Lefts.drewN HL2.out nq
  have Hb3:Hid (Below q w (w2.drewN nq)):=below_drewN Hb2.out nq
  clear HL2 Hb2 hc0 hc1
  generalize w2.drewN nq=w3 at *
  by_cases hk1:K<1
  ·obtain rfl:K=0:=by omega
   have R:=HG.out 4 w3 (by omega) (by rw [HD.out,if_pos (Or.inr (Or.inl (by omega)))]) Hb3.out
   clear HD HG HP HL3 Hb3
   go_wp2_with fail
   refine (check_no 4 _).mono ?_
   rintro _ _ ⟨rfl,rfl⟩
   go_wp2
   exact ⟨rfl,R⟩
  ·by_cases hk2:17<K
   ·have R:=HG.out 4 w3 (by omega) (by rw [HD.out,if_pos (Or.inr (Or.inr (by omega)))]) Hb3.out
    have h1':(1:Int)<=K:=by omega
    have h2':¬ (K:Int)<=17:=by omega
    have HN:Hid (¬ K<=17):=by show ¬ _;omega
    clear HD HG HP HL3 Hb3 hk1 hk2
    go_wp2_with fail
    refine (check_not (by first | rfl | exact decide_eq_false (by have:=HN.out;omega)) 4 _).mono ?_
    rintro _ _ ⟨rfl,rfl⟩
    go_wp2
    exact ⟨rfl,R⟩
   ·have h1':(1:Int)<=K:=by omega
    have h2':(K:Int)<=17:=by omega
    have h1n:1<=K:=by omega
    have h2n:K<=17:=by omega
    have HD2:Hid (D=if (bs.length:Int)<2+K then (3,[]) else if okPal ((bs.drop 2).take K)=false then (4,[]) else runsD ((bs.drop 2).take K) 32768 (bs.drop (2+K))):=by
     show _=_
     rw [HD.out,if_neg (by omega)]
     simp only [if_true]
    clear HD hk1 hk2
    go_wp2_with fail
    refine (check_yes 4 _).mono ?_
    rintro _ w9 ⟨rfl,e9⟩
    rw [e9]
    clear e9 w9
    by_cases hs:bs.length<2+K
    ·have R:∀ w',Below q w w'->Post (gives 3) w':=fun w' h=>HG.out 3 w' (by omega) (by rw [HD2.out,if_pos (by omega)]) h
     have HR:Hid (∀ w',Below q w w'->Post (gives 3) w'):=R
     obtain ⟨o5,n5,c5,hR5,hB5,_⟩:=HL3.out
     have hsh:=rpal_short q _ n5 c5 K w3 hR5 (by have:=hB5.n;rw [List.length_drop] at this;omega)
     clear HD2 HG HP HL3 R hR5 hB5
     go_wp2_with fail
     refine hsh.mono ?_
     clear hsh
     rintro _ w4 ⟨rfl,hb4⟩
     have R:=HR.out w4 (Hb3.out.trans hb4)
     clear HR hb4
     go_wp2
     exact ⟨rfl,R⟩
    ·have hpc:=rpal_c q b K (bs.drop 2) w3 HL3.out h1n h2n (by rw [List.length_drop];omega)
     have HD3:Hid (D=if okPal ((bs.drop 2).take K)=false then (4,[]) else runsD ((bs.drop 2).take K) 32768 (bs.drop (2+K))):=by
      show _=_
      rw [HD2.out,if_neg (by omega)]
     have Hlen:Hid (((bs.drop 2).take K).length=K):=by show _=_;rw [List.length_take,List.length_drop];omega
     have Hpf:Hid (∀ z∈(bs.drop 2).take K,0<=z∧z<=255):=fun z hz=>Hfit.out z (List.mem_of_mem_drop (List.mem_of_mem_take hz))
     have hdd:(bs.drop 2).drop K=bs.drop (2+K):=by rw [List.drop_drop]
     rw [hdd] at hpc
     clear HD2 hs hdd
     generalize (bs.drop 2).take K=l at *
     go_wp2_with fail
     refine hpc.mono ?_
     clear hpc
     rintro _ w4 ⟨hb4,⟨hok,rfl⟩|⟨hok,X,rfl,hX,hL4⟩⟩
     ·have R:=HG.out 4 w4 (by omega) (by rw [HD3.out,if_pos hok]) (Hb3.out.trans hb4)
      clear HD3 HG HP HL3 hb4 hok
      go_wp2
      exact ⟨rfl,R⟩
     ·have Hb4:Hid (Below q w w4):=Hb3.out.trans hb4
      have HD4:Hid (D=runsD l 32768 (bs.drop (2+K))):=by
       show _=_
       rw [HD3.out,if_neg (by rw [hok];simp)]
      have HL4:Hid (Lefts w4 q b (bs.drop (2+K))):=hL4
      have HX:Hid (IsPal X l):=hX
      have HKs:Hid (AreKinds l):=okPal_kinds Hpf.out hok
      have hone:=hX.one
      have hsz:=hX.size
      clear HD3 HL3 Hb3 hb4 hok hX hL4
      have hq4:=HL4.out.lt
      go_wp2_with (refine wpList_store_pal rfl (.tmp 6) (.tmp 33) rfl w4.heap.size X rfl rfl (palZ 0) (heap_alloc_new w4 _) rfl hsz hone ?_;intro w5 hO5 hX5;have hs5:=hO5.size;rw [World.size_alloc] at hs5;have hb5:Below w4.heap.size w4 w5:=((Below.refl _ _).alloc (Nat.le_refl _) _).trans (hO5.below (Nat.le_refl _));clear hO5)
      refine (new_c w5).mono ?_
      rintro _ w6 ⟨rfl,e6⟩
      have hb6:Below w5.heap.size w5 w6:=by rw [e6];exact (Below.refl _ _).alloc (Nat.le_refl _) _
      have HG6:Hid (Blk w6 w5.heap.size 122 (List.replicate 32768 0)):=by rw [e6];exact Blk.new w5 122 _
      have hX6:w6.heap[w4.heap.size]?=some (.cells X 192 (0,0)):=(hb6.block _ (by omega)).trans hX5
      have HL6:Hid (Lefts w6 q b (bs.drop (2+K))):=(HL4.out.below hb5 hq4).below hb6 (by omega)
      have Hb6:Hid (Below q w w6):=(Hb4.out.trans (hb5.mono (by omega))).trans (hb6.mono (by omega))
      have hZ:(List.replicate 32768 (0:Int)).length=32768:=List.length_replicate
      clear e6 hb6 hb5 hX5 HL4 Hb4
      generalize List.replicate 32768 (0:Int)=Z at *
      have HRd:Hid (Calls Tryz.prog 111 #[.pointer (some ⟨q,0,none⟩),.agg X,.pointer (some ⟨w5.heap.size,0,none⟩)] w6 (ReadSay D q b w5.heap.size w6)):=by
       have:=(druns_c q b w5.heap.size X l (bs.drop (2+K)) Z w6 HL6.out HX.out (by rw [Hlen.out];exact h2n) HKs.out HG6.out hZ (by omega)).mono (fun _ _ h=>h.read)
       rw [<- HD4.out] at this
       exact this
      have Hqg:Hid (q<w5.heap.size):=by show _<_;omega
      clear HD4 HL6 HX HG6 hZ HKs Hlen Hpf hq4 hs5
      generalize w5.heap.size=g at *
      go_wp2_with (refine wpList_load_pal rfl (.tmp 6) rfl w4.heap.size X rfl hX6 hsz ?_)
      refine HRd.out.mono ?_
      clear HRd
      intro e7 w7 h7
      rcases tail_say Hb6.out h7 with ⟨⟨E,rfl,hE⟩,hb7⟩|⟨rfl,hb7,rest,hL7,hE2,hE0⟩
      ·have R:Post (gives E) w7:=by rw [HP.out];exact hE w7 hb7
       clear h7 hE hb7 HG HP
       go_wp2
       exact ⟨rfl,R⟩
      ·obtain ⟨o8,n8,c8,hR8,hB8,_⟩:=hL7
       have hc8:=hR8.cell
       have hn8:=hB8.n
       by_cases h0:n8=0
       ·subst h0
        have R:Post (.returned (.pointer (some ⟨g,0,none⟩))) w7:=by rw [HP.out];exact hE0 (List.eq_nil_of_length_eq_zero hn8) Hqg.out
        clear h7 hE2 hE0 hb7 HG HP hR8 hB8 hn8
        go_wp2_with fail
        refine (check_yes 2 _).mono ?_
        rintro _ _ ⟨rfl,rfl⟩
        go_wp2
        exact R
       ·have h0':((n8:Int) == 0)=false:=by simp [h0]
        have R:Post (gives 2) w7:=by rw [HP.out];exact hE2 (by intro e;subst e;simp at hn8;omega) w7 hb7
        clear h7 hE2 hE0 hb7 HG HP hR8 hB8 hn8
        go_wp2_with fail
        refine (check_no 2 _).mono ?_
        rintro _ _ ⟨rfl,rfl⟩
        go_wp2
        exact ⟨rfl,R⟩
 ·by_cases hf2:f=2
  ·subst hf2
   go_wp2_with fail
   go_big_quiet (fail)
   go_wp2_with fail
   refine (check_yes 4 _).mono ?_
   rintro _ w9 ⟨rfl,e9⟩
   rw [e9]
   clear e9 w9
   have HL3:Hid (Lefts (w2.drewN nq) q b (bs.drop 2)):=Lefts.drewN HL2.out nq
   have Hb3:Hid (Below q w (w2.drewN nq)):=below_drewN Hb2.out nq
   clear HL2 Hb2 hc0 hc1
   generalize w2.drewN nq=w3 at *
   by_cases hk1:K<1
   ·obtain rfl:K=0:=by omega
    have R:=HG.out 4 w3 (by omega) (by rw [HD.out,if_pos (Or.inr (Or.inl (by omega)))]) Hb3.out
    clear HD HG HP HL3 Hb3
    go_wp2_with fail
    refine (check_no 4 _).mono ?_
    rintro _ _ ⟨rfl,rfl⟩
    go_wp2
    exact ⟨rfl,R⟩
   ·by_cases hk2:17<K
    ·have R:=HG.out 4 w3 (by omega) (by rw [HD.out,if_pos (Or.inr (Or.inr (by omega)))]) Hb3.out
     have h1':(1:Int)<=K:=by omega
     have h2':¬ (K:Int)<=17:=by omega
     have HN:Hid (¬ K<=17):=by show ¬ _;omega
     clear HD HG HP HL3 Hb3 hk1 hk2
     go_wp2_with fail
     refine (check_not (by first | rfl | exact decide_eq_false (by have:=HN.out;omega)) 4 _).mono ?_
     rintro _ _ ⟨rfl,rfl⟩
     go_wp2
     exact ⟨rfl,R⟩
    ·have h1':(1:Int)<=K:=by omega
     have h2':(K:Int)<=17:=by omega
     have h1n:1<=K:=by omega
     have h2n:K<=17:=by omega
     have HD2:Hid (D=if (bs.length:Int)<2+K then (3,[]) else if okPal ((bs.drop 2).take K)=false then (4,[]) else packD ((bs.drop 2).take K) (wid K) (bs.drop (2+K))):=by
      show _=_
      rw [HD.out,if_neg (by omega)]
      rw [if_neg (show ¬ (2:Int)=1 by omega)]
     clear HD hk1 hk2
     go_wp2_with fail
     refine (check_yes 4 _).mono ?_
     rintro _ w9 ⟨rfl,e9⟩
     rw [e9]
     clear e9 w9
     by_cases hs:bs.length<2+K
     ·have R:∀ w',Below q w w'->Post (gives 3) w':=fun w' h=>HG.out 3 w' (by omega) (by rw [HD2.out,if_pos (by omega)]) h
      have HR:Hid (∀ w',Below q w w'->Post (gives 3) w'):=R
      obtain ⟨o5,n5,c5,hR5,hB5,_⟩:=HL3.out
      have hsh:=rpal_short q _ n5 c5 K w3 hR5 (by have:=hB5.n;rw [List.length_drop] at this;omega)
      clear HD2 HG HP HL3 R hR5 hB5
      go_wp2_with fail
      refine hsh.mono ?_
      clear hsh
      rintro _ w4 ⟨rfl,hb4⟩
      have R:=HR.out w4 (Hb3.out.trans hb4)
      clear HR hb4
      go_wp2
      exact ⟨rfl,R⟩
     ·have hpc:=rpal_c q b K (bs.drop 2) w3 HL3.out h1n h2n (by rw [List.length_drop];omega)
      have HD3:Hid (D=if okPal ((bs.drop 2).take K)=false then (4,[]) else packD ((bs.drop 2).take K) (wid K) (bs.drop (2+K))):=by
       show _=_
       rw [HD2.out,if_neg (by omega)]
      have Hlen:Hid (((bs.drop 2).take K).length=K):=by show _=_;rw [List.length_take,List.length_drop];omega
      have Hpf:Hid (∀ z∈(bs.drop 2).take K,0<=z∧z<=255):=fun z hz=>Hfit.out z (List.mem_of_mem_drop (List.mem_of_mem_take hz))
      have hdd:(bs.drop 2).drop K=bs.drop (2+K):=by rw [List.drop_drop]
      rw [hdd] at hpc
      clear HD2 hs hdd
      generalize (bs.drop 2).take K=l at *
      go_wp2_with fail
      refine hpc.mono ?_
      clear hpc
      rintro _ w4 ⟨hb4,⟨hok,rfl⟩|⟨hok,X,rfl,hX,hL4⟩⟩
      ·have R:=HG.out 4 w4 (by omega) (by rw [HD3.out,if_pos hok]) (Hb3.out.trans hb4)
       clear HD3 HG HP HL3 hb4 hok
       go_wp2
       exact ⟨rfl,R⟩
      ·have Hb4:Hid (Below q w w4):=Hb3.out.trans hb4
       have HD4:Hid (D=packD l (wid K) (bs.drop (2+K))):=by
        show _=_
        rw [HD3.out,if_neg (by rw [hok];simp)]
       have HL4:Hid (Lefts w4 q b (bs.drop (2+K))):=hL4
       have HX:Hid (IsPal X l):=hX
       have HKs:Hid (AreKinds l):=okPal_kinds Hpf.out hok
       have hone:=hX.one
       have hsz:=hX.size
       clear HD3 HL3 Hb3 hb4 hok hX hL4
       have hq4:=HL4.out.lt
       go_wp2_with (refine wpList_store_pal rfl (.tmp 6) (.tmp 33) rfl w4.heap.size X rfl rfl (palZ 0) (heap_alloc_new w4 _) rfl hsz hone ?_;intro w5 hO5 hX5;have hs5:=hO5.size;rw [World.size_alloc] at hs5;have hb5:Below w4.heap.size w4 w5:=((Below.refl _ _).alloc (Nat.le_refl _) _).trans (hO5.below (Nat.le_refl _));clear hO5)
       refine (new_c w5).mono ?_
       rintro _ w6 ⟨rfl,e6⟩
       have hb6:Below w5.heap.size w5 w6:=by rw [e6];exact (Below.refl _ _).alloc (Nat.le_refl _) _
       have HG6:Hid (Blk w6 w5.heap.size 122 (List.replicate 32768 0)):=by rw [e6];exact Blk.new w5 122 _
       have hX6:w6.heap[w4.heap.size]?=some (.cells X 192 (0,0)):=(hb6.block _ (by omega)).trans hX5
       have HL6:Hid (Lefts w6 q b (bs.drop (2+K))):=(HL4.out.below hb5 hq4).below hb6 (by omega)
       have Hb6:Hid (Below q w w6):=(Hb4.out.trans (hb5.mono (by omega))).trans (hb6.mono (by omega))
       have hZ:(List.replicate 32768 (0:Int)).length=32768:=List.length_replicate
       clear e6 hb6 hb5 hX5 HL4 Hb4
       generalize List.replicate 32768 (0:Int)=Z at *
       have HRd:Hid (Calls Tryz.prog 112 #[.pointer (some ⟨q,0,none⟩),.agg X,.pointer (some ⟨w5.heap.size,0,none⟩)] w6 (ReadSay D q b w5.heap.size w6)):=by
        have:=dpacked_c q b w5.heap.size X l (bs.drop (2+K)) Z w6 HL6.out HX.out (by rw [Hlen.out];exact h2n) HKs.out HG6.out hZ (by omega)
        rw [Hlen.out] at this
        rw [<- HD4.out] at this
        exact this
       have Hqg:Hid (q<w5.heap.size):=by show _<_;omega
       clear HD4 HL6 HX HG6 hZ HKs Hlen Hpf hq4 hs5
       generalize w5.heap.size=g at *
       go_wp2_with (refine wpList_load_pal rfl (.tmp 6) rfl w4.heap.size X rfl hX6 hsz ?_)
       refine HRd.out.mono ?_
       clear HRd
       intro e7 w7 h7
       rcases tail_say Hb6.out h7 with ⟨⟨E,rfl,hE⟩,hb7⟩|⟨rfl,hb7,rest,hL7,hE2,hE0⟩
       ·have R:Post (gives E) w7:=by rw [HP.out];exact hE w7 hb7
        clear h7 hE hb7 HG HP
        go_wp2
        exact ⟨rfl,R⟩
       ·obtain ⟨o8,n8,c8,hR8,hB8,_⟩:=hL7
        have hc8:=hR8.cell
        have hn8:=hB8.n
        by_cases h0:n8=0
        ·subst h0
         have R:Post (.returned (.pointer (some ⟨g,0,none⟩))) w7:=by rw [HP.out];exact hE0 (List.eq_nil_of_length_eq_zero hn8) Hqg.out
         clear h7 hE2 hE0 hb7 HG HP hR8 hB8 hn8
         go_wp2_with fail
         refine (check_yes 2 _).mono ?_
         rintro _ _ ⟨rfl,rfl⟩
         go_wp2
         exact R
        ·have h0':((n8:Int) == 0)=false:=by simp [h0]
         have R:Post (gives 2) w7:=by rw [HP.out];exact hE2 (by intro e;subst e;simp at hn8;omega) w7 hb7
         clear h7 hE2 hE0 hb7 HG HP hR8 hB8 hn8
         go_wp2_with fail
         refine (check_no 2 _).mono ?_
         rintro _ _ ⟨rfl,rfl⟩
         go_wp2
         exact ⟨rfl,R⟩
  ·have e1:(f == 1)=false:=by simp [hf1]
   have e2:(f == 2)=false:=by simp [hf2]
   have HR:Hid (∀ w',Below q w w'->Post (gives 4) w'):=fun w' h=>HG.out 4 w' (by omega) (by rw [HD.out,if_pos (Or.inl ⟨hf1,hf2⟩)]) h
   clear HD HG HP HL2 hf1 hf2
   go_wp2_with fail
   go_big_quiet (fail)
   go_wp2_with fail
   refine (check_no 4 _).mono ?_
   rintro _ w9 ⟨rfl,e9⟩
   rw [e9]
   clear e9 w9
   have R:=HR.out _ (below_drewN Hb2.out nq)
   clear HR
   go_wp2
   exact ⟨rfl,R⟩
end Go.Proofs.YtlllmmceoeihkaaGreat.K
namespace Go.Proofs.YtlllmmceoeihkaaGreat.K
open Go.RowKit
theorem regs_c (a b v:Value) : #[a,b]++((Array.replicate 13 undef).setIfInBounds 3 v).setIfInBounds 0 v = #[a,b,v,undef,undef,v,undef,undef,undef,undef,undef,undef,undef,undef,undef]:=rfl
theorem catch_panicking (g h:Nat) (E x:Int) (pv:Option Addr) (older:List PanicEntry) (w:World) (hgh:g≠h) (hc:w.cell? ⟨g,0,none⟩=some (.pointer pv)) (hf:w.frozen? ⟨g,0,none⟩=false) (hc2:w.cell? ⟨h,0,none⟩=some (.int .i64 x)) (hf2:w.frozen? ⟨h,0,none⟩=false) :
  CallsD Tryz.prog 83 #[.pointer (some ⟨g,0,none⟩),.pointer (some ⟨h,0,none⟩)] (.panicking ({ v:=.iface 28 (.int .i64 E),recovered:=false }::older)) w fun e u' w' =>
   e = .returned (.tuple #[])∧u' = .panicking ({ v:=.iface 28 (.int .i64 E),recovered:=true }::older)∧w'=((w.setCell ⟨g,0,none⟩ (.pointer none)).setCell ⟨h,0,none⟩ (.int .i64 4)).setCell ⟨h,0,none⟩ (.int .i64 E):=by
 refine callsD_of_wpS Tryz.func83 rfl fun c₀ cs hu=>?_
 apply wpS_seq
 apply wpS_region
 simp [wpOpsS,go_sem,recoverD,hu,Tryz.ntmps83,Exit.thenS]
 refine wpS_of_wp ?_
 rw [regs_c]
 have hne:(⟨h,0,none⟩:Addr)≠⟨g,0,none⟩:=by intro e;cases e;exact hgh rfl
 have hc3:(w.setCell ⟨g,0,none⟩ (.pointer none)).cell? ⟨h,0,none⟩=some (.int .i64 x):=by rw [World.cell?_setCell_other _ _ _ _ (fun e=>hne e.symm)];exact hc2
 have hta:∀ w,(Instr.typeAssert (.iface 28 (.int .i64 E)) 20 28 true).run Tryz.prog w = .ok (.tuple #[.int .i64 E,.bool true]) w:=fun w=>by kernel_rfl
 go_wp2
 refine ⟨rfl,_,rfl,.tuple #[],results_none rfl _ _ _,rfl,rfl,rfl⟩
theorem catch_idle (p r:Addr) (w:World) :
  CallsD Tryz.prog 83 #[.pointer (some p),.pointer (some r)] .returning w fun e u' w'=>e = .returned (.tuple #[])∧u' = .returning∧w'=w:=by
 refine callsD_of_wpS Tryz.func83 rfl fun c₀ cs hu=>?_
 apply wpS_seq
 apply wpS_region
 simp [wpOpsS,go_sem,recoverD,hu,Tryz.ntmps83,Exit.thenS]
 refine wpS_of_wp ?_
 rw [regs_c]
 go_wp2
 refine ⟨rfl,_,rfl,.tuple #[],results_none rfl _ _ _,rfl,hu,rfl⟩
theorem three_new (w:World) (o1 o2 o3:Obj):(((w.alloc o1).alloc o2).alloc o3).heap[w.heap.size]?=some o1∧(((w.alloc o1).alloc o2).alloc o3).heap[w.heap.size+1]?=some o2∧(((w.alloc o1).alloc o2).alloc o3).heap[w.heap.size+1+1]?=some o3 ∧
  Below w.heap.size w (((w.alloc o1).alloc o2).alloc o3):=by
 have h3:=heap_new_two (w.alloc o1) o2 o3
 have h2:=heap_new_one (w.alloc o1) o2 o3
 rw [World.size_alloc] at h2 h3
 have hb:Below w.heap.size w (w.alloc o1):=(Below.refl _ _).alloc (Nat.le_refl _) _
 have hb2:Below (w.heap.size+1) (w.alloc o1) ((w.alloc o1).alloc o2):=(Below.refl _ _).alloc (by rw [World.size_alloc];omega) _
 have hb3:Below (w.heap.size+1) (w.alloc o1) (((w.alloc o1).alloc o2).alloc o3):=hb2.alloc (by rw [World.size_alloc,World.size_alloc];omega) _
 refine ⟨?_,h2,h3,hb.trans (hb3.mono (by omega))⟩
 rw [hb3.block _ (by omega)]
 exact heap_alloc_new w o1
def DecSay (D:Int×List Int) (w:World) (e:Ending) (w':World):Prop:=Below w.heap.size w w'∧((D.1=0∧∃ g,w.heap.size<=g∧e = .returned (.tuple #[.pointer (some ⟨g,0,none⟩),.int .i64 0])∧Blk w' g 122 D.2)∨(D.1≠0∧e = .returned (.tuple #[.pointer none,.int .i64 D.1])))
set_option maxHeartbeats 1000000 in
theorem decode_of (a:Option Addr) (n c:Nat) (D:Int×List Int) (w:World)
  (hc:Calls Tryz.prog 84 #[.pointer (some ⟨w.heap.size+1+1,0,none⟩)] (((w.alloc (.cells #[.pointer none] 63)).alloc (.cells #[.int .i64 0] 28)).alloc (.cells #[.slice a n c] 157))
   (ChunkSay D (w.heap.size+1+1) (((w.alloc (.cells #[.pointer none] 63)).alloc (.cells #[.int .i64 0] 28)).alloc (.cells #[.slice a n c] 157)))) :
  Calls Tryz.prog 53 #[.slice a n c] w (DecSay D w):=by
 have hmf:∀ (fn:Fn) (first cap:Array Value) (w:World),(Instr.makeFunc fn first cap).run Tryz.prog w = .ok (.func fn first cap) w:=fun _ _ _ _=>rfl
 obtain ⟨Post,hPost⟩:∃ Post,Post=DecSay D w:=⟨_,rfl⟩
 rw [<- hPost]
 have HP:Hid (Post=DecSay D w):=hPost
 clear hPost
 go_enter_defers Tryz.func53,Tryz.ntmps53
 go_wp2_with fail
 refine hc.mono ?_
 clear hc
 obtain ⟨h1,h2,h3,hb⟩:=three_new w (.cells #[.pointer none] 63) (.cells #[.int .i64 0] 28) (.cells #[.slice a n c] 157)
 generalize ((w.alloc (.cells #[.pointer none] 63)).alloc (.cells #[.int .i64 0] 28)).alloc (.cells #[.slice a n c] 157)=w3 at *
 rintro e w4 ⟨hb4,⟨hD,rfl⟩|⟨hD,g,hg,rfl,hG⟩⟩
 ·have k1:w4.heap[w.heap.size]?=some (.cells #[.pointer none] 63 (0,0)):=(hb4.block _ (by omega)).trans h1
  have k2:w4.heap[w.heap.size+1]?=some (.cells #[.int .i64 0] 28 (0,0)):=(hb4.block _ (by omega)).trans h2
  have hB:Below w.heap.size w w4:=hb.trans (hb4.mono (by omega))
  have R:Post (.returned (.tuple #[.pointer none,.int .i64 D.1])) (((w4.setCell ⟨w.heap.size,0,none⟩ (.pointer none)).setCell ⟨w.heap.size+1,0,none⟩ (.int .i64 4)).setCell ⟨w.heap.size+1,0,none⟩ (.int .i64 D.1)):=by
   rw [HP.out]
   exact ⟨((hB.setCell (p:=⟨w.heap.size,0,none⟩) (by simp) _).setCell (p:=⟨w.heap.size+1,0,none⟩) (by simp) _).setCell (p:=⟨w.heap.size+1,0,none⟩) (by simp) _,Or.inr ⟨hD,rfl⟩⟩
  have c1:w4.cell? ⟨w.heap.size,0,none⟩=some (.pointer none):=by rw [cell_of_row w4 _ 0 _ 63 (0,0) k1];rfl
  have c2:w4.cell? ⟨w.heap.size+1,0,none⟩=some (.int .i64 0):=by rw [cell_of_row w4 _ 0 _ 28 (0,0) k2];rfl
  have z1:=frozen_of_row w4 w.heap.size 0 _ 63 k1
  have z2:=frozen_of_row w4 (w.heap.size+1) 0 _ 28 k2
  clear hb4 h1 h2 h3 hb hB HP hD
  generalize D.1=E at *
  go_wp2
  refine leaves_cons (f:=83) (args := #[.pointer (some ⟨w.heap.size,0,none⟩),.pointer (some ⟨w.heap.size+1,0,none⟩)]) (by simp) (by simp [go_sem]) ?_
  refine (catch_panicking w.heap.size (w.heap.size+1) E 0 none [] w4 (by omega) c1 z1 c2 z2).mono ?_
  have f1:(((w4.setCell ⟨w.heap.size,0,none⟩ (.pointer none)).setCell ⟨w.heap.size+1,0,none⟩ (.int .i64 4)).setCell ⟨w.heap.size+1,0,none⟩ (.int .i64 E)).cell? ⟨w.heap.size,0,none⟩=some (.pointer none):=by
   have h1:=heap_setCell_same w4 w.heap.size 0 _ 63 (.pointer none) k1
   have h2:=Below.heap_setCell (w4.setCell ⟨w.heap.size,0,none⟩ (.pointer none)) ⟨w.heap.size+1,0,none⟩ (.int .i64 4) w.heap.size (by simp)
   have h3:=Below.heap_setCell ((w4.setCell ⟨w.heap.size,0,none⟩ (.pointer none)).setCell ⟨w.heap.size+1,0,none⟩ (.int .i64 4)) ⟨w.heap.size+1,0,none⟩ (.int .i64 E) w.heap.size (by simp)
   rw [cell_of_row _ w.heap.size 0 _ 63 (0,0) (h3.trans (h2.trans h1))]
   rfl
  have f2:(((w4.setCell ⟨w.heap.size,0,none⟩ (.pointer none)).setCell ⟨w.heap.size+1,0,none⟩ (.int .i64 4)).setCell ⟨w.heap.size+1,0,none⟩ (.int .i64 E)).cell? ⟨w.heap.size+1,0,none⟩=some (.int .i64 E):=by
   have h1:=(Below.heap_setCell w4 ⟨w.heap.size,0,none⟩ (.pointer none) (w.heap.size+1) (by simp)).trans k2
   have h2:=heap_setCell_same (w4.setCell ⟨w.heap.size,0,none⟩ (.pointer none)) (w.heap.size+1) 0 _ 28 (.int .i64 4) h1
   have h3:=heap_setCell_same _ (w.heap.size+1) 0 _ 28 (.int .i64 E) h2
   rw [cell_of_row _ (w.heap.size+1) 0 _ 28 (0,0) h3]
   rfl
  rintro e u' w5 ⟨rfl,rfl,e5⟩
  rw [<- e5] at f1 f2 R
  clear e5 k1 k2 c1 c2 z1 z2
  simp [Leaves,settle,results,Tryz.results53,go_sem,f1,f2]
  exact R
 ·have k1:w4.heap[w.heap.size]?=some (.cells #[.pointer none] 63 (0,0)):=(hb4.block _ (by omega)).trans h1
  have k2:w4.heap[w.heap.size+1]?=some (.cells #[.int .i64 0] 28 (0,0)):=(hb4.block _ (by omega)).trans h2
  have hB:Below w.heap.size w w4:=hb.trans (hb4.mono (by omega))
  have R:Post (.returned (.tuple #[.pointer (some ⟨g,0,none⟩),.int .i64 0])) ((w4.setCell ⟨w.heap.size,0,none⟩ (.pointer (some ⟨g,0,none⟩))).setCell ⟨w.heap.size+1,0,none⟩ (.int .i64 0)):=by
   rw [HP.out]
   refine ⟨(hB.setCell (p:=⟨w.heap.size,0,none⟩) (by simp) _).setCell (p:=⟨w.heap.size+1,0,none⟩) (by simp) _,Or.inl ⟨hD,g,by omega,rfl,(hG.other (by omega)).other (by omega)⟩⟩
  have c1:w4.cell? ⟨w.heap.size,0,none⟩=some (.pointer none):=by rw [cell_of_row w4 _ 0 _ 63 (0,0) k1];rfl
  have z1:=frozen_of_row w4 w.heap.size 0 _ 63 k1
  have q2:(w4.setCell ⟨w.heap.size,0,none⟩ (.pointer (some ⟨g,0,none⟩))).heap[w.heap.size+1]?=some (.cells #[.int .i64 0] 28 (0,0)):=(Below.heap_setCell w4 ⟨w.heap.size,0,none⟩ _ (w.heap.size+1) (by simp)).trans k2
  have c2:(w4.setCell ⟨w.heap.size,0,none⟩ (.pointer (some ⟨g,0,none⟩))).cell? ⟨w.heap.size+1,0,none⟩=some (.int .i64 0):=by rw [cell_of_row _ _ 0 _ 28 (0,0) q2];rfl
  have z2:=frozen_of_row _ (w.heap.size+1) 0 _ 28 q2
  have q1:=heap_setCell_same w4 w.heap.size 0 _ 63 (.pointer (some ⟨g,0,none⟩)) k1
  have f1:((w4.setCell ⟨w.heap.size,0,none⟩ (.pointer (some ⟨g,0,none⟩))).setCell ⟨w.heap.size+1,0,none⟩ (.int .i64 0)).cell? ⟨w.heap.size,0,none⟩=some (.pointer (some ⟨g,0,none⟩)):=by
   rw [cell_of_row _ w.heap.size 0 _ 63 (0,0) ((Below.heap_setCell _ ⟨w.heap.size+1,0,none⟩ (.int .i64 0) w.heap.size (by simp)).trans q1)]
   rfl
  have f2:((w4.setCell ⟨w.heap.size,0,none⟩ (.pointer (some ⟨g,0,none⟩))).setCell ⟨w.heap.size+1,0,none⟩ (.int .i64 0)).cell? ⟨w.heap.size+1,0,none⟩=some (.int .i64 0):=by
   rw [cell_of_row _ (w.heap.size+1) 0 _ 28 (0,0) (heap_setCell_same _ (w.heap.size+1) 0 _ 28 (.int .i64 0) q2)]
   rfl
  clear hb4 h1 h2 h3 hb hB HP hD hG k1 k2 q1 q2
  go_wp2
  refine leaves_cons (f:=83) (args := #[.pointer (some ⟨w.heap.size,0,none⟩),.pointer (some ⟨w.heap.size+1,0,none⟩)]) (by simp) (by simp [go_sem]) ?_
  refine (catch_idle ⟨w.heap.size,0,none⟩ ⟨w.heap.size+1,0,none⟩ _).mono ?_
  rintro e u' w5 ⟨rfl,rfl,e5⟩
  rw [<- e5] at f1 f2 R
  clear e5 c1 c2 z1 z2
  simp [Leaves,settle,results,Tryz.results53,go_sem,f1,f2]
  exact R
theorem decode_c (a:Option Addr) (n c:Nat) (bs:List Int) (w:World) (hB:Bytes w a n bs) (hn:n<=c) (h6:n<=1000000):Calls Tryz.prog 53 #[.slice a n c] w (DecSay (decL bs) w):=by
 refine decode_of a n c (decL bs) w ?_
 obtain ⟨h1,h2,h3,hb⟩:=three_new w (.cells #[.pointer none] 63) (.cells #[.int .i64 0] 28) (.cells #[.slice a n c] 157)
 generalize ((w.alloc (.cells #[.pointer none] 63)).alloc (.cells #[.int .i64 0] 28)).alloc (.cells #[.slice a n c] 157)=w3 at *
 have hR:Rdr w3 (w.heap.size+1+1) a n c:=h3
 have hB3:Bytes w3 a n bs:=hB.later hb
 by_cases h:n<2
 ·exact dchunk_short _ a n c bs w3 hR hB3 h
 ·obtain ⟨b,off,z,rfl,hc,_⟩:=hB.get 0 (by omega)
  have hbl:=World.block_lt_of_cell? w _ hc
  exact dchunk_c _ b bs w3 ⟨off,n,c,hR,hB3,hn,by simp at hbl;omega,h6⟩ (by have:=hB.n;omega)
end Go.Proofs.YtlllmmceoeihkaaGreat.K
namespace Go.Proofs.YtlllmmceoeihkaaGreat.K
open Go.RowKit
theorem undig_snoc (w:Nat):∀ (ps:List Int) (p:Int),undig w (ps++[p])=undig w ps+p*2 ^ (w*ps.length)
 | [],p=>by simp [undig]
 | q::r,p=>by
   have ih:=undig_snoc w r p
   rw [List.cons_append,undig,undig,ih,List.length_cons,Nat.mul_add,Nat.mul_one,Int.pow_add,Int.mul_add]
   rw [show p*(2 ^ (w*r.length)*2 ^ w)=2 ^ w*(p*2 ^ (w*r.length)) by rw [Int.mul_comm (2 ^ w) (p*_),Int.mul_assoc]]
   omega
theorem grpP_take (l cs:List Int) (m j I:Nat):grpP l (cs.take I) m j=((cs.drop (j*m)).take (min m (I-j*m))).map fun c=>(plc l c:Int):=by
 unfold grpP
 rw [List.drop_take,List.take_take]
theorem packTo_get (l cs:List Int) (w m:Nat):∀ (n j:Nat),j<n->(packTo l cs w m n).getD j 0=undig w (grpP l cs m j)
 | n+1,j,h=>by
   rw [packTo,List.getD_eq_getElem?_getD]
   by_cases e:j<n
   ·rw [List.getElem?_append_left (by rw [packTo_len];exact e),<- List.getD_eq_getElem?_getD,packTo_get l cs w m n j e]
   ·obtain rfl:j=n:=by omega
    rw [List.getElem?_append_right (by rw [packTo_len];exact Nat.le_refl _),packTo_len,Nat.sub_self]
    rfl
theorem grp_now (l cs:List Int) (m j I:Nat) (hI:I<cs.length) (h1:j*m<=I) (h2:I<j*m+m) :
  grpP l (cs.take (I+1)) m j=grpP l (cs.take I) m j++[(plc l cs[I]:Int)]∧(grpP l (cs.take I) m j).length=I-j*m:=by
 rw [grpP_take,grpP_take,show min m (I+1-j*m)=(I-j*m)+1 by omega,show min m (I-j*m)=I-j*m by omega]
 constructor
 ·rw [List.take_add_one,List.map_append,List.getElem?_drop,show j*m+(I-j*m)=I by omega,List.getElem?_eq_getElem hI]
  rfl
 ·rw [List.length_map,List.length_take,List.length_drop]
  omega
theorem pack_step (l cs:List Int) (w m n I j:Nat) (hI:I<cs.length) (hj:j<n) (h1:j*m<=I) (h2:I<j*m+m) :
  packTo l (cs.take (I+1)) w m n=(packTo l (cs.take I) w m n).set j ((packTo l (cs.take I) w m n).getD j 0+(plc l cs[I]:Int)*2 ^ (w*(I-j*m))):=by
 refine getD_ext (by rw [List.length_set,packTo_len,packTo_len]) fun i hi=>?_
 rw [packTo_len] at hi
 obtain ⟨g1,g2⟩:=grp_now l cs m j I hI h1 h2
 rw [packTo_get _ _ _ _ _ _ hi]
 by_cases e:i=j
 ·subst e
  rw [List.getD_eq_getElem?_getD (l:=List.set _ _ _),List.getElem?_set_self (by rw [packTo_len];exact hi),Option.getD_some,packTo_get _ _ _ _ _ _ hi,g1,undig_snoc,g2]
 ·rw [List.getD_eq_getElem?_getD,List.getElem?_set_ne (fun h=>e h.symm),<- List.getD_eq_getElem?_getD,packTo_get _ _ _ _ _ _ hi,grpP_take,grpP_take]
  have:min m (I+1-i*m)=min m (I-i*m):=by
   rcases Nat.lt_or_gt_of_ne e with h | h
   ·have:=Nat.mul_le_mul_right m (show i+1<=j from h)
    rw [Nat.add_mul,Nat.one_mul] at this
    omega
   ·have:=Nat.mul_le_mul_right m (show j+1<=i from h)
    rw [Nat.add_mul,Nat.one_mul] at this
    omega
  rw [this]
theorem byte_now (l cs:List Int) (w m n I j:Nat) (hI:I<cs.length) (hj:j<n) (h1:j*m<=I) (h2:I<j*m+m) (hm:∀ x∈cs,x∈l) (hw:l.length<=2 ^ w) :
  0<=(packTo l (cs.take I) w m n).getD j 0∧(packTo l (cs.take I) w m n).getD j 0<2 ^ (w*(I-j*m))∧(plc l cs[I]:Int)<2 ^ w:=by
 obtain ⟨_,g2⟩:=grp_now l cs m j I hI h1 h2
 have hp:∀ x∈cs,(plc l x:Int)<2 ^ w:=fun x hx=>by
  have:=plc_lt (hm x hx)
  have h3:plc l x<2 ^ w:=by omega
  exact_mod_cast h3
 rw [packTo_get _ _ _ _ _ _ hj]
 have:=undig_fit w (grpP l (cs.take I) m j) (fun p hp'=>by
  unfold grpP at hp'
  obtain ⟨x,hx,rfl⟩:=List.mem_map.1 hp'
  exact ⟨Int.natCast_nonneg _,hp x (List.mem_of_mem_take (List.mem_of_mem_drop (List.mem_of_mem_take hx)))⟩)
 rw [g2] at this
 exact ⟨this.1,this.2,hp _ (List.getElem_mem hI)⟩
theorem or8_join (a p:Int) (s:Nat) (h0:0<=a) (h1:a<2 ^ s) (hp:0<=p) (hs:a+p*2 ^ s<256):bits .or .u8 a (p*2 ^ s)=a+p*2 ^ s:=by
 obtain ⟨A,rfl⟩:=Int.eq_ofNat_of_zero_le h0
 obtain ⟨P,rfl⟩:=Int.eq_ofNat_of_zero_le hp
 have e:(P:Int)*2 ^ s=((P*2 ^ s:Nat):Int):=by simp
 rw [e] at hs ⊢
 have hA:A<2 ^ s:=by exact_mod_cast h1
 rw [u8_or_nat A (P*2 ^ s) (by omega) (by omega),Nat.or_comm,nat_join s (P*2 ^ s) A (Nat.mul_mod_left _ _) hA]
 omega
theorem byte_fit {a p:Int} {w m r:Nat} (h8:w*m=8) (h1:a<2 ^ (w*r)) (hp:p<2 ^ w) (hr:r<m):a+p*2 ^ (w*r)<256:=by
 have hk:w*(r+1)<=8:=by rw [<- h8];exact Nat.mul_le_mul_left w hr
 have h2:(2:Int) ^ (w*(r+1))<=256:=by
  have h:(2:Nat) ^ (w*(r+1))<=256:=Nat.pow_le_pow_right (n:=2) (by omega) hk
  have h':=Int.ofNat_le.2 h
  rw [Int.natCast_pow] at h'
  exact h'
 rw [Nat.mul_add,Nat.mul_one,Int.pow_add] at h2
 have hpos:(0:Int)<2 ^ (w*r):=Int.pow_pos (by omega)
 have h3:(p+1)*2 ^ (w*r)<=2 ^ w*2 ^ (w*r):=Int.mul_le_mul_of_nonneg_right (by omega) (Int.le_of_lt hpos)
 rw [Int.add_mul,Int.one_mul] at h3
 rw [Int.mul_comm (2 ^ (w*r)) (2 ^ w)] at h2
 omega
theorem packTo_zero (l cs:List Int) (w m n:Nat):packTo l (cs.take 0) w m n=List.replicate n 0:=by
 refine getD_ext (by rw [packTo_len,List.length_replicate]) fun i hi=>?_
 rw [packTo_len] at hi
 rw [packTo_get _ _ _ _ _ _ hi,List.take_zero]
 unfold grpP
 rw [List.drop_nil,List.take_nil,List.map_nil,List.getD_eq_getElem?_getD,List.getElem?_replicate,if_pos hi]
 rfl
end Go.Proofs.YtlllmmceoeihkaaGreat.K
set_option maxRecDepth 20000
namespace Go.Proofs.YtlllmmceoeihkaaGreat.Z
open K Go.RowKit
theorem fdiv_c (a:Int) (h:I64 a) (w:World):Calls Tryz.prog 60 #[.int .i64 a,.int .i64 4] w fun e w'=>e = .returned (.int .i64 (a/4))∧w'=w:=D.rdiv_hi a 4 w (by omega) (by omega) h.1 h.2
theorem rregion_c (x z:Int) (hx:I64 x) (hz:I64 z) (w:World):Calls Tryz.prog 32 #[valA x z] w fun e w'=>e = .returned (valA (x/4) (z/4))∧Below w.heap.size w w':=by
 obtain ⟨Post,hPost⟩:∃ Post:Ending->World->Prop,Post=fun e w'=>e = .returned (valA (x/4) (z/4))∧Below w.heap.size w w':=⟨_,rfl⟩
 rw [<- hPost]
 have HP:Hid (∀ w',Below w.heap.size w w'->Post (.returned (.agg #[.int .i64 (x/4),.int .i64 (z/4)])) w'):=fun w' h=>by rw [hPost];exact ⟨rfl,h⟩
 clear hPost
 obtain ⟨hb0,x0,x1⟩:=box_at w x z
 have hd1:=fun W=>fdiv_c x hx W
 have hd2:=fun W=>fdiv_c z hz W
 have HD1:Hid (∀ W,Calls Tryz.prog 60 #[.int .i64 x,.int .i64 4] W fun e w'=>e = .returned (.int .i64 (x/4))∧w'=W):=hd1
 have HD2:Hid (∀ W,Calls Tryz.prog 60 #[.int .i64 z,.int .i64 4] W fun e w'=>e = .returned (.int .i64 (z/4))∧w'=W):=hd2
 clear hd1 hd2
 go_enter Tryz.func32,Tryz.ntmps32
 go_upto_region 1 with fail
 have hb1:Below w.heap.size w ((w.alloc (.cells #[.int .i64 x,.int .i64 z] 39)).alloc (.cells #[.int .i64 0,.int .i64 0] 39)):=hb0.alloc hb0.size _
 have hN:=heap_alloc_new (w.alloc (.cells #[.int .i64 x,.int .i64 z] 39)) (.cells #[.int .i64 0,.int .i64 0] 39)
 have hs1:(w.alloc (.cells #[.int .i64 x,.int .i64 z] 39)).heap.size=w.heap.size+1:=World.size_alloc _ _
 rw [hs1] at hN
 have c0:((w.alloc (.cells #[.int .i64 x,.int .i64 z] 39)).alloc (.cells #[.int .i64 0,.int .i64 0] 39)).cell? ⟨w.heap.size,0,none⟩=some (.int .i64 x):=(((Below.refl (w.alloc (.cells #[.int .i64 x,.int .i64 z] 39)).heap.size _).alloc (Nat.le_refl _) _).cell (World.block_lt_of_cell? _ _ x0)).trans x0
 have c1:((w.alloc (.cells #[.int .i64 x,.int .i64 z] 39)).alloc (.cells #[.int .i64 0,.int .i64 0] 39)).cell? ⟨w.heap.size,1,none⟩=some (.int .i64 z):=(((Below.refl (w.alloc (.cells #[.int .i64 x,.int .i64 z] 39)).heap.size _).alloc (Nat.le_refl _) _).cell (World.block_lt_of_cell? _ _ x1)).trans x1
 clear x0 x1 hb0
 generalize (w.alloc (.cells #[.int .i64 x,.int .i64 z] 39)).alloc (.cells #[.int .i64 0,.int .i64 0] 39)=W1 at *
 have b0:W1.cell? ⟨w.heap.size+1,0,none⟩=some (.int .i64 0):=by rw [cell_of_row W1 _ 0 _ 39 (0,0) hN];rfl
 have b1:W1.cell? ⟨w.heap.size+1,1,none⟩=some (.int .i64 0):=by rw [cell_of_row W1 _ 1 _ 39 (0,0) hN];rfl
 have f0:W1.frozen? ⟨w.heap.size+1,0,none⟩=false:=frozen_of_row W1 _ 0 _ 39 hN
 have f1:W1.frozen? ⟨w.heap.size+1,1,none⟩=false:=frozen_of_row W1 _ 1 _ 39 hN
 have R:=HP.out ((W1.drew.setCell ⟨w.heap.size+1,0,none⟩ (.int .i64 (x/4))).setCell ⟨w.heap.size+1,1,none⟩ (.int .i64 (z/4))) ((hb1.drew.setCell (p:=⟨w.heap.size+1,0,none⟩) (Nat.le_succ _) _).setCell (p:=⟨w.heap.size+1,1,none⟩) (Nat.le_succ _) _)
 refine region_L (fun u=>u=W1.drew) 7 (by kernel_rfl) ?_
 have d0:W1.drew.cell? ⟨w.heap.size,0,none⟩=some (.int .i64 x):=c0
 have d1:W1.drew.cell? ⟨w.heap.size,1,none⟩=some (.int .i64 z):=c1
 have e0:W1.drew.cell? ⟨w.heap.size+1,0,none⟩=some (.int .i64 0):=b0
 have e1:W1.drew.cell? ⟨w.heap.size+1,1,none⟩=some (.int .i64 0):=b1
 have g0:W1.drew.frozen? ⟨w.heap.size+1,0,none⟩=false:=f0
 have g1:W1.drew.frozen? ⟨w.heap.size+1,1,none⟩=false:=f1
 clear c0 c1 b0 b1 f0 f1 hN hb1 HP
 generalize W1.drew=va at *
 have hHeld:(fun u=>u=va) va:=rfl
 have hne:Nonempty (Sub (fun u=>u=va)):=⟨⟨_,hHeld⟩⟩
 have k0:∀ s:Sub (fun u=>u=va),s.w.cell? ⟨w.heap.size,0,none⟩=some (.int .i64 x):=fun s=>by rw [s.ok];exact d0
 have k1:∀ s:Sub (fun u=>u=va),s.w.cell? ⟨w.heap.size,1,none⟩=some (.int .i64 z):=fun s=>by rw [s.ok];exact d1
 refine tk0 0 rfl (fun _ _ _ _ h=>h) hHeld fun K hK=>?_;go_simp;refine hK _ ?_;clear hK K
 refine tk0 1 rfl (fun _ _ _ _ h=>h) hHeld fun K hK=>?_;go_simp;refine hK _ ?_;clear hK K
 refine tk0 3 rfl (fun _ _ _ _ h=>h) hHeld fun K hK=>?_;go_simp;refine hK _ ?_;clear hK K
 refine tk0 4 rfl (fun _ _ _ _ h=>h) hHeld fun K hK=>?_;go_simp;refine hK _ ?_;clear hK K
 refine ol 2 rfl fun K hK=>?_
 go_simp
 refine (HD1.out _).mono ?_
 rintro _ _ ⟨rfl,rfl⟩
 refine hK.out _ _ (fun _=>hHeld) ?_
 clear hK K
 refine ol 5 rfl fun K hK=>?_
 go_simp
 refine (HD2.out _).mono ?_
 rintro _ _ ⟨rfl,rfl⟩
 refine hK.out _ _ (fun _=>hHeld) ?_
 clear hK K
 refine tk0 6 rfl (fun _ _ _ _ h=>h) hHeld fun K hK=>?_;go_simp;refine hK _ ?_;clear hK K
 refine ol 7 rfl fun K hK=>?_
 clear hne k0 k1
 go_simp
 refine hK.out _ _ (fun h=>absurd rfl h) ?_
 clear hK K
 refine done_L (by kernel_rfl) ?_ _
 go_wp2
 exact bodyPost_ret (v:=.agg #[.int .i64 (x/4),.int .i64 (z/4)]) (by simp [results,Tryz.results32,go_sem,e0,e1]) rfl R
theorem splace_c {G : Nat → Prop} {B : Nat} {w : World} {r : Nat} {L : List Km} {av:Option Addr} {cv:Nat} (h:RSt G B w r L av cv) (x z:Int) :
  Calls Tryz.prog 45 #[.pointer (some ⟨r,0,none⟩),valA x z] w fun e w'=>e = .returned (.int .i64 (plK L x z))∧Below w.heap.size w w':=by
 obtain ⟨Post,hPost⟩:∃ Post:Ending->World->Prop,Post=fun e w'=>e = .returned (.int .i64 (plK L x z))∧Below w.heap.size w w':=⟨_,rfl⟩
 rw [<- hPost]
 have HP:Hid (∀ v w',plK L x z=v->Below w.heap.size w w'->Post (.returned (.int .i64 v)) w'):=fun v w' h0 h1=>by rw [hPost,h0];exact ⟨rfl,h1⟩
 clear hPost
 obtain ⟨hb0,x0,x1⟩:=box_at w x z
 have HA:Hid (RSt G B w r L av cv):=h
 have HB:Hid (Below w.heap.size w (w.alloc (.cells #[.int .i64 x,.int .i64 z] 39))):=hb0
 have hsz:=h.sz
 clear h hb0
 go_enter Tryz.func45,Tryz.ntmps45
 go_upto_region 1 with fail
 have HX:Hid ((w.alloc (.cells #[.int .i64 x,.int .i64 z] 39)).cell? ⟨w.heap.size,0,none⟩=some (.int .i64 x)∧(w.alloc (.cells #[.int .i64 x,.int .i64 z] 39)).cell? ⟨w.heap.size,1,none⟩=some (.int .i64 z)):=⟨x0,x1⟩
 clear x0 x1
 generalize w.alloc (.cells #[.int .i64 x,.int .i64 z] 39)=w0 at *
 go_wp2
 go_loopw [5] (fun vi wr=>∃ k:Nat,vi = .int .i64 (k:Int)∧k<=L.length∧Hid ((∀ j (hj:j<L.length),j<k->atK x z L[j]=false)∧Below w.heap.size w wr∧wr.cell? ⟨w.heap.size,0,none⟩=some (.int .i64 x)∧wr.cell? ⟨w.heap.size,1,none⟩=some (.int .i64 z))) (fun vi _=>L.length-(intOf vi).toNat)
 case atStart=>exact ⟨0,rfl,Nat.zero_le _,fun j hj hk=>by omega,HB.out,HX.out⟩
 case round =>
  obtain ⟨k,rfl,hk,HI⟩:=hrel
  obtain ⟨hno,hb,x0,x1⟩:=HI.out
  have R0:=HA.out.on hb
  have c1:=R0.c0
  by_cases hlt:k<L.length
  ·have hlt':(k:Int)<(L.length:Int):=by omega
   rcases R0.row.form with ⟨_,he,_⟩|⟨g,rfl⟩
   ·rw [he] at hlt;simp at hlt
   obtain ⟨e0,e1,_,_⟩:=R0.row.cell hlt
   have HI3:Hid (∀ nq,Below w.heap.size w (wr.drewN nq)∧(wr.drewN nq).cell? ⟨w.heap.size,0,none⟩=some (.int .i64 x)∧(wr.drewN nq).cell? ⟨w.heap.size,1,none⟩=some (.int .i64 z)):=fun nq=>⟨hb.trans (⟨rfl,rfl,rfl,Nat.le_refl _,fun _ _=>rfl⟩),x0,x1⟩
   have HNo:Hid (∀ j (hj:j<L.length),j<k->atK x z L[j]=false):=hno
   have HAt:Hid (atK x z L[k]=decide (L[k].x=x∧L[k].z=z)):=rfl
   have HF:Hid (∀ hx:atK x z L[k]=true,plK L x z=(k:Int)):=fun hx=>by
    have:L.findIdx? (atK x z)=some k:=by
     rw [List.findIdx?_eq_some_iff_getElem]
     exact ⟨hlt,hx,fun j hj=>by rw [hno j (by omega) hj];simp⟩
    unfold plK
    rw [this]
   obtain ⟨cur,_,_,hcv,hmx,_⟩:=R0.row.blk
   clear hno hb HI R0 HX HB
   generalize L[k].x=p at *
   generalize L[k].z=q at *
   by_cases h1:p=x
   ·by_cases h2:q=z
    ·have HR:=HF.out (by rw [HAt.out,h1,h2];simp)
     subst h1 h2
     have R:=fun nq=>HP.out _ _ HR (HI3.out nq).1
     clear HP HF HAt HNo HR HI3
     go_wp2
     go_big_quiet (fail)
     have R2:=R nq
     clear R
     go_wp2
     exact R2
    ·have HE:Hid (atK x z L[k]=false):=by have:=HAt.out;rw [this];exact decide_eq_false (fun h=>h2 h.2)
     subst h1
     clear HAt HF
     go_wp2
     go_big_quiet (fail)
     go_wp2
     go_roundw
     case rel => exact ⟨k + 1, by go_num, by omega, fun j hj hjk => (by by_cases e:j=k;· subst e;exact HE.out
                                                                        ·exact HNo.out j hj (by omega)),HI3.out nq⟩
     case measure=>simp [intOf];omega
   ·have HE:Hid (atK x z L[k]=false):=by have:=HAt.out;rw [this];exact decide_eq_false (fun h=>h1 h.1)
    clear HAt HF
    go_wp2
    go_big_quiet (fail)
    go_wp2
    go_roundw
    case rel => exact ⟨k + 1, by go_num, by omega, fun j hj hjk => (by by_cases e:j=k;· subst e;exact HE.out
                                                                       ·exact HNo.out j hj (by omega)),HI3.out nq⟩
    case measure=>simp [intOf];omega
  ·obtain rfl:k=L.length:=by omega
   have hn:plK L x z = -1:=by
    have:L.findIdx? (atK x z)=none:=by
     rw [List.findIdx?_eq_none_iff]
     intro e he
     obtain ⟨j,hj,rfl⟩:=List.getElem_of_mem he
     exact hno j hj hj
    unfold plK
    rw [this]
   have R:=HP.out _ wr hn hb
   clear hno hn hb HI R0 HP HX HB HA x0 x1
   go_wp2
   exact R
theorem sload_c {G:Nat->Prop} {B:Nat} {w:World} {r:Nat} {L:List Km} {av:Option Addr} {cv:Nat} (h:RSt G B w r L av cv) (x z:Int) :
  Calls Tryz.prog 39 #[.pointer (some ⟨r,0,none⟩),valA x z] w fun e w'=>Below w.heap.size w w'∧∃ a c,e = .returned (.slice a (loadK L x z).length c)∧Cz w' a c (loadK L x z):=by
 obtain ⟨Post,hPost⟩:∃ Post:Ending->World->Prop,Post=fun e w'=>Below w.heap.size w w'∧∃ a c,e = .returned (.slice a (loadK L x z).length c)∧Cz w' a c (loadK L x z):=⟨_,rfl⟩
 rw [<- hPost]
 have HP:Hid (∀ w' a c b,loadK L x z=b->Below w.heap.size w w'->Cz w' a c b->Post (.returned (.slice a b.length c)) w'):=fun w' a c b h0 h1 h2=>by rw [hPost];subst h0;exact ⟨h1,a,c,rfl,h2⟩
 clear hPost
 obtain ⟨hb0,d0,d1⟩:=box_at w x z
 go_enter Tryz.func39,Tryz.ntmps39
 go_upto_region 1 with fail
 generalize w.alloc (.cells #[.int .i64 x,.int .i64 z] 39)=w1 at *
 have R1:=h.on hb0
 have hp:=splace_c R1 x z
 have hsz:=h.sz
 have HK:Hid (∀ w2,Below w1.heap.size w1 w2->RSt G B w2 r L av cv∧Below w.heap.size w w2):=fun w2 hb2=>⟨R1.on hb2,hb0.trans (hb2.mono hb0.size)⟩
 clear R1 hb0
 cases hfi:L.findIdx? (atK x z) with
 | none =>
   have hpl:plK L x z = -1:=by unfold plK;rw [hfi]
   have hl0:loadK L x z=[]:=by
    unfold loadK
    have:L.find? (atK x z)=none:=by
     rw [List.find?_eq_none]
     intro e he
     rw [List.findIdx?_eq_none_iff.1 hfi e he]
     simp
    rw [this]
   rw [hpl] at hp
   have HR:Hid (∀ w2,Below w1.heap.size w1 w2->Post (.returned (.slice none 0 0)) w2):=fun w2 hb2=>HP.out w2 none 0 [] hl0 (HK.out w2 hb2).2 (.inl ⟨rfl,rfl,rfl⟩)
   clear h hpl hfi HP HK hl0
   go_wp2_with (go_at_call 45;refine hp.mono ?_;clear hp;rintro _ w2 ⟨rfl,hb2⟩;have R:=HR.out w2 hb2;clear HR)
   exact R
 | some k =>
   obtain ⟨hk,h1,h2⟩:=List.findIdx?_eq_some_iff_getElem.1 hfi
   have hpl:plK L x z=(k:Int):=by unfold plK;rw [hfi]
   have hl0:loadK L x z=L[k].b:=by
    unfold loadK
    have:L.find? (atK x z)=some L[k]:=by
     rw [List.find?_eq_some_iff_getElem]
     exact ⟨h1,k,hk,rfl,fun j hj=>by have:=h2 j hj;simpa using this⟩
    rw [this]
   rw [hpl] at hp
   have hkl:(k:Int)<(L.length:Int):=by omega
   rcases h.row.form with ⟨_,he,_⟩|⟨g,rfl⟩
   ·rw [he] at hk;simp at hk
   have hcv:L.length<=cv∧cv<=maxLen:=by
    obtain ⟨cur,_,_,hcv,hmx,_⟩:=h.row.blk
    exact ⟨hcv,hmx⟩
   have HC:Hid (∀ w2,Below w1.heap.size w1 w2->w2.cell? ⟨r,0,none⟩=some (.slice (some ⟨g,0,none⟩) L.length cv)∧w2.cell? ⟨g,k*4+2,none⟩=some (.slice L[k].a L[k].b.length L[k].c)∧Post (.returned (.slice L[k].a L[k].b.length L[k].c)) w2):=fun w2 hb2=>by
    obtain ⟨R2,hb⟩:=HK.out w2 hb2
    exact ⟨R2.c0,(R2.row.cell hk).2.2.1,HP.out w2 _ _ _ hl0 hb (R2.by_ _ (List.getElem_mem hk))⟩
   clear h hpl hfi HP HK hl0 h1 h2
   generalize L[k]=ek at *
   obtain ⟨_,_,a0,c0,b0,_⟩:=ek
   simp only at HC
   go_wp2_with (go_at_call 45;refine hp.mono ?_;clear hp;rintro _ w2 ⟨rfl,hb2⟩;obtain ⟨cc1,cc2,R⟩:=HC.out w2 hb2;clear HC)
   exact R
end Go.Proofs.YtlllmmceoeihkaaGreat.Z
