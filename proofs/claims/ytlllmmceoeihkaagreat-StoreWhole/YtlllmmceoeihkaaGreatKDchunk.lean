/-
  The program's reader, over the bytes that are left.
  The program's reader: runs.
  The program's reader: packed numbers.
  The program's reader: a chunk.
-/
import Derived.Test.YtlllmmceoeihkaaGreatSr
import Derived.Deep.RegionHeld
import Derived.Test.YtlllmmceoeihkaaGreatKPfx
namespace Go.Proofs.YtlllmmceoeihkaaGreat.K
open Go.RowKit
theorem lnumber_short (q b:Nat) (M:Int) (w:World) (h:Lefts w q b []):Calls Tryz.prog 134 #[.pointer (some ⟨q,0,none⟩),.int .i64 M] w fun e w'=>e=gives 3∧w'=w:=by
 obtain ⟨off,n,c,hR,hB,_⟩:=h
 have:=hB.n
 simp at this
 subst this
 exact number_short q _ c M w hR
theorem lnumber_form (q b:Nat) (bs:List Int) (M:Int) (w:World) (h:Lefts w q b bs) (hne:bs≠[]) (hg:(getL bs).1<1∨M<(getL bs).1):Calls Tryz.prog 134 #[.pointer (some ⟨q,0,none⟩),.int .i64 M] w fun e w'=>e=gives 4∧w'=w:=by
 obtain ⟨off,n,c,hR,hB,hn,_,h6⟩:=h
 have:=hB.n
 have:=List.length_pos_iff.2 hne
 exact number_form q _ n c bs M w hR hB (by omega) h6 hg
theorem lnumber_yes (q b:Nat) (bs:List Int) (M:Int) (w:World) (h:Lefts w q b bs) (hne:bs≠[]) (h1:1<=(getL bs).1) (h2:(getL bs).1<=M):Calls Tryz.prog 134 #[.pointer (some ⟨q,0,none⟩),.int .i64 M] w fun e w' =>
  e = .returned (.int .i64 (getL bs).1)∧Lefts w' q b (bs.drop (getL bs).2.toNat)∧Only q w w':=by
 obtain ⟨off,n,c,hR,hB,hn,hb,h6⟩:=h
 have hl:=hB.n
 have hp:=List.length_pos_iff.2 hne
 have hin:=getL_in hB.fit
 obtain ⟨s,hs⟩:=Int.eq_ofNat_of_zero_le hin.2.2.1
 refine (number_yes q b off n c s bs M w hR hB (by omega) hn h6 h1 h2 hs).mono ?_
 rintro e w' ⟨he,o',ho,hR',hO⟩
 refine ⟨he,?_,hO⟩
 rw [hs,Int.toNat_natCast]
 exact Lefts.moved hB hb hn h6 (hO.below (Nat.le_refl _)) (by omega) ho hR'
theorem ltake_no (q b m:Nat) (bs:List Int) (w:World) (h:Lefts w q b bs) (hm:bs.length<m):Calls Tryz.prog 108 #[.pointer (some ⟨q,0,none⟩),.int .i64 (m:Int)] w fun e w'=>e=gives 3∧w'=w:=by
 obtain ⟨off,n,c,hR,hB,_⟩:=h
 exact take_no q _ n c m w hR (by have:=hB.n;omega)
theorem ltake_yes (q b m:Nat) (bs:List Int) (w:World) (h:Lefts w q b bs) (h1:1<=m) (hm:m<=bs.length):Calls Tryz.prog 108 #[.pointer (some ⟨q,0,none⟩),.int .i64 (m:Int)] w fun e w' =>
  (∃ off c,e = .returned (.slice (some ⟨b,off,none⟩) m c)∧Bytes w' (some ⟨b,off,none⟩) m (bs.take m)∧b<q)∧Lefts w' q b (bs.drop m)∧Only q w w':=by
 obtain ⟨off,n,c,hR,hB,hn,hb,h6⟩:=h
 have hl:=hB.n
 refine (take_yes q b off n c m w hR h1 (by omega) hn).mono ?_
 rintro e w' ⟨he,o',ho,hR',hO⟩
 have hw:=hO.below (Nat.le_refl q)
 refine ⟨⟨off,c,he,?_,hb⟩,Lefts.moved hB hb hn h6 hw (by omega) ho hR',hO⟩
 have hB':=hB.under hw hb
 refine ⟨by rw [List.length_take];omega,?_,fun z hz=>hB'.fit z (List.mem_of_mem_take hz)⟩
 rcases hB'.cells with e | ⟨b',o',e,hc⟩
 ·left;rw [e,List.take_nil]
 ·cases e
  refine Or.inr ⟨_,_,rfl,fun j hj=>?_⟩
  rw [List.length_take] at hj
  rw [hc j (by omega),List.getElem_take]
theorem Lefts.drew {w:World} {q b:Nat} {bs:List Int} (h:Lefts w q b bs):Lefts w.drew q b bs:=by
 obtain ⟨off,n,c,h1,h2,h3,h4,h5⟩:=h
 exact ⟨off,n,c,h1,⟨h2.n,h2.cells,h2.fit⟩,h3,h4,h5⟩
theorem below_drew {B:Nat} {a w:World} (h:Below B a w):Below B a w.drew:=⟨h.os,h.tape,h.output,h.size,h.block⟩
/-! ### a region that draws its order -/
theorem wpAnyH_strong {P:Program} {md:Region.Mode} {ops:Array Oper} {Q:Exit->Act->World->Prop} {S S':World->Prop} (h:∀ w,S' w->S w) :
  ∀ {fuel:Nat} {listed:Array Bool} {a:Act} {w:World},wpAnyH P md ops Q S' fuel listed a w->wpAnyH P md ops Q S fuel listed a w
 | 0,_,_,_,hw=>hw
 | _+1,_,_,_,hw=>⟨hw.1,fun i hi=>wpOp_mono (fun _ w' h'=>⟨h w' h'.1,wpAnyH_strong h h'.2⟩) (hw.2 i hi)⟩
structure Sub (S:World->Prop) where
 w:World
 ok:S w
theorem take_step {P:Program} {md:Region.Mode} {ops:Array Oper} {Q:Exit->Act->World->Prop} {S:World->Prop} {i:Nat} {oi:Oper} {fuel:Nat} {listed:Array Bool} {a:Act} {w:World} (hi:ops[i]?=some oi)
  (hs:Region.noSelect ops=true) (hf:Region.free md ops listed i=true) (hr:(Region.ready md ops listed).contains i=true)
  (hQ:∀ v c a w,Q (.panic c) (a.put oi.dst v) w->Q (.panic c) a w) (hS:S w)
  (h:∀ K:Act->Prop,(∀ a,wpAnyH P md ops Q S fuel (listed.setIfInBounds i true) a w->K a)->if Region.wanted oi (yielded ops a.tmps)=true then ∃ v,(∀ s:Sub S,(execOp a.eval oi).run P s.w = .ok (.value v) s.w)∧K (a.put oi.dst v) else K (a.put oi.dst undef)) :
  wpAnyH P md ops Q S (fuel+1) listed a w:=by
 have h':=h _ (fun _ h=>h)
 by_cases hw:Region.wanted oi (yielded ops a.tmps)=true
 ·rw [if_pos hw] at h'
  obtain ⟨v,hv,hk⟩:=h'
  exact wpAnyH_take hi hs hf hr (hQ v) (Or.inl ⟨hw,fun w hS=>hv ⟨w,hS⟩⟩) hS hk
 ·rw [if_neg hw] at h'
  exact wpAnyH_take hi hs hf hr (hQ undef) (Or.inr ⟨by simpa using hw,rfl⟩) hS h'
theorem below_drewN {B:Nat} {a w:World} (h:Below B a w) (n:Nat):Below B a (w.drewN n):=⟨h.os,h.tape,h.output,h.size,h.block⟩
theorem yields_pal {ops:Array Oper} {S:World->Prop} {op:Oper} {a:Act} (hw:Region.wanted op (yielded ops a.tmps)=true) (x:Operand) (ho:op.op = .load 192 x)
  (g:Nat) (hx:a.eval x = .pointer (some ⟨g,0,none⟩)) (X:Array Value) (hs:X.size=18) (hS:∀ w,S w->w.heap[g]?=some (.cells X 192 (0,0))):YieldsIf Tryz.prog ops S op (.agg X) a:=by
 have:=yieldsIf_load_mid (P:=Tryz.prog) (ops:=ops) (S:=S) (op:=op) (a:=a) hw 192 x ho g 0 hx X.toList _ (fun w h j v hv=>by
  rw [Nat.zero_add,cell_of_row w g j _ 192 (0,0) (hS w h)];simpa using hv) Tryz.underlying192 rfl (by rw [Array.length_toList,hs];kernel_rfl)
 rwa [Array.toArray_toList] at this
end Go.Proofs.YtlllmmceoeihkaaGreat.K
namespace Go.Proofs.YtlllmmceoeihkaaGreat.K
open Go.RowKit
def RunsSay (l bs:List Int) (q b g:Nat) (w:World) (e:Ending) (w':World):Prop :=
 Below q w w'∧((∃ E:Int,E≠0∧runsD l 32768 bs=(E,[])∧e=gives E)∨(∃ out rest,out.length=32768∧runsD l 32768 bs=comb out (runsD l 0 rest)∧e = .returned (.tuple #[])∧Blk w' g 122 out∧Lefts w' q b rest))
def Stand (w:World) (g:Nat) (out:List Int):Prop:=∃ cs,Blk w g 122 cs∧cs.length=32768∧cs.take out.length=out
theorem Stand.set {w':World} {g A N:Nat} {out cs:List Int} {x:Int} (hl:cs.length=32768) (ho:out.length=A+N) (h:cs.take (A+N)=out) (hi:A+N<32768) (hB:Blk w' g 122 (setC cs ((A:Int)+(N:Int)) x)) (hx:0<=x∧x<=16) :
  Stand w' g (out++[x]):=by
 rw [(okSet_yes (i:=(A:Int)+(N:Int)) (k:=x) ⟨by omega,by omega,hx.1,hx.2⟩ cs).2,show ((A:Int)+(N:Int)).toNat=A+N by omega] at hB
 refine ⟨_,hB,by rw [List.length_set,hl],?_⟩
 rw [List.length_append,List.length_singleton,ho,List.take_set,List.take_add_one,h,List.set_append,if_neg (by omega)]
 have:A+N<cs.length:=by omega
 simp [ho,this]
theorem one_cell {w:World} {b o:Nat} {x:Int} (h:Bytes w (some ⟨b,o,none⟩) 1 [x]):w.cell? ⟨b,o,none⟩=some (.int .u8 x):=by
 obtain ⟨b',o',z,e,hc,_,_,hk,hz⟩:=h.get 0 (by omega)
 cases e
 rw [hz] at hc
 exact hc
set_option maxRecDepth 1000000 in
set_option maxHeartbeats 2000000 in
theorem druns_c (q b g:Nat) (X:Array Value) (l bs Z:List Int) (w:World) (hL:Lefts w q b bs) (hX:IsPal X l) (hl:l.length<=17) (hk:AreKinds l) (hG:Blk w g 122 Z) (hZ:Z.length=32768) (hqg:q<g) :
  Calls Tryz.prog 111 #[.pointer (some ⟨q,0,none⟩),.agg X,.pointer (some ⟨g,0,none⟩)] w (RunsSay l bs q b g w):=by
 have hq:=hL.lt
 have hg:=hG.lt
 have HX:Hid (IsPal X l):=hX
 have hXs:=hX.size
 have HC0:Hid (runsD l 32768 bs=comb [] (runsD l (32768-([]:List Int).length) bs)):=by show _=_;rw [comb_nil];rfl
 have HF:Hid (∀ (E:Int) w',E≠0->runsD l 32768 bs=(E,[])->Below q w w'->RunsSay l bs q b g w (gives E) w'):=fun E w' h1 h2 h3=>⟨h3,Or.inl ⟨E,h1,h2,rfl⟩⟩
 have HT:Hid (∀ w' out rest,out.length=32768->runsD l 32768 bs=comb out (runsD l 0 rest)->Blk w' g 122 out->Lefts w' q b rest->Below q w w'->RunsSay l bs q b g w (.returned (.tuple #[])) w'):=fun w' out rest h1 h2 h3 h4 h5=>⟨h5,Or.inr ⟨out,rest,h1,h2,rfl,h3,h4⟩⟩
 obtain ⟨Post,hPost⟩:∃ Post,Post=RunsSay l bs q b g w:=⟨_,rfl⟩
 rw [<- hPost]
 have HP:Hid (Post=RunsSay l bs q b g w):=hPost
 clear hPost
 have Hw1:Hid (Below w.heap.size w (w.alloc (.cells X 192))):=(Below.refl _ _).alloc (Nat.le_refl _) _
 have HS0:Hid (Stand (w.alloc (.cells X 192)) g ([]:List Int)):=⟨Z,hG.below Hw1.out hg,hZ,rfl⟩
 have HL0:Hid (Lefts (w.alloc (.cells X 192)) q b bs):=hL.below Hw1.out hq
 have HX0:Hid ((w.alloc (.cells X 192)).heap[w.heap.size]?=some (.cells X 192 (0,0))):=heap_alloc_new w _
 have HB0:Hid (Below q w (w.alloc (.cells X 192))):=Hw1.out.mono (Nat.le_of_lt hq)
 clear hL hX hG hZ Hw1
 go_enter Tryz.func111,Tryz.ntmps111
 go_wp2
 generalize w.alloc (.cells X 192)=wa at *
 go_loopw [6] (fun v6 wr=>∃ (A:Nat) (out rest:List Int),A<=32768∧v6 = .int .i64 (A:Int)∧Hid (out.length=A)∧Hid (runsD l 32768 bs=comb out (runsD l (32768-out.length) rest))∧Hid (Stand wr g out)∧Hid (Lefts wr q b rest)∧Hid (wr.heap[w.heap.size]?=some (.cells X 192 (0,0)))∧Hid (Below q w wr)) (fun v _=>32768-(intOf v).toNat)
 case atStart=>exact ⟨0,[],bs,by omega,rfl,rfl,HC0,HS0,HL0,HX0,HB0⟩
 case round =>
  obtain ⟨A,out,rest,hA,rfl,HA,HC,HS,HL,HXr,Hb⟩:=hrel
  clear HC0 HS0 HL0 HX0 HB0
  by_cases hlt:A<32768
  ·have hlt':(A:Int)<32768:=by omega
   obtain ⟨Nd,hNd⟩:∃ Nd:Nat,(32768:Int)-(A:Int)=(Nd:Int):=⟨32768-A,by omega⟩
   have HNd:Hid (32768-A=Nd):=by show _=_;omega
   have Hneed:Hid (Nd≠0):=by show _≠_;omega
   have HC':Hid (runsD l 32768 bs=comb out (runsD l Nd rest)):=by show _=_;rw [<- HNd.out,<- HA.out];exact HC.out
   clear HC
   by_cases h0:rest=[]
   ·subst h0
    have R:Post (gives 3) wr:=by rw [HP.out];exact HF.out 3 wr (by omega) (by rw [HC'.out,runsD_short l _ Hneed.out];rfl) Hb.out
    have HN:Hid (Calls Tryz.prog 134 #[.pointer (some ⟨q,0,none⟩),.int .i64 (Nd:Int)] wr fun e w'=>e=gives 3∧w'=wr):=lnumber_short q b Nd wr HL.out
    clear HF HT HP HC' HS HL HXr Hb HX
    go_wp2_with fail
    refine HN.out.mono ?_
    clear HN
    rintro _ _ ⟨rfl,rfl⟩
    go_wp2
    exact ⟨rfl,R⟩
   ·have Hbyte:Hid (∀ z∈rest,0<=z∧z<=255):=by
     obtain ⟨_,_,_,_,hB,_⟩:=HL.out
     exact hB.fit
    by_cases hgd:(getL rest).1<1∨(Nd:Int)<(getL rest).1
    ·have R:Post (gives 4) wr:=by rw [HP.out];exact HF.out 4 wr (by omega) (by rw [HC'.out,runsD_form l _ rest Hneed.out h0 (Or.inr hgd)];rfl) Hb.out
     have HN:Hid (Calls Tryz.prog 134 #[.pointer (some ⟨q,0,none⟩),.int .i64 (Nd:Int)] wr fun e w'=>e=gives 4∧w'=wr):=lnumber_form q b rest Nd wr HL.out h0 hgd
     clear HF HT HP HC' HS HL HXr Hb HX hgd h0
     go_wp2_with fail
     refine HN.out.mono ?_
     clear HN
     rintro _ _ ⟨rfl,rfl⟩
     go_wp2
     exact ⟨rfl,R⟩
    ·have HH:Hid (¬ ((getL rest).2=0∨(getL rest).1<1∨(Nd:Int)<(getL rest).1)):=by
      rintro (h | h)
      ·have:=getL_two h;omega
      ·exact hgd h
     obtain ⟨G,hG⟩:=Int.eq_ofNat_of_zero_le (getL_in Hbyte.out).1
     have HG:Hid ((getL rest).1=(G:Int)∧1<=G∧G<=Nd):=⟨hG,by omega,by omega⟩
     have HN:Hid (Calls Tryz.prog 134 #[.pointer (some ⟨q,0,none⟩),.int .i64 (Nd:Int)] wr fun e w'=>e = .returned (.int .i64 (G:Int))∧Lefts w' q b (rest.drop (getL rest).2.toNat)∧Only q wr w'):=by
      have:=lnumber_yes q b rest Nd wr HL.out h0 (by omega) (by omega)
      rw [hG] at this
      rw [hG] at *
      exact this
     have Hne:Hid (rest≠[]):=h0
     clear hG hgd h0 Hbyte HL
     go_wp2_with fail
     refine HN.out.mono ?_
     clear HN
     rintro _ w2 ⟨rfl,hL2,hO2⟩
     have HS2:Hid (Stand w2 g out):=by
      obtain ⟨cs,hC,h2,h3⟩:=HS.out
      exact ⟨cs,hC.only hO2 (by omega),h2,h3⟩
     have HX2:Hid (w2.heap[w.heap.size]?=some (.cells X 192 (0,0))):=(hO2.block _ (by omega)).trans HXr.out
     have Hb2:Hid (Below q w w2):=Hb.out.trans (hO2.below (Nat.le_refl _))
     clear hO2 HS HXr Hb
     rcases hd:rest.drop (getL rest).2.toNat with _ | ⟨pz,r⟩
     ·rw [hd] at hL2
      have R:∀ w3:World,Below q w w3->Post (gives 3) w3:=fun w3 h3=>by rw [HP.out];exact HF.out 3 w3 (by omega) (by rw [HC'.out,runsD_cut l _ rest Hneed.out Hne.out HH.out hd];rfl) h3
      have HR:Hid (∀ w3:World,Below q w w3->Post (gives 3) w3):=R
      clear HF HT HP HC' HX R hd HH
      go_wp2_with fail
      refine wp_region_held_drew (S:=fun w'=>w'.heap[w.heap.size]?=some (.cells X 192 (0,0))) (by kernel_rfl) (by exact HX2.out) (fun hHeld=>?_)
      have hne:Nonempty (Sub (fun w'=>w'.heap[w.heap.size]?=some (.cells X 192 (0,0)))):=⟨⟨_,hHeld⟩⟩
      refine wpAnyH_take (i:=0) (v:=.agg X) rfl (by kernel_rfl) (by kernel_rfl) (by kernel_rfl) (fun _ _ _ h=>h) (yields_pal (by rfl) (.tmp 4) rfl w.heap.size rfl X hXs (fun _ h=>h)) (by exact hHeld) ?_
      refine take_step (i:=1) rfl (by kernel_rfl) (by kernel_rfl) (by kernel_rfl) (fun _ _ _ _ h=>h) (by exact hHeld) (fun K hK=>?_)
      go_simp;refine hK _ ?_;clear hK K
      refine wpAnyH_ready (rs:=[2]) (by kernel_rfl) (by simp) ?_
      refine AllReadyH.cons rfl (fun K hK=>?_) AllReadyH.nil
      go_simp
      refine (ltake_no q b 1 [] _ hL2.drew (by simp)).mono ?_
      rintro _ _ ⟨rfl,rfl⟩
      go_wp2
      exact ⟨rfl,HR.out _ (below_drew Hb2.out)⟩
     ·have hpb:0<=pz∧pz<=255:=by
       obtain ⟨_,_,_,_,hB,_⟩:=hL2
       exact hB.fit pz (by rw [hd];exact List.mem_cons_self ..)
      rw [hd] at hL2
      obtain ⟨PZ,rfl⟩:=Int.eq_ofNat_of_zero_le hpb.1
      have Htk:Hid (∀ w,Lefts w q b ((PZ:Int)::r)->Calls Tryz.prog 108 #[.pointer (some ⟨q,0,none⟩),.int .i64 1] w fun e w' =>
        (∃ off c,e = .returned (.slice (some ⟨b,off,none⟩) 1 c)∧Bytes w' (some ⟨b,off,none⟩) 1 [(PZ:Int)]∧b<q)∧Lefts w' q b r∧Only q w w'):=fun w h=>ltake_yes q b 1 ((PZ:Int)::r) w h (by omega) (by simp)
      obtain ⟨hp0,hp1⟩:=hpb
      have hwr:IntKind.i64.wrap (PZ:Int)=(PZ:Int):=by rw [IntKind.wrap_i64];omega
      by_cases hfar:l.length<=PZ
      ·have R:∀ w3:World,Below q w w3->Post (gives 4) w3:=fun w3 h3=>by rw [HP.out];exact HF.out 4 w3 (by omega) (by rw [HC'.out,runsD_far l _ rest Hneed.out Hne.out HH.out hd (by omega)];rfl) h3
       have HR:Hid (∀ w3:World,Below q w w3->Post (gives 4) w3):=R
       have Hfar:Hid ((l.length:Int)<=PZ):=by show (l.length:Int)<=PZ;omega
       clear HF HT HP HC' R hd HH hfar
       go_wp2_with fail
       refine wp_region_held_drew (S:=fun w'=>w'.heap[w.heap.size]?=some (.cells X 192 (0,0))) (by kernel_rfl) (by exact HX2.out) (fun hHeld=>?_)
       have hne:Nonempty (Sub (fun w'=>w'.heap[w.heap.size]?=some (.cells X 192 (0,0)))):=⟨⟨_,hHeld⟩⟩
       refine wpAnyH_take (i:=0) (v:=.agg X) rfl (by kernel_rfl) (by kernel_rfl) (by kernel_rfl) (fun _ _ _ h=>h) (yields_pal (by rfl) (.tmp 4) rfl w.heap.size rfl X hXs (fun _ h=>h)) (by exact hHeld) ?_
       refine take_step (i:=1) rfl (by kernel_rfl) (by kernel_rfl) (by kernel_rfl) (fun _ _ _ _ h=>h) (by exact hHeld) (fun K hK=>?_)
       go_simp;refine hK _ ?_;clear hK K
       refine wpAnyH_ready (rs:=[2]) (by kernel_rfl) (by simp) ?_
       refine AllReadyH.cons rfl (fun K hK=>?_) AllReadyH.nil
       go_simp
       refine (Htk.out _ hL2.drew).mono ?_
       rintro _ w3 ⟨⟨o3,c3,rfl,hB3,hbq⟩,hL3,hO3⟩
       have HX3:Hid (w3.heap[w.heap.size]?=some (.cells X 192 (0,0))):=(hO3.block _ (by omega)).trans HX2.out
       have hc3:w3.cell? ⟨b,o3,none⟩=some (.int .u8 (PZ:Int)):=one_cell hB3
       have HS3:Hid (Stand w3 g out):=by
        obtain ⟨cs,hC,h2,h3⟩:=HS2.out
        exact ⟨cs,(hO3.block _ (by omega)).trans hC,h2,h3⟩
       have Hb3:Hid (Below q w w3):=(below_drew Hb2.out).trans (hO3.below (Nat.le_refl _))
       have HL3:Hid (Lefts w3 q b r):=hL3
       clear HS2 HX2 Hb2 hL2 hB3 hO3 hL3
       refine hK.out _ _ (by exact HX3.out) (fun hHeld=>?_)
       clear hK K hne
       refine wpAnyH_strong (S':=fun w'=>w'.cell? ⟨b,o3,none⟩=some (.int .u8 (PZ:Int))∧w'.heap[w.heap.size]?=some (.cells X 192 (0,0))) (fun _ h=>h.2) ?_
       replace hHeld:w3.cell? ⟨b,o3,none⟩=some (.int .u8 (PZ:Int))∧w3.heap[w.heap.size]?=some (.cells X 192 (0,0)):=⟨hc3,HX3.out⟩
       have hne:Nonempty (Sub (fun w'=>w'.cell? ⟨b,o3,none⟩=some (.int .u8 (PZ:Int))∧w'.heap[w.heap.size]?=some (.cells X 192 (0,0)))):=⟨⟨_,hHeld⟩⟩
       have hcc:∀ s:Sub (fun w'=>w'.cell? ⟨b,o3,none⟩=some (.int .u8 (PZ:Int))∧w'.heap[w.heap.size]?=some (.cells X 192 (0,0))),s.w.cell? ⟨b,o3,none⟩=some (.int .u8 (PZ:Int)):=fun s=>s.ok.1
       refine take_step (i:=3) rfl (by kernel_rfl) (by kernel_rfl) (by kernel_rfl) (fun _ _ _ _ h=>h) (by exact hHeld) (fun K hK=>?_)
       go_simp;refine hK _ ?_;clear hK K
       refine take_step (i:=4) rfl (by kernel_rfl) (by kernel_rfl) (by kernel_rfl) (fun _ _ _ _ h=>h) (by exact hHeld) (fun K hK=>?_)
       go_simp;refine hK _ ?_;clear hK K
       refine take_step (i:=5) rfl (by kernel_rfl) (by kernel_rfl) (by kernel_rfl) (fun _ _ _ _ h=>h) (by exact hHeld) (fun K hK=>?_)
       go_simp;refine hK _ ?_;clear hK K
       refine wpAnyH_ready (rs:=[6]) (by kernel_rfl) (by simp) ?_
       refine AllReadyH.cons rfl (fun K hK=>?_) AllReadyH.nil
       go_simp
       refine (kind_no X l PZ _ HX.out Hfar.out).mono ?_
       rintro _ w4 ⟨rfl,hb4⟩
       go_wp2
       exact ⟨rfl,HR.out _ (Hb3.out.trans (hb4.mono (by have:=HL3.out.lt;omega)))⟩
      ·have HE:Hid (runsD l 32768 bs=comb (out++List.replicate G (l.getD PZ 0)) (runsD l (Nd-G) r)):=by
        show _=_
        rw [HC'.out,runsD_go l _ rest Hneed.out Hne.out HH.out hd (by omega),comb_comb,HG.out.1,Int.toNat_natCast,Int.toNat_natCast]
       have Hfar:Hid (PZ<l.length):=by show PZ<l.length;omega
       have HKx:Hid (0<=l.getD PZ 0∧l.getD PZ 0<=16):=hk _ (getD_mem Hfar.out)
       have HKc:Hid (∀ w,Calls Tryz.prog 135 #[.agg X,.int .i64 (PZ:Int)] w fun e w'=>e = .returned (.int .i64 (l.getD PZ 0))∧Below w.heap.size w w'):=fun w=>kind_yes X l PZ w HX.out hl Hfar.out ⟨HKx.out.1,by have:=HKx.out.2;omega⟩
       obtain ⟨x,hx⟩:∃ x,x=l.getD PZ 0:=⟨_,rfl⟩
       rw [<- hx] at HE HKx HKc
       clear HC' hd HH hfar hx HX Hfar
       go_wp2_with fail
       refine wp_region_held_drew (S:=fun w'=>w'.heap[w.heap.size]?=some (.cells X 192 (0,0))) (by kernel_rfl) (by exact HX2.out) (fun hHeld=>?_)
       have hne:Nonempty (Sub (fun w'=>w'.heap[w.heap.size]?=some (.cells X 192 (0,0)))):=⟨⟨_,hHeld⟩⟩
       refine wpAnyH_take (i:=0) (v:=.agg X) rfl (by kernel_rfl) (by kernel_rfl) (by kernel_rfl) (fun _ _ _ h=>h) (yields_pal (by rfl) (.tmp 4) rfl w.heap.size rfl X hXs (fun _ h=>h)) (by exact hHeld) ?_
       refine take_step (i:=1) rfl (by kernel_rfl) (by kernel_rfl) (by kernel_rfl) (fun _ _ _ _ h=>h) (by exact hHeld) (fun K hK=>?_)
       go_simp;refine hK _ ?_;clear hK K
       refine wpAnyH_ready (rs:=[2]) (by kernel_rfl) (by simp) ?_
       refine AllReadyH.cons rfl (fun K hK=>?_) AllReadyH.nil
       go_simp
       refine (Htk.out _ hL2.drew).mono ?_
       rintro _ w3 ⟨⟨o3,c3,rfl,hB3,hbq⟩,hL3,hO3⟩
       have HX3:Hid (w3.heap[w.heap.size]?=some (.cells X 192 (0,0))):=(hO3.block _ (by omega)).trans HX2.out
       have hc3:w3.cell? ⟨b,o3,none⟩=some (.int .u8 (PZ:Int)):=one_cell hB3
       have HS3:Hid (Stand w3 g out):=by
        obtain ⟨cs,hC,h2,h3⟩:=HS2.out
        exact ⟨cs,(hO3.block _ (by omega)).trans hC,h2,h3⟩
       have Hb3:Hid (Below q w w3):=(below_drew Hb2.out).trans (hO3.below (Nat.le_refl _))
       have HL3:Hid (Lefts w3 q b r):=hL3
       clear HS2 HX2 Hb2 hL2 hB3 hO3 hL3
       refine hK.out _ _ (by exact HX3.out) (fun hHeld=>?_)
       clear hK K hne
       refine wpAnyH_strong (S':=fun w'=>w'.cell? ⟨b,o3,none⟩=some (.int .u8 (PZ:Int))∧w'.heap[w.heap.size]?=some (.cells X 192 (0,0))) (fun _ h=>h.2) ?_
       replace hHeld:w3.cell? ⟨b,o3,none⟩=some (.int .u8 (PZ:Int))∧w3.heap[w.heap.size]?=some (.cells X 192 (0,0)):=⟨hc3,HX3.out⟩
       have hne:Nonempty (Sub (fun w'=>w'.cell? ⟨b,o3,none⟩=some (.int .u8 (PZ:Int))∧w'.heap[w.heap.size]?=some (.cells X 192 (0,0)))):=⟨⟨_,hHeld⟩⟩
       have hcc:∀ s:Sub (fun w'=>w'.cell? ⟨b,o3,none⟩=some (.int .u8 (PZ:Int))∧w'.heap[w.heap.size]?=some (.cells X 192 (0,0))),s.w.cell? ⟨b,o3,none⟩=some (.int .u8 (PZ:Int)):=fun s=>s.ok.1
       refine take_step (i:=3) rfl (by kernel_rfl) (by kernel_rfl) (by kernel_rfl) (fun _ _ _ _ h=>h) (by exact hHeld) (fun K hK=>?_)
       go_simp;refine hK _ ?_;clear hK K
       refine take_step (i:=4) rfl (by kernel_rfl) (by kernel_rfl) (by kernel_rfl) (fun _ _ _ _ h=>h) (by exact hHeld) (fun K hK=>?_)
       go_simp;refine hK _ ?_;clear hK K
       refine take_step (i:=5) rfl (by kernel_rfl) (by kernel_rfl) (by kernel_rfl) (fun _ _ _ _ h=>h) (by exact hHeld) (fun K hK=>?_)
       go_simp;refine hK _ ?_;clear hK K
       refine wpAnyH_ready (rs:=[6]) (by kernel_rfl) (by simp) ?_
       refine AllReadyH.cons rfl (fun K hK=>?_) AllReadyH.nil
       go_simp
       refine (HKc.out _).mono ?_
       rintro _ w4 ⟨rfl,hb4⟩
       have h3s:=HL3.out.lt
       have h3g:g<w3.heap.size:=by
        obtain ⟨cs,hC,_⟩:=HS3.out
        exact hC.lt
       have h3p:w.heap.size<w3.heap.size:=(Array.getElem?_eq_some_iff.1 HX3.out).1
       have HX4:Hid (w4.heap[w.heap.size]?=some (.cells X 192 (0,0))):=(hb4.block _ h3p).trans HX3.out
       have HS4:Hid (Stand w4 g out):=by
        obtain ⟨cs,hC,h2,h3⟩:=HS3.out
        exact ⟨cs,hC.below hb4 h3g,h2,h3⟩
       have Hb4:Hid (Below q w w4):=Hb3.out.trans (hb4.mono (by omega))
       have HL4:Hid (Lefts w4 q b r):=HL3.out.below hb4 h3s
       have hc4:w4.cell? ⟨b,o3,none⟩=some (.int .u8 (PZ:Int)):=by
        unfold World.cell? at hc3 ⊢
        rw [hb4.block b (by omega)]
        exact hc3
       clear HX3 HS3 Hb3 HL3 hb4 h3s h3g h3p hc3
       refine hK.out _ _ ⟨hc4,HX4.out⟩ (fun hHeld=>?_)
       clear hK K
       refine take_step (i:=7) rfl (by kernel_rfl) (by kernel_rfl) (by kernel_rfl) (fun _ _ _ _ h=>h) (by exact hHeld) (fun K hK=>?_)
       go_simp
       refine hK _ ?_
       clear hK K hne hcc hHeld hc4
       refine wpAnyH_done (by kernel_rfl) ?_ _
       have HGN:Hid (1<=G∧A+G<=32768):=by have:=HG.out;have:=HNd.out;exact ⟨by omega,by omega⟩
       have HE2:Hid (runsD l 32768 bs=comb (out++List.replicate G x) (runsD l (32768-(out++List.replicate G x).length) r)):=by
        show _=_
        rw [HE.out,List.length_append,List.length_replicate,HA.out,show 32768-(A+G)=Nd-G by have:=HNd.out;omega]
       have HAG:Hid ((out++List.replicate G x).length=A+G):=by show _=_;rw [List.length_append,List.length_replicate,HA.out]
       have hA1:(A:Int)<=32767:=by omega
       have hG1:(G:Int)<=32768:=by have:=HGN.out;omega
       clear HE HG HNd HKc Hneed Hne hNd hwr hp0 hp1 Htk HF HT HP hA hlt
       go_wp2
       go_loopw [24] (fun v24 wr=>∃ (N:Nat),N<=G∧v24 = .int .i64 (N:Int)∧Hid (Stand wr g (out++List.replicate N x))∧Hid (Lefts wr q b r)∧Hid (wr.heap[w.heap.size]?=some (.cells X 192 (0,0)))∧Hid (Below q w wr)) (fun v _=>G-(intOf v).toNat)
       case atStart=>exact ⟨0,Nat.zero_le _,rfl,(show Stand _ _ _ by simpa using HS4.out),HL4,HX4,Hb4⟩
       case round =>
        obtain ⟨N,hN,rfl,HS5,HL5,HX5,Hb5⟩:=hrel
        clear HS4 HL4 HX4 Hb4
        by_cases hlt2:N<G
        ·have hlt2':(N:Int)<G:=by omega
         obtain ⟨cs,hC,hcl,htk⟩:=HS5.out
         have hlen:(out++List.replicate N x).length=A+N:=by rw [List.length_append,List.length_replicate,HA.out]
         rw [hlen] at htk
         have HSet:Hid (Calls Tryz.prog 136 #[.pointer (some ⟨g,0,none⟩),.int .i64 ((A:Int)+(N:Int)),.int .i64 x] wr fun e w'=>e = .returned (.bool (okSet ((A:Int)+(N:Int)) x))∧Stand w' g (out++List.replicate (N+1) x)∧Only g wr w'):=by
          refine (set_c g cs ((A:Int)+(N:Int)) x wr hC hcl).mono ?_
          rintro e w' ⟨h1,h2,h3⟩
          refine ⟨h1,?_,h3⟩
          rw [List.replicate_succ',<- List.append_assoc]
          exact Stand.set hcl hlen htk (by have:=HGN.out;omega) h2 HKx.out
         have hAN:(A:Int)+(N:Int)<=32767:=by have:=HGN.out;omega
         clear hC hcl htk hlen HS5
         go_wp2_with fail
         refine HSet.out.mono ?_
         clear HSet
         rintro _ w6 ⟨rfl,hS6,hO6⟩
         have HL6:Hid (Lefts w6 q b r):=HL5.out.only hO6 hqg
         have HX6:Hid (w6.heap[w.heap.size]?=some (.cells X 192 (0,0))):=(hO6.block _ (by omega)).trans HX5.out
         have Hb6:Hid (Below q w w6):=Hb5.out.trans (hO6.below (by omega))
         have HS6:Hid (Stand w6 g (out++List.replicate (N+1) x)):=hS6
         clear hS6 hO6 HL5 HX5 Hb5
         go_wp2
         go_roundw
         case rel=>exact ⟨N+1,by omega,by go_num,HS6,HL6,HX6,Hb6⟩
         case measure=>simp [intOf];omega
        ·obtain rfl:N=G:=by omega
         have hlt2':¬ (N:Int)<N:=by omega
         have hAN:(A:Int)+(N:Int)<=32768:=by have:=HGN.out;omega
         go_wp2
         go_roundw
         case rel=>exact ⟨A+N,out++List.replicate N x,r,HGN.out.2,by go_num,HAG,HE2,HS5,HL5,HX5,Hb5⟩
         case measure =>
          have:=HGN.out
          simp [intOf]
          omega
  ·obtain rfl:A=32768:=by omega
   have hlt':¬ (32768:Int)<32768:=by omega
   obtain ⟨cs,hC,hcl,htk⟩:=HS.out
   have R:Post (.returned (.tuple #[])) wr:=by
    rw [HP.out]
    refine HT.out wr out rest HA.out ?_ ?_ HL.out Hb.out
    ·rw [HC.out,HA.out]
    ·rw [HA.out,List.take_of_length_le (by omega)] at htk
     rw [<- htk];exact hC
   clear HF HT HP HC HS HL HXr Hb HX hC hcl htk
   go_wp2
   go_end0
   exact R
theorem digsW_get (w:Nat):∀ (k:Nat) (v:Int) (j:Nat),j<k->(digsW w k v).getD j 0=v/2 ^ (w*j)%2 ^ w
 | k+1,v,0,_=>by simp [digsW]
 | k+1,v,j+1,h=>by
   have:=digsW_get w k (v/2 ^ w) j (by omega)
   rw [digsW,List.getD_cons_succ,this,Int.ediv_ediv_of_nonneg (Int.le_of_lt (Int.pow_pos (by omega))),<- Int.pow_add,show w+w*j=w*(j+1) by rw [Nat.mul_add];omega]
theorem spread_get (w m:Nat) (hm:0<m) (bs:List Int) (i:Nat) (h:i/m<bs.length):(spread w m bs).getD i 0=bs.getD (i/m) 0/2 ^ (w*(i%m))%2 ^ w:=by
 have h1:=spread_byte w m bs (i/m) h
 have h2:=digsW_get w m bs[i/m] (i%m) (Nat.mod_lt _ hm)
 rw [List.getD_eq_getElem?_getD (l:=bs),List.getElem?_eq_getElem h,Option.getD_some,<- h2,h1]
 simp only [List.getD_eq_getElem?_getD,List.getElem?_take,List.getElem?_drop]
 rw [if_pos (Nat.mod_lt _ hm),Nat.div_add_mod' i m]
theorem and_low (x:Int) (w:Nat) (h0:0<=x) (h1:x<9223372036854775808) (hw:w<63):bits .and .i64 x (2 ^ w-1)=x%2 ^ w:=by
 obtain ⟨X,rfl⟩:=Int.eq_ofNat_of_zero_le h0
 have hp:0<2 ^ w:=Nat.pow_pos (by omega)
 have hw2:2 ^ w<=2 ^ 62:=Nat.pow_le_pow_right (by omega) (by omega)
 have e:((2:Int) ^ w-1)=((2 ^ w-1:Nat):Int):=by
  rw [Int.ofNat_sub (by omega)]
  simp
 have hx:X &&& (2 ^ w-1)<2 ^ 62:=by rw [Nat.and_two_pow_sub_one_eq_mod];exact Nat.lt_of_lt_of_le (Nat.mod_lt _ hp) hw2
 rw [e]
 show IntKind.i64.wrap ((BitVec.ofInt 64 (X:Int) &&& BitVec.ofInt 64 ((2 ^ w-1:Nat):Int)).toNat:Int)=_
 rw [BitVec.toNat_and,ofInt_u64 X (by omega),ofInt_u64 _ (by omega)]
 have h3:IntKind.i64.wrap ((X &&& (2 ^ w-1):Nat):Int)=((X &&& (2 ^ w-1):Nat):Int):=by
  rw [IntKind.wrap_i64];omega
 rw [h3,Nat.and_two_pow_sub_one_eq_mod]
 simp
def ReadSay (D:Int×List Int) (q b g:Nat) (w:World) (e:Ending) (w':World):Prop :=
 Below q w w'∧((∃ E:Int,E≠0∧D=(E,[])∧e=gives E)∨(∃ out rest,out.length=32768∧D=(if rest=[] then (0,out) else (2,[]))∧e = .returned (.tuple #[])∧Blk w' g 122 out∧Lefts w' q b rest))
theorem RunsSay.read {l bs:List Int} {q b g:Nat} {w:World} {e:Ending} {w':World} (h:RunsSay l bs q b g w e w'):ReadSay (runsD l 32768 bs) q b g w e w':=by
 obtain ⟨h1,h2 | ⟨out,rest,h2,h3,h4,h5,h6⟩⟩:=h
 ·exact ⟨h1,Or.inl h2⟩
 ·refine ⟨h1,Or.inr ⟨out,rest,h2,?_,h4,h5,h6⟩⟩
  rw [h3,runsD_done]
  by_cases e:rest=[]
  ·rw [if_pos e,if_pos e];unfold comb;rw [if_pos rfl,List.append_nil]
  ·rw [if_neg e,if_neg e];rfl
end Go.Proofs.YtlllmmceoeihkaaGreat.K
namespace Go.Proofs.YtlllmmceoeihkaaGreat.K
open Go.RowKit
theorem sp_get {W m:Nat} {bs:List Int} (hm:0<m) {I:Nat} (h:I/m<bs.length) {i s:Nat} (hi:I/m=i) (hs:W*(I%m)=s):(spread W m bs).getD I 0=bs.getD i 0/2 ^ s%2 ^ W:=by
 rw [spread_get W m hm bs I h,hi,hs]
theorem take_map_succ (f:Int->Int) (sp:List Int) (I:Nat) (h:I<sp.length):(sp.take (I+1)).map f=(sp.take I).map f++[f (sp.getD I 0)]:=by
 rw [List.take_add_one,List.map_append,List.getD_eq_getElem?_getD,List.getElem?_eq_getElem h]
 rfl
set_option maxRecDepth 1000000 in
set_option maxHeartbeats 2000000 in
theorem dpacked_1 (q b g:Nat) (X:Array Value) (l bs Z:List Int) (w:World) (hL:Lefts w q b bs) (hX:IsPal X l) (hn:l.length<=17) (hk:AreKinds l) (hG:Blk w g 122 Z) (hZ:Z.length=32768) (hqg:q<g) (hW:wid l.length=1) :
  Calls Tryz.prog 112 #[.pointer (some ⟨q,0,none⟩),.agg X,.pointer (some ⟨g,0,none⟩)] w (ReadSay (packD l 1 bs) q b g w):=by
 have hq:=hL.lt
 have hg:=hG.lt
 have hXs:=hX.size
 have HX:Hid (IsPal X l):=hX
 have HF:Hid (∀ (E:Int) w',E≠0->packD l 1 bs=(E,[])->Below q w w'->ReadSay (packD l 1 bs) q b g w (gives E) w'):=fun E w' h1 h2 h3=>⟨h3,Or.inl ⟨E,h1,h2,rfl⟩⟩
 have HT:Hid (∀ w' out rest,out.length=32768->packD l 1 bs=(if rest=[] then (0,out) else (2,[]))->Blk w' g 122 out->Lefts w' q b rest->Below q w w'->ReadSay (packD l 1 bs) q b g w (.returned (.tuple #[])) w'):=fun w' out rest h1 h2 h3 h4 h5=>⟨h5,Or.inr ⟨out,rest,h1,h2,rfl,h3,h4⟩⟩
 obtain ⟨Post,hPost⟩:∃ Post,Post=ReadSay (packD l 1 bs) q b g w:=⟨_,rfl⟩
 rw [<- hPost]
 have HP:Hid (Post=ReadSay (packD l 1 bs) q b g w):=hPost
 clear hPost
 have Hw1:Hid (Below w.heap.size w (w.alloc (.cells X 192))):=(Below.refl _ _).alloc (Nat.le_refl _) _
 have hsz:=World.size_alloc w (.cells X 192)
 have HWc:Hid (Calls Tryz.prog 116 #[.agg X] (w.alloc (.cells X 192)) fun e w'=>e = .returned (.int .i64 1)∧Below (w.heap.size+1) (w.alloc (.cells X 192)) w'):=by
  have:=width_c X l (w.alloc (.cells X 192)) hX hn
  rw [hW,hsz] at this
  exact this
 have HS0:Hid (Stand (w.alloc (.cells X 192)) g ([]:List Int)):=⟨Z,hG.below Hw1.out hg,hZ,rfl⟩
 have HL0:Hid (Lefts (w.alloc (.cells X 192)) q b bs):=hL.below Hw1.out hq
 have HB0:Hid (Below q w (w.alloc (.cells X 192))):=Hw1.out.mono (Nat.le_of_lt hq)
 clear hL hX hG hZ Hw1 hsz hW
 go_enter Tryz.func112,Tryz.ntmps112
 go_wp2_with (refine wpList_load_pal rfl (.tmp 4) rfl w.heap.size X rfl (heap_alloc_new w _) hXs ?_)
 refine HWc.out.mono ?_
 clear HWc
 rintro _ w2 ⟨rfl,hb2⟩
 have HX2:Hid (w2.heap[w.heap.size]?=some (.cells X 192 (0,0))):=(hb2.block _ (by omega)).trans (heap_alloc_new w _)
 have HS2:Hid (Stand w2 g ([]:List Int)):=by
  obtain ⟨cs,hC,h2,h3⟩:=HS0.out
  exact ⟨cs,hC.below hb2 (by omega),h2,h3⟩
 have HL2:Hid (Lefts w2 q b bs):=HL0.out.below hb2 (by omega)
 have Hb2:Hid (Below q w w2):=HB0.out.trans (hb2.mono (by omega))
 clear HS0 HL0 HB0 hb2
 have hs:=size_c 1 w2 (by omega)
 go_wp2_with fail
 refine hs.mono ?_
 clear hs
 rintro _ w9 ⟨rfl,e9⟩
 rw [e9]
 clear e9 w9
 by_cases hlen:bs.length<4096
 ·have R:Post (gives 3) w2:=by rw [HP.out];exact HF.out 3 w2 (by omega) (packD_short (by omega)) Hb2.out
  have HTk:Hid (Calls Tryz.prog 108 #[.pointer (some ⟨q,0,none⟩),.int .i64 4096] w2 fun e w'=>e=gives 3∧w'=w2):=ltake_no q b 4096 bs w2 HL2.out hlen
  clear HF HT HP HX2 HS2 HL2 Hb2
  go_wp2_with fail
  refine HTk.out.mono ?_
  rintro _ _ ⟨rfl,rfl⟩
  go_wp2
  exact ⟨rfl,R⟩
 ·have HTk:Hid (Calls Tryz.prog 108 #[.pointer (some ⟨q,0,none⟩),.int .i64 4096] w2 fun e w'=>(∃ off c,e = .returned (.slice (some ⟨b,off,none⟩) 4096 c)∧Bytes w' (some ⟨b,off,none⟩) 4096 (bs.take 4096)∧b<q)∧Lefts w' q b (bs.drop 4096)∧Only q w2 w'):=ltake_yes q b 4096 bs w2 HL2.out (by omega) (by omega)
  obtain ⟨sp,hsp⟩:∃ sp,sp=spread 1 8 (bs.take 4096):=⟨_,rfl⟩
  have htl:(bs.take 4096).length=4096:=by rw [List.length_take];omega
  have HSl:Hid (sp.length=32768):=by show _=_;rw [hsp,spread_len,htl]
  have HSg:Hid (∀ I,I<32768->sp.getD I 0=(bs.take 4096).getD (I/8) 0/2 ^ (I%8)%2 ^ 1):=fun I hI=>by
   rw [hsp]
   exact sp_get (by omega) (by rw [htl];omega) (by omega) (by omega)
  have HF4:Hid (∀ p∈sp,(l.length:Int)<=p->packD l 1 bs=(4,[])):=fun p hp h=>packD_bad (w:=1) (by omega) (by rw [hsp] at hp;exact hp) h
  have HE:Hid ((∀ p∈sp,p<(l.length:Int))->packD l 1 bs=if bs.drop 4096=[] then (0,sp.map fun p=>l.getD p.toNat 0) else (2,[])):=fun h=>by
   rw [packD_end (w:=1) (by omega) (by rw [hsp] at h;exact h),hsp]
   by_cases e:bs.drop 4096=[]
   ·rw [if_pos e,if_neg (by rw [List.drop_eq_nil_iff] at e;omega)]
   ·rw [if_neg e,if_pos (by rw [List.drop_eq_nil_iff] at e;omega)]
  clear hsp htl hlen HL2
  go_wp2_with fail
  refine HTk.out.mono ?_
  clear HTk
  rintro _ w3 ⟨⟨o3,c3,rfl,hB3,hbq⟩,hL3,hO3⟩
  have HB3:Hid (Bytes w3 (some ⟨b,o3,none⟩) 4096 (bs.take 4096)):=hB3
  have HL3:Hid (Lefts w3 q b (bs.drop 4096)):=hL3
  have HX3:Hid (w3.heap[w.heap.size]?=some (.cells X 192 (0,0))):=(hO3.block _ (by omega)).trans HX2.out
  have HS3:Hid (Stand w3 g ([]:List Int)):=by
   obtain ⟨cs,hC,h2,h3⟩:=HS2.out
   exact ⟨cs,hC.only hO3 (by omega),h2,h3⟩
  have Hb3:Hid (Below q w w3):=Hb2.out.trans (hO3.below (Nat.le_refl _))
  clear hB3 hL3 hO3 HX2 HS2 Hb2
  go_wp2
  go_loopw [17] (fun v17 wr=>∃ (I:Nat),I<=32768∧v17 = .int .i64 (I:Int)∧Hid (Stand wr g ((sp.take I).map fun p=>l.getD p.toNat 0))∧Hid (Lefts wr q b (bs.drop 4096))∧Hid (wr.heap[w.heap.size]?=some (.cells X 192 (0,0)))∧Hid (Below q w wr)∧Hid (Bytes wr (some ⟨b,o3,none⟩) 4096 (bs.take 4096))∧Hid (∀ p∈sp.take I,p<(l.length:Int))) (fun v _=>32768-(intOf v).toNat)
  case atStart=>exact ⟨0,by omega,rfl,HS3,HL3,HX3,Hb3,HB3,fun p hp=>by simp at hp⟩
  case round =>
   obtain ⟨I,hI,rfl,HS,HL,HXr,Hb,HB,HA⟩:=hrel
   clear HS3 HL3 HX3 Hb3 HB3
   by_cases hlt:I<32768
   ·have hlt':(I:Int)<32768:=by omega
    obtain ⟨b4,o4,x,e1,cx,x0,x1,hJl,hx⟩:=HB.out.get (I/8) (by omega)
    cases e1
    have hxe:x=(bs.take 4096).getD (I/8) 0:=by rw [List.getD_eq_getElem?_getD,List.getElem?_eq_getElem hJl,hx];rfl
    have hd0:(0:Int)<=x/2 ^ (I%8)∧x/2 ^ (I%8)<=255:=⟨Int.ediv_nonneg x0 (Int.le_of_lt (Int.pow_pos (by omega))),Int.le_trans (Int.ediv_le_self _ x0) x1⟩
    have hand:bits .and .i64 (x/2 ^ (I%8)) 1=(x/2 ^ (I%8))%2:=and_low _ 1 hd0.1 (by omega) (by omega)
    have hsg:=HSg.out I hlt
    rw [<- hxe] at hsg
    obtain ⟨P,hP⟩:=Int.eq_ofNat_of_zero_le (Int.emod_nonneg (x/2 ^ (I%8)) (show (2:Int)≠0 by omega))
    rw [hP] at hand
    have Hs:Hid (sp.getD I 0=(P:Int)):=by
     show _=_
     rw [hsg,<- hP]
     rfl
    have HPb:Hid ((P:Int)<=255):=by
     have:=Int.emod_lt_of_pos (x/2 ^ (I%8)) (show (0:Int)<2 by omega)
     show (P:Int)<=255
     omega
    clear hx hJl hxe hsg hP hd0
    by_cases hfar:l.length<=P
    ·have HR:Hid (∀ w',Below q w w'->Post (gives 4) w'):=fun w' h=>by
      rw [HP.out]
      exact HF.out 4 w' (by omega) (HF4.out (P:Int) (by rw [<- Hs.out];exact getD_mem (by rw [HSl.out];exact hlt)) (by omega)) h
     have hL:=HL.out.lt
     have HK:Hid (∀ w,Calls Tryz.prog 135 #[.agg X,.int .i64 (P:Int)] w fun e w'=>e=gives 4∧Below w.heap.size w w'):=fun w=>kind_no X l P w HX.out (by omega)
     have HqL:Hid (q<wr.heap.size):=hL
     clear HF HT HP HF4 HE HS HB HA HX Hs HPb hL
     go_wp2_with fail
     go_big_quiet (fail)
     go_wp2_with (refine wpList_load_pal rfl (.tmp 4) rfl w.heap.size X rfl (by exact HXr.out) hXs ?_)
     refine (HK.out _).mono ?_
     clear HK
     rintro _ w5 ⟨rfl,hb5⟩
     have R:=HR.out w5 ((below_drewN Hb.out _).trans (hb5.mono (Nat.le_of_lt HqL.out)))
     clear HR hb5
     go_wp2
     exact ⟨rfl,R⟩
    ·have hPl:P<l.length:=by omega
     have HKx:Hid (0<=l.getD P 0∧l.getD P 0<=16):=hk _ (getD_mem hPl)
     have HK:Hid (∀ w,Calls Tryz.prog 135 #[.agg X,.int .i64 (P:Int)] w fun e w'=>e = .returned (.int .i64 (l.getD P 0))∧Below w.heap.size w w'):=fun w=>kind_yes X l P w HX.out hn hPl ⟨HKx.out.1,by have:=HKx.out.2;omega⟩
     have HA2:Hid (∀ p∈sp.take (I+1),p<(l.length:Int)):=fun p hp=>by
      rw [List.take_add_one,List.mem_append] at hp
      rcases hp with hp | hp
      ·exact HA.out p hp
      ·have hI2:I<sp.length:=by rw [HSl.out];exact hlt
       have h3:=Hs.out
       rw [List.getD_eq_getElem?_getD,List.getElem?_eq_getElem hI2,Option.getD_some] at h3
       rw [List.getElem?_eq_getElem hI2,Option.toList_some,List.mem_singleton,h3] at hp
       omega
     have HM:Hid ((sp.take (I+1)).map (fun p=>l.getD p.toNat 0)=(sp.take I).map (fun p=>l.getD p.toNat 0)++[l.getD P 0]):=by
      show _=_
      rw [take_map_succ _ sp I (by rw [HSl.out];exact hlt),Hs.out,Int.toNat_natCast]
     have HML:Hid (((sp.take I).map (fun p=>l.getD p.toNat 0)).length=I):=by show _=_;rw [List.length_map,List.length_take,HSl.out];omega
     obtain ⟨y,hy⟩:∃ y,y=l.getD P 0:=⟨_,rfl⟩
     rw [<- hy] at HKx HK HM
     clear hy hfar hPl Hs HA
     have HLl:Hid (q<wr.heap.size):=HL.out.lt
     have HXl:Hid (w.heap.size<wr.heap.size):=(Array.getElem?_eq_some_iff.1 HXr.out).1
     go_wp2_with fail
     go_big_quiet (fail)
     go_wp2_with (refine wpList_load_pal rfl (.tmp 4) rfl w.heap.size X rfl (by exact HXr.out) hXs ?_)
     refine (HK.out _).mono ?_
     clear HK
     rintro _ w5 ⟨rfl,hb5⟩
     have hb5':Below wr.heap.size wr w5:=⟨hb5.os,hb5.tape,hb5.output,hb5.size,hb5.block⟩
     have hqr:=HLl.out
     have hgr:g<wr.heap.size:=by
      obtain ⟨cs,hC,_⟩:=HS.out
      exact hC.lt
     have HX5:Hid (w5.heap[w.heap.size]?=some (.cells X 192 (0,0))):=(hb5'.block _ HXl.out).trans HXr.out
     have HS5:Hid (Stand w5 g ((sp.take I).map fun p=>l.getD p.toNat 0)):=by
      obtain ⟨cs,hC,h2,h3⟩:=HS.out
      exact ⟨cs,hC.below hb5' hgr,h2,h3⟩
     have HL5:Hid (Lefts w5 q b (bs.drop 4096)):=HL.out.below hb5' hqr
     have Hb5:Hid (Below q w w5):=Hb.out.trans (hb5'.mono (Nat.le_of_lt hqr))
     have HB5:Hid (Bytes w5 (some ⟨b,o3,none⟩) 4096 (bs.take 4096)):=HB.out.under hb5' (by omega)
     clear hb5 hb5' HX HS HL Hb HB HXr hqr hgr HLl HXl
     have HSet:Hid (Calls Tryz.prog 136 #[.pointer (some ⟨g,0,none⟩),.int .i64 (I:Int),.int .i64 y] w5 fun e w'=>e = .returned (.bool (okSet (I:Int) y))∧Stand w' g ((sp.take (I+1)).map fun p=>l.getD p.toNat 0)∧Only g w5 w'):=by
      obtain ⟨cs,hC,h2,h3⟩:=HS5.out
      rw [HML.out] at h3
      refine (set_c g cs (I:Int) y w5 hC h2).mono ?_
      rintro e w' ⟨h4,h5,h6⟩
      refine ⟨h4,?_,h6⟩
      rw [HM.out]
      exact Stand.set (A:=I) (N:=0) h2 HML.out h3 (by omega) (by simpa using h5) HKx.out
     clear HS5
     go_wp2_with fail
     refine HSet.out.mono ?_
     clear HSet
     rintro _ w6 ⟨rfl,hS6,hO6⟩
     have HS6:Hid (Stand w6 g ((sp.take (I+1)).map fun p=>l.getD p.toNat 0)):=hS6
     have HL6:Hid (Lefts w6 q b (bs.drop 4096)):=HL5.out.only hO6 hqg
     have HX6:Hid (w6.heap[w.heap.size]?=some (.cells X 192 (0,0))):=(hO6.block _ (by omega)).trans HX5.out
     have Hb6:Hid (Below q w w6):=Hb5.out.trans (hO6.below (by omega))
     have HB6:Hid (Bytes w6 (some ⟨b,o3,none⟩) 4096 (bs.take 4096)):=HB5.out.under (hO6.below (Nat.le_refl _)) (by omega)
     clear hS6 hO6 HL5 HX5 Hb5 HB5
     go_wp2
     go_roundw
     case rel=>exact ⟨I+1,by omega,by go_num,HS6,HL6,HX6,Hb6,HB6,HA2⟩
     case measure=>simp [intOf];omega
   ·obtain rfl:I=32768:=by omega
    have hlt':¬ (32768:Int)<32768:=by omega
    obtain ⟨cs,hC,hcl,htk⟩:=HS.out
    have htake:sp.take 32768=sp:=List.take_of_length_le (Nat.le_of_eq HSl.out)
    have R:Post (.returned (.tuple #[])) wr:=by
     rw [HP.out]
     have ha:=HA.out
     rw [htake] at ha htk
     rw [List.length_map,HSl.out,List.take_of_length_le (by omega)] at htk
     refine HT.out wr cs (bs.drop 4096) hcl ?_ hC HL.out Hb.out
     rw [HE.out ha,htk]
    clear HF HT HP HF4 HE HS HL HXr Hb HX hC hcl htk HA HB htake
    go_wp2
    go_end0
    exact R
set_option maxRecDepth 1000000 in
set_option maxHeartbeats 2000000 in
theorem dpacked_2 (q b g:Nat) (X:Array Value) (l bs Z:List Int) (w:World) (hL:Lefts w q b bs) (hX:IsPal X l) (hn:l.length<=17) (hk:AreKinds l) (hG:Blk w g 122 Z) (hZ:Z.length=32768) (hqg:q<g) (hW:wid l.length=2) :
  Calls Tryz.prog 112 #[.pointer (some ⟨q,0,none⟩),.agg X,.pointer (some ⟨g,0,none⟩)] w (ReadSay (packD l 2 bs) q b g w):=by
 have hq:=hL.lt
 have hg:=hG.lt
 have hXs:=hX.size
 have HX:Hid (IsPal X l):=hX
 have HF:Hid (∀ (E:Int) w',E≠0->packD l 2 bs=(E,[])->Below q w w'->ReadSay (packD l 2 bs) q b g w (gives E) w'):=fun E w' h1 h2 h3=>⟨h3,Or.inl ⟨E,h1,h2,rfl⟩⟩
 have HT:Hid (∀ w' out rest,out.length=32768->packD l 2 bs=(if rest=[] then (0,out) else (2,[]))->Blk w' g 122 out->Lefts w' q b rest->Below q w w'->ReadSay (packD l 2 bs) q b g w (.returned (.tuple #[])) w'):=fun w' out rest h1 h2 h3 h4 h5=>⟨h5,Or.inr ⟨out,rest,h1,h2,rfl,h3,h4⟩⟩
 obtain ⟨Post,hPost⟩:∃ Post,Post=ReadSay (packD l 2 bs) q b g w:=⟨_,rfl⟩
 rw [<- hPost]
 have HP:Hid (Post=ReadSay (packD l 2 bs) q b g w):=hPost
 clear hPost
 have Hw1:Hid (Below w.heap.size w (w.alloc (.cells X 192))):=(Below.refl _ _).alloc (Nat.le_refl _) _
 have hsz:=World.size_alloc w (.cells X 192)
 have HWc:Hid (Calls Tryz.prog 116 #[.agg X] (w.alloc (.cells X 192)) fun e w'=>e = .returned (.int .i64 2)∧Below (w.heap.size+1) (w.alloc (.cells X 192)) w'):=by
  have:=width_c X l (w.alloc (.cells X 192)) hX hn
  rw [hW,hsz] at this
  exact this
 have HS0:Hid (Stand (w.alloc (.cells X 192)) g ([]:List Int)):=⟨Z,hG.below Hw1.out hg,hZ,rfl⟩
 have HL0:Hid (Lefts (w.alloc (.cells X 192)) q b bs):=hL.below Hw1.out hq
 have HB0:Hid (Below q w (w.alloc (.cells X 192))):=Hw1.out.mono (Nat.le_of_lt hq)
 clear hL hX hG hZ Hw1 hsz hW
 go_enter Tryz.func112,Tryz.ntmps112
 go_wp2_with (refine wpList_load_pal rfl (.tmp 4) rfl w.heap.size X rfl (heap_alloc_new w _) hXs ?_)
 refine HWc.out.mono ?_
 clear HWc
 rintro _ w2 ⟨rfl,hb2⟩
 have HX2:Hid (w2.heap[w.heap.size]?=some (.cells X 192 (0,0))):=(hb2.block _ (by omega)).trans (heap_alloc_new w _)
 have HS2:Hid (Stand w2 g ([]:List Int)):=by
  obtain ⟨cs,hC,h2,h3⟩:=HS0.out
  exact ⟨cs,hC.below hb2 (by omega),h2,h3⟩
 have HL2:Hid (Lefts w2 q b bs):=HL0.out.below hb2 (by omega)
 have Hb2:Hid (Below q w w2):=HB0.out.trans (hb2.mono (by omega))
 clear HS0 HL0 HB0 hb2
 have hs:=size_c 2 w2 (by omega)
 go_wp2_with fail
 refine hs.mono ?_
 clear hs
 rintro _ w9 ⟨rfl,e9⟩
 rw [e9]
 clear e9 w9
 by_cases hlen:bs.length<8192
 ·have R:Post (gives 3) w2:=by rw [HP.out];exact HF.out 3 w2 (by omega) (packD_short (by omega)) Hb2.out
  have HTk:Hid (Calls Tryz.prog 108 #[.pointer (some ⟨q,0,none⟩),.int .i64 8192] w2 fun e w'=>e=gives 3∧w'=w2):=ltake_no q b 8192 bs w2 HL2.out hlen
  clear HF HT HP HX2 HS2 HL2 Hb2
  go_wp2_with fail
  refine HTk.out.mono ?_
  rintro _ _ ⟨rfl,rfl⟩
  go_wp2
  exact ⟨rfl,R⟩
 ·have HTk:Hid (Calls Tryz.prog 108 #[.pointer (some ⟨q,0,none⟩),.int .i64 8192] w2 fun e w'=>(∃ off c,e = .returned (.slice (some ⟨b,off,none⟩) 8192 c)∧Bytes w' (some ⟨b,off,none⟩) 8192 (bs.take 8192)∧b<q)∧Lefts w' q b (bs.drop 8192)∧Only q w2 w'):=ltake_yes q b 8192 bs w2 HL2.out (by omega) (by omega)
  obtain ⟨sp,hsp⟩:∃ sp,sp=spread 2 4 (bs.take 8192):=⟨_,rfl⟩
  have htl:(bs.take 8192).length=8192:=by rw [List.length_take];omega
  have HSl:Hid (sp.length=32768):=by show _=_;rw [hsp,spread_len,htl]
  have HSg:Hid (∀ I,I<32768->sp.getD I 0=(bs.take 8192).getD (I*2/8) 0/2 ^ (I*2%8)%2 ^ 2):=fun I hI=>by
   rw [hsp]
   exact sp_get (by omega) (by rw [htl];omega) (by omega) (by omega)
  have HF4:Hid (∀ p∈sp,(l.length:Int)<=p->packD l 2 bs=(4,[])):=fun p hp h=>packD_bad (w:=2) (by omega) (by rw [hsp] at hp;exact hp) h
  have HE:Hid ((∀ p∈sp,p<(l.length:Int))->packD l 2 bs=if bs.drop 8192=[] then (0,sp.map fun p=>l.getD p.toNat 0) else (2,[])):=fun h=>by
   rw [packD_end (w:=2) (by omega) (by rw [hsp] at h;exact h),hsp]
   by_cases e:bs.drop 8192=[]
   ·rw [if_pos e,if_neg (by rw [List.drop_eq_nil_iff] at e;omega)]
   ·rw [if_neg e,if_pos (by rw [List.drop_eq_nil_iff] at e;omega)]
  clear hsp htl hlen HL2
  go_wp2_with fail
  refine HTk.out.mono ?_
  clear HTk
  rintro _ w3 ⟨⟨o3,c3,rfl,hB3,hbq⟩,hL3,hO3⟩
  have HB3:Hid (Bytes w3 (some ⟨b,o3,none⟩) 8192 (bs.take 8192)):=hB3
  have HL3:Hid (Lefts w3 q b (bs.drop 8192)):=hL3
  have HX3:Hid (w3.heap[w.heap.size]?=some (.cells X 192 (0,0))):=(hO3.block _ (by omega)).trans HX2.out
  have HS3:Hid (Stand w3 g ([]:List Int)):=by
   obtain ⟨cs,hC,h2,h3⟩:=HS2.out
   exact ⟨cs,hC.only hO3 (by omega),h2,h3⟩
  have Hb3:Hid (Below q w w3):=Hb2.out.trans (hO3.below (Nat.le_refl _))
  clear hB3 hL3 hO3 HX2 HS2 Hb2
  go_wp2
  go_loopw [17] (fun v17 wr=>∃ (I:Nat),I<=32768∧v17 = .int .i64 (I:Int)∧Hid (Stand wr g ((sp.take I).map fun p=>l.getD p.toNat 0))∧Hid (Lefts wr q b (bs.drop 8192))∧Hid (wr.heap[w.heap.size]?=some (.cells X 192 (0,0)))∧Hid (Below q w wr)∧Hid (Bytes wr (some ⟨b,o3,none⟩) 8192 (bs.take 8192))∧Hid (∀ p∈sp.take I,p<(l.length:Int))) (fun v _=>32768-(intOf v).toNat)
  case atStart=>exact ⟨0,by omega,rfl,HS3,HL3,HX3,Hb3,HB3,fun p hp=>by simp at hp⟩
  case round =>
   obtain ⟨I,hI,rfl,HS,HL,HXr,Hb,HB,HA⟩:=hrel
   clear HS3 HL3 HX3 Hb3 HB3
   by_cases hlt:I<32768
   ·have hlt':(I:Int)<32768:=by omega
    obtain ⟨b4,o4,x,e1,cx,x0,x1,hJl,hx⟩:=HB.out.get (I*2/8) (by omega)
    cases e1
    have hxe:x=(bs.take 8192).getD (I*2/8) 0:=by rw [List.getD_eq_getElem?_getD,List.getElem?_eq_getElem hJl,hx];rfl
    have hd0:(0:Int)<=x/2 ^ (I*2%8)∧x/2 ^ (I*2%8)<=255:=⟨Int.ediv_nonneg x0 (Int.le_of_lt (Int.pow_pos (by omega))),Int.le_trans (Int.ediv_le_self _ x0) x1⟩
    have hand:bits .and .i64 (x/2 ^ (I*2%8)) 3=(x/2 ^ (I*2%8))%4:=and_low _ 2 hd0.1 (by omega) (by omega)
    have hsg:=HSg.out I hlt
    rw [<- hxe] at hsg
    obtain ⟨P,hP⟩:=Int.eq_ofNat_of_zero_le (Int.emod_nonneg (x/2 ^ (I*2%8)) (show (4:Int)≠0 by omega))
    rw [hP] at hand
    have Hs:Hid (sp.getD I 0=(P:Int)):=by
     show _=_
     rw [hsg,<- hP]
     rfl
    have HPb:Hid ((P:Int)<=255):=by
     have:=Int.emod_lt_of_pos (x/2 ^ (I*2%8)) (show (0:Int)<4 by omega)
     show (P:Int)<=255
     omega
    clear hx hJl hxe hsg hP hd0
    by_cases hfar:l.length<=P
    ·have HR:Hid (∀ w',Below q w w'->Post (gives 4) w'):=fun w' h=>by
      rw [HP.out]
      exact HF.out 4 w' (by omega) (HF4.out (P:Int) (by rw [<- Hs.out];exact getD_mem (by rw [HSl.out];exact hlt)) (by omega)) h
     have hL:=HL.out.lt
     have HK:Hid (∀ w,Calls Tryz.prog 135 #[.agg X,.int .i64 (P:Int)] w fun e w'=>e=gives 4∧Below w.heap.size w w'):=fun w=>kind_no X l P w HX.out (by omega)
     have HqL:Hid (q<wr.heap.size):=hL
     clear HF HT HP HF4 HE HS HB HA HX Hs HPb hL
     go_wp2_with fail
     go_big_quiet (fail)
     go_wp2_with (refine wpList_load_pal rfl (.tmp 4) rfl w.heap.size X rfl (by exact HXr.out) hXs ?_)
     refine (HK.out _).mono ?_
     clear HK
     rintro _ w5 ⟨rfl,hb5⟩
     have R:=HR.out w5 ((below_drewN Hb.out _).trans (hb5.mono (Nat.le_of_lt HqL.out)))
     clear HR hb5
     go_wp2
     exact ⟨rfl,R⟩
    ·have hPl:P<l.length:=by omega
     have HKx:Hid (0<=l.getD P 0∧l.getD P 0<=16):=hk _ (getD_mem hPl)
     have HK:Hid (∀ w,Calls Tryz.prog 135 #[.agg X,.int .i64 (P:Int)] w fun e w'=>e = .returned (.int .i64 (l.getD P 0))∧Below w.heap.size w w'):=fun w=>kind_yes X l P w HX.out hn hPl ⟨HKx.out.1,by have:=HKx.out.2;omega⟩
     have HA2:Hid (∀ p∈sp.take (I+1),p<(l.length:Int)):=fun p hp=>by
      rw [List.take_add_one,List.mem_append] at hp
      rcases hp with hp | hp
      ·exact HA.out p hp
      ·have hI2:I<sp.length:=by rw [HSl.out];exact hlt
       have h3:=Hs.out
       rw [List.getD_eq_getElem?_getD,List.getElem?_eq_getElem hI2,Option.getD_some] at h3
       rw [List.getElem?_eq_getElem hI2,Option.toList_some,List.mem_singleton,h3] at hp
       omega
     have HM:Hid ((sp.take (I+1)).map (fun p=>l.getD p.toNat 0)=(sp.take I).map (fun p=>l.getD p.toNat 0)++[l.getD P 0]):=by
      show _=_
      rw [take_map_succ _ sp I (by rw [HSl.out];exact hlt),Hs.out,Int.toNat_natCast]
     have HML:Hid (((sp.take I).map (fun p=>l.getD p.toNat 0)).length=I):=by show _=_;rw [List.length_map,List.length_take,HSl.out];omega
     obtain ⟨y,hy⟩:∃ y,y=l.getD P 0:=⟨_,rfl⟩
     rw [<- hy] at HKx HK HM
     clear hy hfar hPl Hs HA
     have HLl:Hid (q<wr.heap.size):=HL.out.lt
     have HXl:Hid (w.heap.size<wr.heap.size):=(Array.getElem?_eq_some_iff.1 HXr.out).1
     go_wp2_with fail
     go_big_quiet (fail)
     go_wp2_with (refine wpList_load_pal rfl (.tmp 4) rfl w.heap.size X rfl (by exact HXr.out) hXs ?_)
     refine (HK.out _).mono ?_
     clear HK
     rintro _ w5 ⟨rfl,hb5⟩
     have hb5':Below wr.heap.size wr w5:=⟨hb5.os,hb5.tape,hb5.output,hb5.size,hb5.block⟩
     have hqr:=HLl.out
     have hgr:g<wr.heap.size:=by
      obtain ⟨cs,hC,_⟩:=HS.out
      exact hC.lt
     have HX5:Hid (w5.heap[w.heap.size]?=some (.cells X 192 (0,0))):=(hb5'.block _ HXl.out).trans HXr.out
     have HS5:Hid (Stand w5 g ((sp.take I).map fun p=>l.getD p.toNat 0)):=by
      obtain ⟨cs,hC,h2,h3⟩:=HS.out
      exact ⟨cs,hC.below hb5' hgr,h2,h3⟩
     have HL5:Hid (Lefts w5 q b (bs.drop 8192)):=HL.out.below hb5' hqr
     have Hb5:Hid (Below q w w5):=Hb.out.trans (hb5'.mono (Nat.le_of_lt hqr))
     have HB5:Hid (Bytes w5 (some ⟨b,o3,none⟩) 8192 (bs.take 8192)):=HB.out.under hb5' (by omega)
     clear hb5 hb5' HX HS HL Hb HB HXr hqr hgr HLl HXl
     have HSet:Hid (Calls Tryz.prog 136 #[.pointer (some ⟨g,0,none⟩),.int .i64 (I:Int),.int .i64 y] w5 fun e w'=>e = .returned (.bool (okSet (I:Int) y))∧Stand w' g ((sp.take (I+1)).map fun p=>l.getD p.toNat 0)∧Only g w5 w'):=by
      obtain ⟨cs,hC,h2,h3⟩:=HS5.out
      rw [HML.out] at h3
      refine (set_c g cs (I:Int) y w5 hC h2).mono ?_
      rintro e w' ⟨h4,h5,h6⟩
      refine ⟨h4,?_,h6⟩
      rw [HM.out]
      exact Stand.set (A:=I) (N:=0) h2 HML.out h3 (by omega) (by simpa using h5) HKx.out
     clear HS5
     go_wp2_with fail
     refine HSet.out.mono ?_
     clear HSet
     rintro _ w6 ⟨rfl,hS6,hO6⟩
     have HS6:Hid (Stand w6 g ((sp.take (I+1)).map fun p=>l.getD p.toNat 0)):=hS6
     have HL6:Hid (Lefts w6 q b (bs.drop 8192)):=HL5.out.only hO6 hqg
     have HX6:Hid (w6.heap[w.heap.size]?=some (.cells X 192 (0,0))):=(hO6.block _ (by omega)).trans HX5.out
     have Hb6:Hid (Below q w w6):=Hb5.out.trans (hO6.below (by omega))
     have HB6:Hid (Bytes w6 (some ⟨b,o3,none⟩) 8192 (bs.take 8192)):=HB5.out.under (hO6.below (Nat.le_refl _)) (by omega)
     clear hS6 hO6 HL5 HX5 Hb5 HB5
     go_wp2
     go_roundw
     case rel=>exact ⟨I+1,by omega,by go_num,HS6,HL6,HX6,Hb6,HB6,HA2⟩
     case measure=>simp [intOf];omega
   ·obtain rfl:I=32768:=by omega
    have hlt':¬ (32768:Int)<32768:=by omega
    obtain ⟨cs,hC,hcl,htk⟩:=HS.out
    have htake:sp.take 32768=sp:=List.take_of_length_le (Nat.le_of_eq HSl.out)
    have R:Post (.returned (.tuple #[])) wr:=by
     rw [HP.out]
     have ha:=HA.out
     rw [htake] at ha htk
     rw [List.length_map,HSl.out,List.take_of_length_le (by omega)] at htk
     refine HT.out wr cs (bs.drop 8192) hcl ?_ hC HL.out Hb.out
     rw [HE.out ha,htk]
    clear HF HT HP HF4 HE HS HL HXr Hb HX hC hcl htk HA HB htake
    go_wp2
    go_end0
    exact R
set_option maxRecDepth 1000000 in
set_option maxHeartbeats 2000000 in
theorem dpacked_4 (q b g:Nat) (X:Array Value) (l bs Z:List Int) (w:World) (hL:Lefts w q b bs) (hX:IsPal X l) (hn:l.length<=17) (hk:AreKinds l) (hG:Blk w g 122 Z) (hZ:Z.length=32768) (hqg:q<g) (hW:wid l.length=4) :
  Calls Tryz.prog 112 #[.pointer (some ⟨q,0,none⟩),.agg X,.pointer (some ⟨g,0,none⟩)] w (ReadSay (packD l 4 bs) q b g w):=by
 have hq:=hL.lt
 have hg:=hG.lt
 have hXs:=hX.size
 have HX:Hid (IsPal X l):=hX
 have HF:Hid (∀ (E:Int) w',E≠0->packD l 4 bs=(E,[])->Below q w w'->ReadSay (packD l 4 bs) q b g w (gives E) w'):=fun E w' h1 h2 h3=>⟨h3,Or.inl ⟨E,h1,h2,rfl⟩⟩
 have HT:Hid (∀ w' out rest,out.length=32768->packD l 4 bs=(if rest=[] then (0,out) else (2,[]))->Blk w' g 122 out->Lefts w' q b rest->Below q w w'->ReadSay (packD l 4 bs) q b g w (.returned (.tuple #[])) w'):=fun w' out rest h1 h2 h3 h4 h5=>⟨h5,Or.inr ⟨out,rest,h1,h2,rfl,h3,h4⟩⟩
 obtain ⟨Post,hPost⟩:∃ Post,Post=ReadSay (packD l 4 bs) q b g w:=⟨_,rfl⟩
 rw [<- hPost]
 have HP:Hid (Post=ReadSay (packD l 4 bs) q b g w):=hPost
 clear hPost
 have Hw1:Hid (Below w.heap.size w (w.alloc (.cells X 192))):=(Below.refl _ _).alloc (Nat.le_refl _) _
 have hsz:=World.size_alloc w (.cells X 192)
 have HWc:Hid (Calls Tryz.prog 116 #[.agg X] (w.alloc (.cells X 192)) fun e w'=>e = .returned (.int .i64 4)∧Below (w.heap.size+1) (w.alloc (.cells X 192)) w'):=by
  have:=width_c X l (w.alloc (.cells X 192)) hX hn
  rw [hW,hsz] at this
  exact this
 have HS0:Hid (Stand (w.alloc (.cells X 192)) g ([]:List Int)):=⟨Z,hG.below Hw1.out hg,hZ,rfl⟩
 have HL0:Hid (Lefts (w.alloc (.cells X 192)) q b bs):=hL.below Hw1.out hq
 have HB0:Hid (Below q w (w.alloc (.cells X 192))):=Hw1.out.mono (Nat.le_of_lt hq)
 clear hL hX hG hZ Hw1 hsz hW
 go_enter Tryz.func112,Tryz.ntmps112
 go_wp2_with (refine wpList_load_pal rfl (.tmp 4) rfl w.heap.size X rfl (heap_alloc_new w _) hXs ?_)
 refine HWc.out.mono ?_
 clear HWc
 rintro _ w2 ⟨rfl,hb2⟩
 have HX2:Hid (w2.heap[w.heap.size]?=some (.cells X 192 (0,0))):=(hb2.block _ (by omega)).trans (heap_alloc_new w _)
 have HS2:Hid (Stand w2 g ([]:List Int)):=by
  obtain ⟨cs,hC,h2,h3⟩:=HS0.out
  exact ⟨cs,hC.below hb2 (by omega),h2,h3⟩
 have HL2:Hid (Lefts w2 q b bs):=HL0.out.below hb2 (by omega)
 have Hb2:Hid (Below q w w2):=HB0.out.trans (hb2.mono (by omega))
 clear HS0 HL0 HB0 hb2
 have hs:=size_c 4 w2 (by omega)
 go_wp2_with fail
 refine hs.mono ?_
 clear hs
 rintro _ w9 ⟨rfl,e9⟩
 rw [e9]
 clear e9 w9
 by_cases hlen:bs.length<16384
 ·have R:Post (gives 3) w2:=by rw [HP.out];exact HF.out 3 w2 (by omega) (packD_short (by omega)) Hb2.out
  have HTk:Hid (Calls Tryz.prog 108 #[.pointer (some ⟨q,0,none⟩),.int .i64 16384] w2 fun e w'=>e=gives 3∧w'=w2):=ltake_no q b 16384 bs w2 HL2.out hlen
  clear HF HT HP HX2 HS2 HL2 Hb2
  go_wp2_with fail
  refine HTk.out.mono ?_
  rintro _ _ ⟨rfl,rfl⟩
  go_wp2
  exact ⟨rfl,R⟩
 ·have HTk:Hid (Calls Tryz.prog 108 #[.pointer (some ⟨q,0,none⟩),.int .i64 16384] w2 fun e w'=>(∃ off c,e = .returned (.slice (some ⟨b,off,none⟩) 16384 c)∧Bytes w' (some ⟨b,off,none⟩) 16384 (bs.take 16384)∧b<q)∧Lefts w' q b (bs.drop 16384)∧Only q w2 w'):=ltake_yes q b 16384 bs w2 HL2.out (by omega) (by omega)
  obtain ⟨sp,hsp⟩:∃ sp,sp=spread 4 2 (bs.take 16384):=⟨_,rfl⟩
  have htl:(bs.take 16384).length=16384:=by rw [List.length_take];omega
  have HSl:Hid (sp.length=32768):=by show _=_;rw [hsp,spread_len,htl]
  have HSg:Hid (∀ I,I<32768->sp.getD I 0=(bs.take 16384).getD (I*4/8) 0/2 ^ (I*4%8)%2 ^ 4):=fun I hI=>by
   rw [hsp]
   exact sp_get (by omega) (by rw [htl];omega) (by omega) (by omega)
  have HF4:Hid (∀ p∈sp,(l.length:Int)<=p->packD l 4 bs=(4,[])):=fun p hp h=>packD_bad (w:=4) (by omega) (by rw [hsp] at hp;exact hp) h
  have HE:Hid ((∀ p∈sp,p<(l.length:Int))->packD l 4 bs=if bs.drop 16384=[] then (0,sp.map fun p=>l.getD p.toNat 0) else (2,[])):=fun h=>by
   rw [packD_end (w:=4) (by omega) (by rw [hsp] at h;exact h),hsp]
   by_cases e:bs.drop 16384=[]
   ·rw [if_pos e,if_neg (by rw [List.drop_eq_nil_iff] at e;omega)]
   ·rw [if_neg e,if_pos (by rw [List.drop_eq_nil_iff] at e;omega)]
  clear hsp htl hlen HL2
  go_wp2_with fail
  refine HTk.out.mono ?_
  clear HTk
  rintro _ w3 ⟨⟨o3,c3,rfl,hB3,hbq⟩,hL3,hO3⟩
  have HB3:Hid (Bytes w3 (some ⟨b,o3,none⟩) 16384 (bs.take 16384)):=hB3
  have HL3:Hid (Lefts w3 q b (bs.drop 16384)):=hL3
  have HX3:Hid (w3.heap[w.heap.size]?=some (.cells X 192 (0,0))):=(hO3.block _ (by omega)).trans HX2.out
  have HS3:Hid (Stand w3 g ([]:List Int)):=by
   obtain ⟨cs,hC,h2,h3⟩:=HS2.out
   exact ⟨cs,hC.only hO3 (by omega),h2,h3⟩
  have Hb3:Hid (Below q w w3):=Hb2.out.trans (hO3.below (Nat.le_refl _))
  clear hB3 hL3 hO3 HX2 HS2 Hb2
  go_wp2
  go_loopw [17] (fun v17 wr=>∃ (I:Nat),I<=32768∧v17 = .int .i64 (I:Int)∧Hid (Stand wr g ((sp.take I).map fun p=>l.getD p.toNat 0))∧Hid (Lefts wr q b (bs.drop 16384))∧Hid (wr.heap[w.heap.size]?=some (.cells X 192 (0,0)))∧Hid (Below q w wr)∧Hid (Bytes wr (some ⟨b,o3,none⟩) 16384 (bs.take 16384))∧Hid (∀ p∈sp.take I,p<(l.length:Int))) (fun v _=>32768-(intOf v).toNat)
  case atStart=>exact ⟨0,by omega,rfl,HS3,HL3,HX3,Hb3,HB3,fun p hp=>by simp at hp⟩
  case round =>
   obtain ⟨I,hI,rfl,HS,HL,HXr,Hb,HB,HA⟩:=hrel
   clear HS3 HL3 HX3 Hb3 HB3
   by_cases hlt:I<32768
   ·have hlt':(I:Int)<32768:=by omega
    obtain ⟨b4,o4,x,e1,cx,x0,x1,hJl,hx⟩:=HB.out.get (I*4/8) (by omega)
    cases e1
    have hxe:x=(bs.take 16384).getD (I*4/8) 0:=by rw [List.getD_eq_getElem?_getD,List.getElem?_eq_getElem hJl,hx];rfl
    have hd0:(0:Int)<=x/2 ^ (I*4%8)∧x/2 ^ (I*4%8)<=255:=⟨Int.ediv_nonneg x0 (Int.le_of_lt (Int.pow_pos (by omega))),Int.le_trans (Int.ediv_le_self _ x0) x1⟩
    have hand:bits .and .i64 (x/2 ^ (I*4%8)) 15=(x/2 ^ (I*4%8))%16:=and_low _ 4 hd0.1 (by omega) (by omega)
    have hsg:=HSg.out I hlt
    rw [<- hxe] at hsg
    obtain ⟨P,hP⟩:=Int.eq_ofNat_of_zero_le (Int.emod_nonneg (x/2 ^ (I*4%8)) (show (16:Int)≠0 by omega))
    rw [hP] at hand
    have Hs:Hid (sp.getD I 0=(P:Int)):=by
     show _=_
     rw [hsg,<- hP]
     rfl
    have HPb:Hid ((P:Int)<=255):=by
     have:=Int.emod_lt_of_pos (x/2 ^ (I*4%8)) (show (0:Int)<16 by omega)
     show (P:Int)<=255
     omega
    clear hx hJl hxe hsg hP hd0
    by_cases hfar:l.length<=P
    ·have HR:Hid (∀ w',Below q w w'->Post (gives 4) w'):=fun w' h=>by
      rw [HP.out]
      exact HF.out 4 w' (by omega) (HF4.out (P:Int) (by rw [<- Hs.out];exact getD_mem (by rw [HSl.out];exact hlt)) (by omega)) h
     have hL:=HL.out.lt
     have HK:Hid (∀ w,Calls Tryz.prog 135 #[.agg X,.int .i64 (P:Int)] w fun e w'=>e=gives 4∧Below w.heap.size w w'):=fun w=>kind_no X l P w HX.out (by omega)
     have HqL:Hid (q<wr.heap.size):=hL
     clear HF HT HP HF4 HE HS HB HA HX Hs HPb hL
     go_wp2_with fail
     go_big_quiet (fail)
     go_wp2_with (refine wpList_load_pal rfl (.tmp 4) rfl w.heap.size X rfl (by exact HXr.out) hXs ?_)
     refine (HK.out _).mono ?_
     clear HK
     rintro _ w5 ⟨rfl,hb5⟩
     have R:=HR.out w5 ((below_drewN Hb.out _).trans (hb5.mono (Nat.le_of_lt HqL.out)))
     clear HR hb5
     go_wp2
     exact ⟨rfl,R⟩
    ·have hPl:P<l.length:=by omega
     have HKx:Hid (0<=l.getD P 0∧l.getD P 0<=16):=hk _ (getD_mem hPl)
     have HK:Hid (∀ w,Calls Tryz.prog 135 #[.agg X,.int .i64 (P:Int)] w fun e w'=>e = .returned (.int .i64 (l.getD P 0))∧Below w.heap.size w w'):=fun w=>kind_yes X l P w HX.out hn hPl ⟨HKx.out.1,by have:=HKx.out.2;omega⟩
     have HA2:Hid (∀ p∈sp.take (I+1),p<(l.length:Int)):=fun p hp=>by
      rw [List.take_add_one,List.mem_append] at hp
      rcases hp with hp | hp
      ·exact HA.out p hp
      ·have hI2:I<sp.length:=by rw [HSl.out];exact hlt
       have h3:=Hs.out
       rw [List.getD_eq_getElem?_getD,List.getElem?_eq_getElem hI2,Option.getD_some] at h3
       rw [List.getElem?_eq_getElem hI2,Option.toList_some,List.mem_singleton,h3] at hp
       omega
     have HM:Hid ((sp.take (I+1)).map (fun p=>l.getD p.toNat 0)=(sp.take I).map (fun p=>l.getD p.toNat 0)++[l.getD P 0]):=by
      show _=_
      rw [take_map_succ _ sp I (by rw [HSl.out];exact hlt),Hs.out,Int.toNat_natCast]
     have HML:Hid (((sp.take I).map (fun p=>l.getD p.toNat 0)).length=I):=by show _=_;rw [List.length_map,List.length_take,HSl.out];omega
     obtain ⟨y,hy⟩:∃ y,y=l.getD P 0:=⟨_,rfl⟩
     rw [<- hy] at HKx HK HM
     clear hy hfar hPl Hs HA
     have HLl:Hid (q<wr.heap.size):=HL.out.lt
     have HXl:Hid (w.heap.size<wr.heap.size):=(Array.getElem?_eq_some_iff.1 HXr.out).1
     go_wp2_with fail
     go_big_quiet (fail)
     go_wp2_with (refine wpList_load_pal rfl (.tmp 4) rfl w.heap.size X rfl (by exact HXr.out) hXs ?_)
     refine (HK.out _).mono ?_
     clear HK
     rintro _ w5 ⟨rfl,hb5⟩
     have hb5':Below wr.heap.size wr w5:=⟨hb5.os,hb5.tape,hb5.output,hb5.size,hb5.block⟩
     have hqr:=HLl.out
     have hgr:g<wr.heap.size:=by
      obtain ⟨cs,hC,_⟩:=HS.out
      exact hC.lt
     have HX5:Hid (w5.heap[w.heap.size]?=some (.cells X 192 (0,0))):=(hb5'.block _ HXl.out).trans HXr.out
     have HS5:Hid (Stand w5 g ((sp.take I).map fun p=>l.getD p.toNat 0)):=by
      obtain ⟨cs,hC,h2,h3⟩:=HS.out
      exact ⟨cs,hC.below hb5' hgr,h2,h3⟩
     have HL5:Hid (Lefts w5 q b (bs.drop 16384)):=HL.out.below hb5' hqr
     have Hb5:Hid (Below q w w5):=Hb.out.trans (hb5'.mono (Nat.le_of_lt hqr))
     have HB5:Hid (Bytes w5 (some ⟨b,o3,none⟩) 16384 (bs.take 16384)):=HB.out.under hb5' (by omega)
     clear hb5 hb5' HX HS HL Hb HB HXr hqr hgr HLl HXl
     have HSet:Hid (Calls Tryz.prog 136 #[.pointer (some ⟨g,0,none⟩),.int .i64 (I:Int),.int .i64 y] w5 fun e w'=>e = .returned (.bool (okSet (I:Int) y))∧Stand w' g ((sp.take (I+1)).map fun p=>l.getD p.toNat 0)∧Only g w5 w'):=by
      obtain ⟨cs,hC,h2,h3⟩:=HS5.out
      rw [HML.out] at h3
      refine (set_c g cs (I:Int) y w5 hC h2).mono ?_
      rintro e w' ⟨h4,h5,h6⟩
      refine ⟨h4,?_,h6⟩
      rw [HM.out]
      exact Stand.set (A:=I) (N:=0) h2 HML.out h3 (by omega) (by simpa using h5) HKx.out
     clear HS5
     go_wp2_with fail
     refine HSet.out.mono ?_
     clear HSet
     rintro _ w6 ⟨rfl,hS6,hO6⟩
     have HS6:Hid (Stand w6 g ((sp.take (I+1)).map fun p=>l.getD p.toNat 0)):=hS6
     have HL6:Hid (Lefts w6 q b (bs.drop 16384)):=HL5.out.only hO6 hqg
     have HX6:Hid (w6.heap[w.heap.size]?=some (.cells X 192 (0,0))):=(hO6.block _ (by omega)).trans HX5.out
     have Hb6:Hid (Below q w w6):=Hb5.out.trans (hO6.below (by omega))
     have HB6:Hid (Bytes w6 (some ⟨b,o3,none⟩) 16384 (bs.take 16384)):=HB5.out.under (hO6.below (Nat.le_refl _)) (by omega)
     clear hS6 hO6 HL5 HX5 Hb5 HB5
     go_wp2
     go_roundw
     case rel=>exact ⟨I+1,by omega,by go_num,HS6,HL6,HX6,Hb6,HB6,HA2⟩
     case measure=>simp [intOf];omega
   ·obtain rfl:I=32768:=by omega
    have hlt':¬ (32768:Int)<32768:=by omega
    obtain ⟨cs,hC,hcl,htk⟩:=HS.out
    have htake:sp.take 32768=sp:=List.take_of_length_le (Nat.le_of_eq HSl.out)
    have R:Post (.returned (.tuple #[])) wr:=by
     rw [HP.out]
     have ha:=HA.out
     rw [htake] at ha htk
     rw [List.length_map,HSl.out,List.take_of_length_le (by omega)] at htk
     refine HT.out wr cs (bs.drop 16384) hcl ?_ hC HL.out Hb.out
     rw [HE.out ha,htk]
    clear HF HT HP HF4 HE HS HL HXr Hb HX hC hcl htk HA HB htake
    go_wp2
    go_end0
    exact R
set_option maxRecDepth 1000000 in
set_option maxHeartbeats 2000000 in
theorem dpacked_8 (q b g:Nat) (X:Array Value) (l bs Z:List Int) (w:World) (hL:Lefts w q b bs) (hX:IsPal X l) (hn:l.length<=17) (hk:AreKinds l) (hG:Blk w g 122 Z) (hZ:Z.length=32768) (hqg:q<g) (hW:wid l.length=8) :
  Calls Tryz.prog 112 #[.pointer (some ⟨q,0,none⟩),.agg X,.pointer (some ⟨g,0,none⟩)] w (ReadSay (packD l 8 bs) q b g w):=by
 have hq:=hL.lt
 have hg:=hG.lt
 have hXs:=hX.size
 have HX:Hid (IsPal X l):=hX
 have HF:Hid (∀ (E:Int) w',E≠0->packD l 8 bs=(E,[])->Below q w w'->ReadSay (packD l 8 bs) q b g w (gives E) w'):=fun E w' h1 h2 h3=>⟨h3,Or.inl ⟨E,h1,h2,rfl⟩⟩
 have HT:Hid (∀ w' out rest,out.length=32768->packD l 8 bs=(if rest=[] then (0,out) else (2,[]))->Blk w' g 122 out->Lefts w' q b rest->Below q w w'->ReadSay (packD l 8 bs) q b g w (.returned (.tuple #[])) w'):=fun w' out rest h1 h2 h3 h4 h5=>⟨h5,Or.inr ⟨out,rest,h1,h2,rfl,h3,h4⟩⟩
 obtain ⟨Post,hPost⟩:∃ Post,Post=ReadSay (packD l 8 bs) q b g w:=⟨_,rfl⟩
 rw [<- hPost]
 have HP:Hid (Post=ReadSay (packD l 8 bs) q b g w):=hPost
 clear hPost
 have Hw1:Hid (Below w.heap.size w (w.alloc (.cells X 192))):=(Below.refl _ _).alloc (Nat.le_refl _) _
 have hsz:=World.size_alloc w (.cells X 192)
 have HWc:Hid (Calls Tryz.prog 116 #[.agg X] (w.alloc (.cells X 192)) fun e w'=>e = .returned (.int .i64 8)∧Below (w.heap.size+1) (w.alloc (.cells X 192)) w'):=by
  have:=width_c X l (w.alloc (.cells X 192)) hX hn
  rw [hW,hsz] at this
  exact this
 have HS0:Hid (Stand (w.alloc (.cells X 192)) g ([]:List Int)):=⟨Z,hG.below Hw1.out hg,hZ,rfl⟩
 have HL0:Hid (Lefts (w.alloc (.cells X 192)) q b bs):=hL.below Hw1.out hq
 have HB0:Hid (Below q w (w.alloc (.cells X 192))):=Hw1.out.mono (Nat.le_of_lt hq)
 clear hL hX hG hZ Hw1 hsz hW
 go_enter Tryz.func112,Tryz.ntmps112
 go_wp2_with (refine wpList_load_pal rfl (.tmp 4) rfl w.heap.size X rfl (heap_alloc_new w _) hXs ?_)
 refine HWc.out.mono ?_
 clear HWc
 rintro _ w2 ⟨rfl,hb2⟩
 have HX2:Hid (w2.heap[w.heap.size]?=some (.cells X 192 (0,0))):=(hb2.block _ (by omega)).trans (heap_alloc_new w _)
 have HS2:Hid (Stand w2 g ([]:List Int)):=by
  obtain ⟨cs,hC,h2,h3⟩:=HS0.out
  exact ⟨cs,hC.below hb2 (by omega),h2,h3⟩
 have HL2:Hid (Lefts w2 q b bs):=HL0.out.below hb2 (by omega)
 have Hb2:Hid (Below q w w2):=HB0.out.trans (hb2.mono (by omega))
 clear HS0 HL0 HB0 hb2
 have hs:=size_c 8 w2 (by omega)
 go_wp2_with fail
 refine hs.mono ?_
 clear hs
 rintro _ w9 ⟨rfl,e9⟩
 rw [e9]
 clear e9 w9
 by_cases hlen:bs.length<32768
 ·have R:Post (gives 3) w2:=by rw [HP.out];exact HF.out 3 w2 (by omega) (packD_short (by omega)) Hb2.out
  have HTk:Hid (Calls Tryz.prog 108 #[.pointer (some ⟨q,0,none⟩),.int .i64 32768] w2 fun e w'=>e=gives 3∧w'=w2):=ltake_no q b 32768 bs w2 HL2.out hlen
  clear HF HT HP HX2 HS2 HL2 Hb2
  go_wp2_with fail
  refine HTk.out.mono ?_
  rintro _ _ ⟨rfl,rfl⟩
  go_wp2
  exact ⟨rfl,R⟩
 ·have HTk:Hid (Calls Tryz.prog 108 #[.pointer (some ⟨q,0,none⟩),.int .i64 32768] w2 fun e w'=>(∃ off c,e = .returned (.slice (some ⟨b,off,none⟩) 32768 c)∧Bytes w' (some ⟨b,off,none⟩) 32768 (bs.take 32768)∧b<q)∧Lefts w' q b (bs.drop 32768)∧Only q w2 w'):=ltake_yes q b 32768 bs w2 HL2.out (by omega) (by omega)
  obtain ⟨sp,hsp⟩:∃ sp,sp=spread 8 1 (bs.take 32768):=⟨_,rfl⟩
  have htl:(bs.take 32768).length=32768:=by rw [List.length_take];omega
  have HSl:Hid (sp.length=32768):=by show _=_;rw [hsp,spread_len,htl]
  have HSg:Hid (∀ I,I<32768->sp.getD I 0=(bs.take 32768).getD (I) 0/2 ^ (0)%2 ^ 8):=fun I hI=>by
   rw [hsp]
   exact sp_get (by omega) (by rw [htl];omega) (by omega) (by omega)
  have HF4:Hid (∀ p∈sp,(l.length:Int)<=p->packD l 8 bs=(4,[])):=fun p hp h=>packD_bad (w:=8) (by omega) (by rw [hsp] at hp;exact hp) h
  have HE:Hid ((∀ p∈sp,p<(l.length:Int))->packD l 8 bs=if bs.drop 32768=[] then (0,sp.map fun p=>l.getD p.toNat 0) else (2,[])):=fun h=>by
   rw [packD_end (w:=8) (by omega) (by rw [hsp] at h;exact h),hsp]
   by_cases e:bs.drop 32768=[]
   ·rw [if_pos e,if_neg (by rw [List.drop_eq_nil_iff] at e;omega)]
   ·rw [if_neg e,if_pos (by rw [List.drop_eq_nil_iff] at e;omega)]
  clear hsp htl hlen HL2
  go_wp2_with fail
  refine HTk.out.mono ?_
  clear HTk
  rintro _ w3 ⟨⟨o3,c3,rfl,hB3,hbq⟩,hL3,hO3⟩
  have HB3:Hid (Bytes w3 (some ⟨b,o3,none⟩) 32768 (bs.take 32768)):=hB3
  have HL3:Hid (Lefts w3 q b (bs.drop 32768)):=hL3
  have HX3:Hid (w3.heap[w.heap.size]?=some (.cells X 192 (0,0))):=(hO3.block _ (by omega)).trans HX2.out
  have HS3:Hid (Stand w3 g ([]:List Int)):=by
   obtain ⟨cs,hC,h2,h3⟩:=HS2.out
   exact ⟨cs,hC.only hO3 (by omega),h2,h3⟩
  have Hb3:Hid (Below q w w3):=Hb2.out.trans (hO3.below (Nat.le_refl _))
  clear hB3 hL3 hO3 HX2 HS2 Hb2
  go_wp2
  go_loopw [17] (fun v17 wr=>∃ (I:Nat),I<=32768∧v17 = .int .i64 (I:Int)∧Hid (Stand wr g ((sp.take I).map fun p=>l.getD p.toNat 0))∧Hid (Lefts wr q b (bs.drop 32768))∧Hid (wr.heap[w.heap.size]?=some (.cells X 192 (0,0)))∧Hid (Below q w wr)∧Hid (Bytes wr (some ⟨b,o3,none⟩) 32768 (bs.take 32768))∧Hid (∀ p∈sp.take I,p<(l.length:Int))) (fun v _=>32768-(intOf v).toNat)
  case atStart=>exact ⟨0,by omega,rfl,HS3,HL3,HX3,Hb3,HB3,fun p hp=>by simp at hp⟩
  case round =>
   obtain ⟨I,hI,rfl,HS,HL,HXr,Hb,HB,HA⟩:=hrel
   clear HS3 HL3 HX3 Hb3 HB3
   by_cases hlt:I<32768
   ·have hlt':(I:Int)<32768:=by omega
    obtain ⟨b4,o4,x,e1,cx,x0,x1,hJl,hx⟩:=HB.out.get (I) (by omega)
    cases e1
    have hxe:x=(bs.take 32768).getD (I) 0:=by rw [List.getD_eq_getElem?_getD,List.getElem?_eq_getElem hJl,hx];rfl
    have hd0:(0:Int)<=x∧x<=255:=⟨x0,x1⟩
    have hand:bits .and .i64 (x) 255=(x)%256:=and_low _ 8 hd0.1 (by omega) (by omega)
    have hsg:=HSg.out I hlt
    rw [<- hxe] at hsg
    obtain ⟨P,hP⟩:=Int.eq_ofNat_of_zero_le (Int.emod_nonneg (x) (show (256:Int)≠0 by omega))
    rw [hP] at hand
    have Hs:Hid (sp.getD I 0=(P:Int)):=by
     show _=_
     rw [hsg,<- hP]
     simp
    have HPb:Hid ((P:Int)<=255):=by
     have:=Int.emod_lt_of_pos (x) (show (0:Int)<256 by omega)
     show (P:Int)<=255
     omega
    clear hx hJl hxe hsg hP hd0
    by_cases hfar:l.length<=P
    ·have HR:Hid (∀ w',Below q w w'->Post (gives 4) w'):=fun w' h=>by
      rw [HP.out]
      exact HF.out 4 w' (by omega) (HF4.out (P:Int) (by rw [<- Hs.out];exact getD_mem (by rw [HSl.out];exact hlt)) (by omega)) h
     have hL:=HL.out.lt
     have HK:Hid (∀ w,Calls Tryz.prog 135 #[.agg X,.int .i64 (P:Int)] w fun e w'=>e=gives 4∧Below w.heap.size w w'):=fun w=>kind_no X l P w HX.out (by omega)
     have HqL:Hid (q<wr.heap.size):=hL
     clear HF HT HP HF4 HE HS HB HA HX Hs HPb hL
     go_wp2_with fail
     go_big_quiet (fail)
     go_wp2_with (refine wpList_load_pal rfl (.tmp 4) rfl w.heap.size X rfl (by exact HXr.out) hXs ?_)
     refine (HK.out _).mono ?_
     clear HK
     rintro _ w5 ⟨rfl,hb5⟩
     have R:=HR.out w5 ((below_drewN Hb.out _).trans (hb5.mono (Nat.le_of_lt HqL.out)))
     clear HR hb5
     go_wp2
     exact ⟨rfl,R⟩
    ·have hPl:P<l.length:=by omega
     have HKx:Hid (0<=l.getD P 0∧l.getD P 0<=16):=hk _ (getD_mem hPl)
     have HK:Hid (∀ w,Calls Tryz.prog 135 #[.agg X,.int .i64 (P:Int)] w fun e w'=>e = .returned (.int .i64 (l.getD P 0))∧Below w.heap.size w w'):=fun w=>kind_yes X l P w HX.out hn hPl ⟨HKx.out.1,by have:=HKx.out.2;omega⟩
     have HA2:Hid (∀ p∈sp.take (I+1),p<(l.length:Int)):=fun p hp=>by
      rw [List.take_add_one,List.mem_append] at hp
      rcases hp with hp | hp
      ·exact HA.out p hp
      ·have hI2:I<sp.length:=by rw [HSl.out];exact hlt
       have h3:=Hs.out
       rw [List.getD_eq_getElem?_getD,List.getElem?_eq_getElem hI2,Option.getD_some] at h3
       rw [List.getElem?_eq_getElem hI2,Option.toList_some,List.mem_singleton,h3] at hp
       omega
     have HM:Hid ((sp.take (I+1)).map (fun p=>l.getD p.toNat 0)=(sp.take I).map (fun p=>l.getD p.toNat 0)++[l.getD P 0]):=by
      show _=_
      rw [take_map_succ _ sp I (by rw [HSl.out];exact hlt),Hs.out,Int.toNat_natCast]
     have HML:Hid (((sp.take I).map (fun p=>l.getD p.toNat 0)).length=I):=by show _=_;rw [List.length_map,List.length_take,HSl.out];omega
     obtain ⟨y,hy⟩:∃ y,y=l.getD P 0:=⟨_,rfl⟩
     rw [<- hy] at HKx HK HM
     clear hy hfar hPl Hs HA
     have HLl:Hid (q<wr.heap.size):=HL.out.lt
     have HXl:Hid (w.heap.size<wr.heap.size):=(Array.getElem?_eq_some_iff.1 HXr.out).1
     go_wp2_with fail
     go_big_quiet (fail)
     go_wp2_with (refine wpList_load_pal rfl (.tmp 4) rfl w.heap.size X rfl (by exact HXr.out) hXs ?_)
     refine (HK.out _).mono ?_
     clear HK
     rintro _ w5 ⟨rfl,hb5⟩
     have hb5':Below wr.heap.size wr w5:=⟨hb5.os,hb5.tape,hb5.output,hb5.size,hb5.block⟩
     have hqr:=HLl.out
     have hgr:g<wr.heap.size:=by
      obtain ⟨cs,hC,_⟩:=HS.out
      exact hC.lt
     have HX5:Hid (w5.heap[w.heap.size]?=some (.cells X 192 (0,0))):=(hb5'.block _ HXl.out).trans HXr.out
     have HS5:Hid (Stand w5 g ((sp.take I).map fun p=>l.getD p.toNat 0)):=by
      obtain ⟨cs,hC,h2,h3⟩:=HS.out
      exact ⟨cs,hC.below hb5' hgr,h2,h3⟩
     have HL5:Hid (Lefts w5 q b (bs.drop 32768)):=HL.out.below hb5' hqr
     have Hb5:Hid (Below q w w5):=Hb.out.trans (hb5'.mono (Nat.le_of_lt hqr))
     have HB5:Hid (Bytes w5 (some ⟨b,o3,none⟩) 32768 (bs.take 32768)):=HB.out.under hb5' (by omega)
     clear hb5 hb5' HX HS HL Hb HB HXr hqr hgr HLl HXl
     have HSet:Hid (Calls Tryz.prog 136 #[.pointer (some ⟨g,0,none⟩),.int .i64 (I:Int),.int .i64 y] w5 fun e w'=>e = .returned (.bool (okSet (I:Int) y))∧Stand w' g ((sp.take (I+1)).map fun p=>l.getD p.toNat 0)∧Only g w5 w'):=by
      obtain ⟨cs,hC,h2,h3⟩:=HS5.out
      rw [HML.out] at h3
      refine (set_c g cs (I:Int) y w5 hC h2).mono ?_
      rintro e w' ⟨h4,h5,h6⟩
      refine ⟨h4,?_,h6⟩
      rw [HM.out]
      exact Stand.set (A:=I) (N:=0) h2 HML.out h3 (by omega) (by simpa using h5) HKx.out
     clear HS5
     go_wp2_with fail
     refine HSet.out.mono ?_
     clear HSet
     rintro _ w6 ⟨rfl,hS6,hO6⟩
     have HS6:Hid (Stand w6 g ((sp.take (I+1)).map fun p=>l.getD p.toNat 0)):=hS6
     have HL6:Hid (Lefts w6 q b (bs.drop 32768)):=HL5.out.only hO6 hqg
     have HX6:Hid (w6.heap[w.heap.size]?=some (.cells X 192 (0,0))):=(hO6.block _ (by omega)).trans HX5.out
     have Hb6:Hid (Below q w w6):=Hb5.out.trans (hO6.below (by omega))
     have HB6:Hid (Bytes w6 (some ⟨b,o3,none⟩) 32768 (bs.take 32768)):=HB5.out.under (hO6.below (Nat.le_refl _)) (by omega)
     clear hS6 hO6 HL5 HX5 Hb5 HB5
     go_wp2
     go_roundw
     case rel=>exact ⟨I+1,by omega,by go_num,HS6,HL6,HX6,Hb6,HB6,HA2⟩
     case measure=>simp [intOf];omega
   ·obtain rfl:I=32768:=by omega
    have hlt':¬ (32768:Int)<32768:=by omega
    obtain ⟨cs,hC,hcl,htk⟩:=HS.out
    have htake:sp.take 32768=sp:=List.take_of_length_le (Nat.le_of_eq HSl.out)
    have R:Post (.returned (.tuple #[])) wr:=by
     rw [HP.out]
     have ha:=HA.out
     rw [htake] at ha htk
     rw [List.length_map,HSl.out,List.take_of_length_le (by omega)] at htk
     refine HT.out wr cs (bs.drop 32768) hcl ?_ hC HL.out Hb.out
     rw [HE.out ha,htk]
    clear HF HT HP HF4 HE HS HL HXr Hb HX hC hcl htk HA HB htake
    go_wp2
    go_end0
    exact R
theorem dpacked_c (q b g:Nat) (X:Array Value) (l bs Z:List Int) (w:World) (hL:Lefts w q b bs) (hX:IsPal X l) (hn:l.length<=17) (hk:AreKinds l) (hG:Blk w g 122 Z) (hZ:Z.length=32768) (hqg:q<g) :
  Calls Tryz.prog 112 #[.pointer (some ⟨q,0,none⟩),.agg X,.pointer (some ⟨g,0,none⟩)] w (ReadSay (packD l (wid l.length) bs) q b g w):=by
 rcases wid_is l.length with h | h | h | h <;> rw [h]
 ·exact dpacked_1 q b g X l bs Z w hL hX hn hk hG hZ hqg h
 ·exact dpacked_2 q b g X l bs Z w hL hX hn hk hG hZ hqg h
 ·exact dpacked_4 q b g X l bs Z w hL hX hn hk hG hZ hqg h
 ·exact dpacked_8 q b g X l bs Z w hL hX hn hk hG hZ hqg h
end Go.Proofs.YtlllmmceoeihkaaGreat.K
namespace Go.Proofs.YtlllmmceoeihkaaGreat.K
open Go.RowKit
theorem IsPal.one {X:Array Value} {l:List Int} (h:IsPal X l):X.all (·.oneCell')=true:=by
 rw [Array.all_eq_true_iff_forall_mem]
 intro v hv
 obtain ⟨i,hi,rfl⟩:=Array.mem_iff_getElem.1 hv
 have hs:=h.size
 by_cases e:i=17
 ·subst e
  have:=h.many
  rw [Array.getElem?_eq_getElem hi] at this
  rw [Option.some.inj this]
  rfl
 ·have:=h.kinds i (by omega)
  rw [Array.getElem?_eq_getElem hi] at this
  rw [Option.some.inj this]
  rfl
def ChunkSay (D:Int×List Int) (q:Nat) (w:World) (e:Ending) (w':World):Prop :=
 Below q w w'∧((D.1≠0∧e=gives D.1)∨(D.1=0∧∃ g,q<g∧e = .returned (.pointer (some ⟨g,0,none⟩))∧Blk w' g 122 D.2))
theorem tail_say {D:Int×List Int} {q b g:Nat} {w w1 w2:World} {e:Ending} (hb:Below q w w1) (h:ReadSay D q b g w1 e w2) :
  (∃ E:Int,e=gives E∧∀ w',Below q w w'->ChunkSay D q w (gives E) w')∧Below q w w2 ∨
  (e = .returned (.tuple #[])∧Below q w w2∧∃ rest,Lefts w2 q b rest∧(rest≠[]->∀ w',Below q w w'->ChunkSay D q w (gives 2) w')∧(rest=[]->q<g->ChunkSay D q w (.returned (.pointer (some ⟨g,0,none⟩))) w2)):=by
 obtain ⟨h1,⟨E,h2,h3,h4⟩|⟨out,rest,h2,h3,h4,h5,h6⟩⟩:=h
 ·refine Or.inl ⟨⟨E,h4,fun w' hw=>⟨hw,Or.inl ?_⟩⟩,hb.trans h1⟩
  rw [h3]
  exact ⟨h2,rfl⟩
 ·refine Or.inr ⟨h4,hb.trans h1,rest,h6,fun hr w' hw=>⟨hw,Or.inl ?_⟩,fun hr hq=>⟨hb.trans h1,Or.inr ?_⟩⟩
  ·rw [h3,if_neg hr];exact ⟨by show (2:Int)≠0;omega,rfl⟩
  ·rw [h3,if_pos hr];exact ⟨rfl,g,hq,rfl,h5⟩
theorem Lefts.drewN {w:World} {q b:Nat} {bs:List Int} (h:Lefts w q b bs) (n:Nat):Lefts (w.drewN n) q b bs:=by
 obtain ⟨off,k,c,h1,h2,h3,h4,h5⟩:=h
 exact ⟨off,k,c,h1,⟨h2.n,h2.cells,h2.fit⟩,h3,h4,h5⟩
set_option maxRecDepth 1000000 in
set_option maxHeartbeats 2000000 in
theorem dchunk_short (q:Nat) (a:Option Addr) (n c:Nat) (bs:List Int) (w:World) (hR:Rdr w q a n c) (hB:Bytes w a n bs) (h:n<2):Calls Tryz.prog 84 #[.pointer (some ⟨q,0,none⟩)] w (ChunkSay (decL bs) q w):=by
 have hl:=hB.n
 have R:ChunkSay (decL bs) q w (gives 3) w:=by
  have e:decL bs=(3,[]):=by unfold decL;rw [if_pos (by omega)]
  rw [e]
  exact ⟨Below.refl _ _,Or.inl ⟨by show (3:Int)≠0;omega,rfl⟩⟩
 have hT:=take_no q a n c 2 w hR h
 clear hR hB hl
 generalize ChunkSay (decL bs) q w=Post at *
 go_enter Tryz.func84,Tryz.ntmps84
 go_wp2_with fail
 refine hT.mono ?_
 rintro _ _ ⟨rfl,rfl⟩
 go_wp2
 exact ⟨rfl,R⟩
set_option maxRecDepth 1000000 in
set_option maxHeartbeats 2000000 in
theorem dchunk_c (q b:Nat) (bs:List Int) (w:World) (hL:Lefts w q b bs) (hn:2<=bs.length):Calls Tryz.prog 84 #[.pointer (some ⟨q,0,none⟩)] w (ChunkSay (decL bs) q w):=by
 obtain ⟨D,hD⟩:∃ D,D=decL bs:=⟨_,rfl⟩
 rw [<- hD]
 have hfit:∀ z∈bs,0<=z∧z<=255:=by
  obtain ⟨_,_,_,_,hB,_⟩:=hL
  exact hB.fit
 obtain ⟨f,hf⟩:∃ f,f=bs.getD 0 0:=⟨_,rfl⟩
 obtain ⟨K,hK⟩:=Int.eq_ofNat_of_zero_le (hfit _ (getD_mem (l:=bs) (i:=1) (by omega))).1
 have hf0:=hfit _ (getD_mem (l:=bs) (i:=0) (by omega))
 rw [<- hf] at hf0
 have hK1:=hfit _ (getD_mem (l:=bs) (i:=1) (by omega))
 rw [hK] at hK1
 have HD:Hid (D=if (f≠1∧f≠2)∨(K:Int)<1∨17<(K:Int) then (4,[]) else if (bs.length:Int)<2+K then (3,[]) else if okPal ((bs.drop 2).take K)=false then (4,[])
   else if f=1 then runsD ((bs.drop 2).take K) 32768 (bs.drop (2+K)) else packD ((bs.drop 2).take K) (wid K) (bs.drop (2+K))):=by
  show _=_
  rw [hD]
  unfold decL
  rw [if_neg (by omega),<- hf,hK,Int.toNat_natCast]
 have Hfit:Hid (∀ z∈bs,0<=z∧z<=255):=hfit
 have HTk:Hid (Calls Tryz.prog 108 #[.pointer (some ⟨q,0,none⟩),.int .i64 2] w fun e w'=>(∃ off c,e = .returned (.slice (some ⟨b,off,none⟩) 2 c)∧w'.cell? ⟨b,off,none⟩=some (.int .u8 f)∧w'.cell? ⟨b,off+1,none⟩=some (.int .u8 (K:Int)))∧Lefts w' q b (bs.drop 2)∧Below q w w'):=by
  refine (ltake_yes q b 2 bs w hL (by omega) hn).mono ?_
  rintro e w' ⟨⟨off,c,h1,h2,h3⟩,h4,h5⟩
  refine ⟨⟨off,c,h1,?_,?_⟩,h4,h5.below (Nat.le_refl _)⟩
  ·obtain ⟨b',o',z,e,hc,_,_,hk,hz⟩:=h2.get 0 (by omega)
   cases e
   rw [hz,List.getElem_take] at hc
   rw [hf,List.getD_eq_getElem?_getD,List.getElem?_eq_getElem (by omega)]
   exact hc
  ·obtain ⟨b',o',z,e,hc,_,_,hk,hz⟩:=h2.get 1 (by omega)
   cases e
   rw [hz,List.getElem_take] at hc
   rw [<- hK,List.getD_eq_getElem?_getD,List.getElem?_eq_getElem (by omega)]
   exact hc
 have hq:=hL.lt
 have Hq:Hid (q<w.heap.size):=hq
 obtain ⟨Post,hPost⟩:∃ Post,Post=ChunkSay D q w:=⟨_,rfl⟩
 rw [<- hPost]
 have HP:Hid (Post=ChunkSay D q w):=hPost
 have HG:Hid (∀ (E:Int) w',E≠0->D=(E,[])->Below q w w'->Post (gives E) w'):=fun E w' h1 h2 h3=>by
  rw [hPost,h2]
  exact ⟨h3,Or.inl ⟨h1,rfl⟩⟩
 clear hPost hD hL hfit hf hK hq
 obtain ⟨f0,f1⟩:=hf0
 go_enter Tryz.func84,Tryz.ntmps84
 go_wp2_with fail
 refine HTk.out.mono ?_
 clear HTk
 rintro _ w2 ⟨⟨off,c,rfl,hc0,hc1⟩,hL2,hb2⟩
 have HL2:Hid (Lefts w2 q b (bs.drop 2)):=hL2
 have Hb2:Hid (Below q w w2):=hb2
 clear hL2 hb2
 by_cases hf1:f=1
 ·subst hf1
  go_wp2_with fail
  go_big_quiet (fail)
  go_wp2_with fail
  refine (check_yes 4 _).mono ?_
  rintro _ w9 ⟨rfl,e9⟩
  rw [e9]
  clear e9 w9
  have HL3:Hid (Lefts (w2.drewN nq) q b (bs.drop 2)):=Lefts.drewN HL2.out nq
  have Hb3:Hid (Below q w (w2.drewN nq)):=below_drewN Hb2.out nq
  clear HL2 Hb2 hc0 hc1
  generalize w2.drewN nq=w3 at *
  by_cases hk1:K<1
  ·obtain rfl:K=0:=by omega
   have R:=HG.out 4 w3 (by omega) (by rw [HD.out,if_pos (Or.inr (Or.inl (by omega)))]) Hb3.out
   clear HD HG HP HL3 Hb3
   go_wp2_with fail
   refine (check_no 4 _).mono ?_
   rintro _ _ ⟨rfl,rfl⟩
   go_wp2
   exact ⟨rfl,R⟩
  ·by_cases hk2:17<K
   ·have R:=HG.out 4 w3 (by omega) (by rw [HD.out,if_pos (Or.inr (Or.inr (by omega)))]) Hb3.out
    have h1':(1:Int)<=K:=by omega
    have h2':¬ (K:Int)<=17:=by omega
    have HN:Hid (¬ K<=17):=by show ¬ _;omega
    clear HD HG HP HL3 Hb3 hk1 hk2
    go_wp2_with fail
    refine (check_not (by first | rfl | exact decide_eq_false (by have:=HN.out;omega)) 4 _).mono ?_
    rintro _ _ ⟨rfl,rfl⟩
    go_wp2
    exact ⟨rfl,R⟩
   ·have h1':(1:Int)<=K:=by omega
    have h2':(K:Int)<=17:=by omega
    have h1n:1<=K:=by omega
    have h2n:K<=17:=by omega
    have HD2:Hid (D=if (bs.length:Int)<2+K then (3,[]) else if okPal ((bs.drop 2).take K)=false then (4,[]) else runsD ((bs.drop 2).take K) 32768 (bs.drop (2+K))):=by
     show _=_
     rw [HD.out,if_neg (by omega)]
     simp only [if_true]
    clear HD hk1 hk2
    go_wp2_with fail
    refine (check_yes 4 _).mono ?_
    rintro _ w9 ⟨rfl,e9⟩
    rw [e9]
    clear e9 w9
    by_cases hs:bs.length<2+K
    ·have R:∀ w',Below q w w'->Post (gives 3) w':=fun w' h=>HG.out 3 w' (by omega) (by rw [HD2.out,if_pos (by omega)]) h
     have HR:Hid (∀ w',Below q w w'->Post (gives 3) w'):=R
     obtain ⟨o5,n5,c5,hR5,hB5,_⟩:=HL3.out
     have hsh:=rpal_short q _ n5 c5 K w3 hR5 (by have:=hB5.n;rw [List.length_drop] at this;omega)
     clear HD2 HG HP HL3 R hR5 hB5
     go_wp2_with fail
     refine hsh.mono ?_
     clear hsh
     rintro _ w4 ⟨rfl,hb4⟩
     have R:=HR.out w4 (Hb3.out.trans hb4)
     clear HR hb4
     go_wp2
     exact ⟨rfl,R⟩
    ·have hpc:=rpal_c q b K (bs.drop 2) w3 HL3.out h1n h2n (by rw [List.length_drop];omega)
     have HD3:Hid (D=if okPal ((bs.drop 2).take K)=false then (4,[]) else runsD ((bs.drop 2).take K) 32768 (bs.drop (2+K))):=by
      show _=_
      rw [HD2.out,if_neg (by omega)]
     have Hlen:Hid (((bs.drop 2).take K).length=K):=by show _=_;rw [List.length_take,List.length_drop];omega
     have Hpf:Hid (∀ z∈(bs.drop 2).take K,0<=z∧z<=255):=fun z hz=>Hfit.out z (List.mem_of_mem_drop (List.mem_of_mem_take hz))
     have hdd:(bs.drop 2).drop K=bs.drop (2+K):=by rw [List.drop_drop]
     rw [hdd] at hpc
     clear HD2 hs hdd
     generalize (bs.drop 2).take K=l at *
     go_wp2_with fail
     refine hpc.mono ?_
     clear hpc
     rintro _ w4 ⟨hb4,⟨hok,rfl⟩|⟨hok,X,rfl,hX,hL4⟩⟩
     ·have R:=HG.out 4 w4 (by omega) (by rw [HD3.out,if_pos hok]) (Hb3.out.trans hb4)
      clear HD3 HG HP HL3 hb4 hok
      go_wp2
      exact ⟨rfl,R⟩
     ·have Hb4:Hid (Below q w w4):=Hb3.out.trans hb4
      have HD4:Hid (D=runsD l 32768 (bs.drop (2+K))):=by
       show _=_
       rw [HD3.out,if_neg (by rw [hok];simp)]
      have HL4:Hid (Lefts w4 q b (bs.drop (2+K))):=hL4
      have HX:Hid (IsPal X l):=hX
      have HKs:Hid (AreKinds l):=okPal_kinds Hpf.out hok
      have hone:=hX.one
      have hsz:=hX.size
      clear HD3 HL3 Hb3 hb4 hok hX hL4
      have hq4:=HL4.out.lt
      go_wp2_with (refine wpList_store_pal rfl (.tmp 6) (.tmp 33) rfl w4.heap.size X rfl rfl (palZ 0) (heap_alloc_new w4 _) rfl hsz hone ?_;intro w5 hO5 hX5;have hs5:=hO5.size;rw [World.size_alloc] at hs5;have hb5:Below w4.heap.size w4 w5:=((Below.refl _ _).alloc (Nat.le_refl _) _).trans (hO5.below (Nat.le_refl _));clear hO5)
      refine (new_c w5).mono ?_
      rintro _ w6 ⟨rfl,e6⟩
      have hb6:Below w5.heap.size w5 w6:=by rw [e6];exact (Below.refl _ _).alloc (Nat.le_refl _) _
      have HG6:Hid (Blk w6 w5.heap.size 122 (List.replicate 32768 0)):=by rw [e6];exact Blk.new w5 122 _
      have hX6:w6.heap[w4.heap.size]?=some (.cells X 192 (0,0)):=(hb6.block _ (by omega)).trans hX5
      have HL6:Hid (Lefts w6 q b (bs.drop (2+K))):=(HL4.out.below hb5 hq4).below hb6 (by omega)
      have Hb6:Hid (Below q w w6):=(Hb4.out.trans (hb5.mono (by omega))).trans (hb6.mono (by omega))
      have hZ:(List.replicate 32768 (0:Int)).length=32768:=List.length_replicate
      clear e6 hb6 hb5 hX5 HL4 Hb4
      generalize List.replicate 32768 (0:Int)=Z at *
      have HRd:Hid (Calls Tryz.prog 111 #[.pointer (some ⟨q,0,none⟩),.agg X,.pointer (some ⟨w5.heap.size,0,none⟩)] w6 (ReadSay D q b w5.heap.size w6)):=by
       have:=(druns_c q b w5.heap.size X l (bs.drop (2+K)) Z w6 HL6.out HX.out (by rw [Hlen.out];exact h2n) HKs.out HG6.out hZ (by omega)).mono (fun _ _ h=>h.read)
       rw [<- HD4.out] at this
       exact this
      have Hqg:Hid (q<w5.heap.size):=by show _<_;omega
      clear HD4 HL6 HX HG6 hZ HKs Hlen Hpf hq4 hs5
      generalize w5.heap.size=g at *
      go_wp2_with (refine wpList_load_pal rfl (.tmp 6) rfl w4.heap.size X rfl hX6 hsz ?_)
      refine HRd.out.mono ?_
      clear HRd
      intro e7 w7 h7
      rcases tail_say Hb6.out h7 with ⟨⟨E,rfl,hE⟩,hb7⟩|⟨rfl,hb7,rest,hL7,hE2,hE0⟩
      ·have R:Post (gives E) w7:=by rw [HP.out];exact hE w7 hb7
       clear h7 hE hb7 HG HP
       go_wp2
       exact ⟨rfl,R⟩
      ·obtain ⟨o8,n8,c8,hR8,hB8,_⟩:=hL7
       have hc8:=hR8.cell
       have hn8:=hB8.n
       by_cases h0:n8=0
       ·subst h0
        have R:Post (.returned (.pointer (some ⟨g,0,none⟩))) w7:=by rw [HP.out];exact hE0 (List.eq_nil_of_length_eq_zero hn8) Hqg.out
        clear h7 hE2 hE0 hb7 HG HP hR8 hB8 hn8
        go_wp2_with fail
        refine (check_yes 2 _).mono ?_
        rintro _ _ ⟨rfl,rfl⟩
        go_wp2
        exact R
       ·have h0':((n8:Int) == 0)=false:=by simp [h0]
        have R:Post (gives 2) w7:=by rw [HP.out];exact hE2 (by intro e;subst e;simp at hn8;omega) w7 hb7
        clear h7 hE2 hE0 hb7 HG HP hR8 hB8 hn8
        go_wp2_with fail
        refine (check_no 2 _).mono ?_
        rintro _ _ ⟨rfl,rfl⟩
        go_wp2
        exact ⟨rfl,R⟩
 ·by_cases hf2:f=2
  ·subst hf2
   go_wp2_with fail
   go_big_quiet (fail)
   go_wp2_with fail
   refine (check_yes 4 _).mono ?_
   rintro _ w9 ⟨rfl,e9⟩
   rw [e9]
   clear e9 w9
   have HL3:Hid (Lefts (w2.drewN nq) q b (bs.drop 2)):=Lefts.drewN HL2.out nq
   have Hb3:Hid (Below q w (w2.drewN nq)):=below_drewN Hb2.out nq
   clear HL2 Hb2 hc0 hc1
   generalize w2.drewN nq=w3 at *
   by_cases hk1:K<1
   ·obtain rfl:K=0:=by omega
    have R:=HG.out 4 w3 (by omega) (by rw [HD.out,if_pos (Or.inr (Or.inl (by omega)))]) Hb3.out
    clear HD HG HP HL3 Hb3
    go_wp2_with fail
    refine (check_no 4 _).mono ?_
    rintro _ _ ⟨rfl,rfl⟩
    go_wp2
    exact ⟨rfl,R⟩
   ·by_cases hk2:17<K
    ·have R:=HG.out 4 w3 (by omega) (by rw [HD.out,if_pos (Or.inr (Or.inr (by omega)))]) Hb3.out
     have h1':(1:Int)<=K:=by omega
     have h2':¬ (K:Int)<=17:=by omega
     have HN:Hid (¬ K<=17):=by show ¬ _;omega
     clear HD HG HP HL3 Hb3 hk1 hk2
     go_wp2_with fail
     refine (check_not (by first | rfl | exact decide_eq_false (by have:=HN.out;omega)) 4 _).mono ?_
     rintro _ _ ⟨rfl,rfl⟩
     go_wp2
     exact ⟨rfl,R⟩
    ·have h1':(1:Int)<=K:=by omega
     have h2':(K:Int)<=17:=by omega
     have h1n:1<=K:=by omega
     have h2n:K<=17:=by omega
     have HD2:Hid (D=if (bs.length:Int)<2+K then (3,[]) else if okPal ((bs.drop 2).take K)=false then (4,[]) else packD ((bs.drop 2).take K) (wid K) (bs.drop (2+K))):=by
      show _=_
      rw [HD.out,if_neg (by omega)]
      rw [if_neg (show ¬ (2:Int)=1 by omega)]
     clear HD hk1 hk2
     go_wp2_with fail
     refine (check_yes 4 _).mono ?_
     rintro _ w9 ⟨rfl,e9⟩
     rw [e9]
     clear e9 w9
     by_cases hs:bs.length<2+K
     ·have R:∀ w',Below q w w'->Post (gives 3) w':=fun w' h=>HG.out 3 w' (by omega) (by rw [HD2.out,if_pos (by omega)]) h
      have HR:Hid (∀ w',Below q w w'->Post (gives 3) w'):=R
      obtain ⟨o5,n5,c5,hR5,hB5,_⟩:=HL3.out
      have hsh:=rpal_short q _ n5 c5 K w3 hR5 (by have:=hB5.n;rw [List.length_drop] at this;omega)
      clear HD2 HG HP HL3 R hR5 hB5
      go_wp2_with fail
      refine hsh.mono ?_
      clear hsh
      rintro _ w4 ⟨rfl,hb4⟩
      have R:=HR.out w4 (Hb3.out.trans hb4)
      clear HR hb4
      go_wp2
      exact ⟨rfl,R⟩
     ·have hpc:=rpal_c q b K (bs.drop 2) w3 HL3.out h1n h2n (by rw [List.length_drop];omega)
      have HD3:Hid (D=if okPal ((bs.drop 2).take K)=false then (4,[]) else packD ((bs.drop 2).take K) (wid K) (bs.drop (2+K))):=by
       show _=_
       rw [HD2.out,if_neg (by omega)]
      have Hlen:Hid (((bs.drop 2).take K).length=K):=by show _=_;rw [List.length_take,List.length_drop];omega
      have Hpf:Hid (∀ z∈(bs.drop 2).take K,0<=z∧z<=255):=fun z hz=>Hfit.out z (List.mem_of_mem_drop (List.mem_of_mem_take hz))
      have hdd:(bs.drop 2).drop K=bs.drop (2+K):=by rw [List.drop_drop]
      rw [hdd] at hpc
      clear HD2 hs hdd
      generalize (bs.drop 2).take K=l at *
      go_wp2_with fail
      refine hpc.mono ?_
      clear hpc
      rintro _ w4 ⟨hb4,⟨hok,rfl⟩|⟨hok,X,rfl,hX,hL4⟩⟩
      ·have R:=HG.out 4 w4 (by omega) (by rw [HD3.out,if_pos hok]) (Hb3.out.trans hb4)
       clear HD3 HG HP HL3 hb4 hok
       go_wp2
       exact ⟨rfl,R⟩
      ·have Hb4:Hid (Below q w w4):=Hb3.out.trans hb4
       have HD4:Hid (D=packD l (wid K) (bs.drop (2+K))):=by
        show _=_
        rw [HD3.out,if_neg (by rw [hok];simp)]
       have HL4:Hid (Lefts w4 q b (bs.drop (2+K))):=hL4
       have HX:Hid (IsPal X l):=hX
       have HKs:Hid (AreKinds l):=okPal_kinds Hpf.out hok
       have hone:=hX.one
       have hsz:=hX.size
       clear HD3 HL3 Hb3 hb4 hok hX hL4
       have hq4:=HL4.out.lt
       go_wp2_with (refine wpList_store_pal rfl (.tmp 6) (.tmp 33) rfl w4.heap.size X rfl rfl (palZ 0) (heap_alloc_new w4 _) rfl hsz hone ?_;intro w5 hO5 hX5;have hs5:=hO5.size;rw [World.size_alloc] at hs5;have hb5:Below w4.heap.size w4 w5:=((Below.refl _ _).alloc (Nat.le_refl _) _).trans (hO5.below (Nat.le_refl _));clear hO5)
       refine (new_c w5).mono ?_
       rintro _ w6 ⟨rfl,e6⟩
       have hb6:Below w5.heap.size w5 w6:=by rw [e6];exact (Below.refl _ _).alloc (Nat.le_refl _) _
       have HG6:Hid (Blk w6 w5.heap.size 122 (List.replicate 32768 0)):=by rw [e6];exact Blk.new w5 122 _
       have hX6:w6.heap[w4.heap.size]?=some (.cells X 192 (0,0)):=(hb6.block _ (by omega)).trans hX5
       have HL6:Hid (Lefts w6 q b (bs.drop (2+K))):=(HL4.out.below hb5 hq4).below hb6 (by omega)
       have Hb6:Hid (Below q w w6):=(Hb4.out.trans (hb5.mono (by omega))).trans (hb6.mono (by omega))
       have hZ:(List.replicate 32768 (0:Int)).length=32768:=List.length_replicate
       clear e6 hb6 hb5 hX5 HL4 Hb4
       generalize List.replicate 32768 (0:Int)=Z at *
       have HRd:Hid (Calls Tryz.prog 112 #[.pointer (some ⟨q,0,none⟩),.agg X,.pointer (some ⟨w5.heap.size,0,none⟩)] w6 (ReadSay D q b w5.heap.size w6)):=by
        have:=dpacked_c q b w5.heap.size X l (bs.drop (2+K)) Z w6 HL6.out HX.out (by rw [Hlen.out];exact h2n) HKs.out HG6.out hZ (by omega)
        rw [Hlen.out] at this
        rw [<- HD4.out] at this
        exact this
       have Hqg:Hid (q<w5.heap.size):=by show _<_;omega
       clear HD4 HL6 HX HG6 hZ HKs Hlen Hpf hq4 hs5
       generalize w5.heap.size=g at *
       go_wp2_with (refine wpList_load_pal rfl (.tmp 6) rfl w4.heap.size X rfl hX6 hsz ?_)
       refine HRd.out.mono ?_
       clear HRd
       intro e7 w7 h7
       rcases tail_say Hb6.out h7 with ⟨⟨E,rfl,hE⟩,hb7⟩|⟨rfl,hb7,rest,hL7,hE2,hE0⟩
       ·have R:Post (gives E) w7:=by rw [HP.out];exact hE w7 hb7
        clear h7 hE hb7 HG HP
        go_wp2
        exact ⟨rfl,R⟩
       ·obtain ⟨o8,n8,c8,hR8,hB8,_⟩:=hL7
        have hc8:=hR8.cell
        have hn8:=hB8.n
        by_cases h0:n8=0
        ·subst h0
         have R:Post (.returned (.pointer (some ⟨g,0,none⟩))) w7:=by rw [HP.out];exact hE0 (List.eq_nil_of_length_eq_zero hn8) Hqg.out
         clear h7 hE2 hE0 hb7 HG HP hR8 hB8 hn8
         go_wp2_with fail
         refine (check_yes 2 _).mono ?_
         rintro _ _ ⟨rfl,rfl⟩
         go_wp2
         exact R
        ·have h0':((n8:Int) == 0)=false:=by simp [h0]
         have R:Post (gives 2) w7:=by rw [HP.out];exact hE2 (by intro e;subst e;simp at hn8;omega) w7 hb7
         clear h7 hE2 hE0 hb7 HG HP hR8 hB8 hn8
         go_wp2_with fail
         refine (check_no 2 _).mono ?_
         rintro _ _ ⟨rfl,rfl⟩
         go_wp2
         exact ⟨rfl,R⟩
  ·have e1:(f == 1)=false:=by simp [hf1]
   have e2:(f == 2)=false:=by simp [hf2]
   have HR:Hid (∀ w',Below q w w'->Post (gives 4) w'):=fun w' h=>HG.out 4 w' (by omega) (by rw [HD.out,if_pos (Or.inl ⟨hf1,hf2⟩)]) h
   clear HD HG HP HL2 hf1 hf2
   go_wp2_with fail
   go_big_quiet (fail)
   go_wp2_with fail
   refine (check_no 4 _).mono ?_
   rintro _ w9 ⟨rfl,e9⟩
   rw [e9]
   clear e9 w9
   have R:=HR.out _ (below_drewN Hb2.out nq)
   clear HR
   go_wp2
   exact ⟨rfl,R⟩
end Go.Proofs.YtlllmmceoeihkaaGreat.K
