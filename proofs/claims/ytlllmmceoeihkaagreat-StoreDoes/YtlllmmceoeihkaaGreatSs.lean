/-
  The document's store: sum.
-/
import Derived.Test.YtlllmmceoeihkaaGreatSp
set_option maxRecDepth 20000
namespace Go.Proofs.YtlllmmceoeihkaaGreat.Z
open K Go.RowKit
theorem cell_on {w w':World} {a:Addr} {v:Value} (hb:Below w.heap.size w w') (h:w.cell? a=some v):w'.cell? a=some v:=(hb.cell (World.block_lt_of_cell? w _ h)).trans h
set_option maxHeartbeats 4000000 in
theorem ssum_c {G:Nat->Prop} {B:Nat} {w:World} {r:Nat} {L:List Km} {av:Option Addr} {cv:Nat} (h:RSt G B w r L av cv) {x z:Int} (hx:I64 x) (hz:I64 z) (many:Nat) (hm:many<=100000) :
  Calls Tryz.prog 46 #[.pointer (some ⟨r,0,none⟩),valA x z,.int .i64 (many:Int)] w fun e w'=>e = .returned (.int .i64 (sumK L x z many:Int))∧Below w.heap.size w w':=by
 obtain ⟨Post,hPost⟩:∃ Post:Ending->World->Prop,Post=fun e w'=>e = .returned (.int .i64 (sumK L x z many:Int))∧Below w.heap.size w w':=⟨_,rfl⟩
 rw [<- hPost]
 have HP:Hid (∀ v w',v=(sumK L x z many:Int)->Below w.heap.size w w'->Post (.returned (.int .i64 v)) w'):=fun v w' h0 h1=>by rw [hPost,h0];exact ⟨rfl,h1⟩
 clear hPost
 obtain ⟨hb0,x0,x1⟩:=box_at w x z
 have HA:Hid (RSt G B w r L av cv):=h
 have HB:Hid (Below w.heap.size w (w.alloc (.cells #[.int .i64 x,.int .i64 z] 39))):=hb0
 have HR1:Hid (∀ p q,I64 p->I64 q->∀ W,Calls Tryz.prog 32 #[valA p q] W fun e w'=>e = .returned (valA (p/4) (q/4))∧Below W.heap.size W w'):=fun p q h1 h2 W=>rregion_c p q h1 h2 W
 have HXZ:Hid (I64 x∧I64 z):=⟨hx,hz⟩
 have hsz:=h.sz
 have HM:Hid (∀ k,k<=L.length->sumT x z (L.take k)<=k*100000):=fun k hk=>by
  have:=sumT_le (x:=x) (z:=z) (L:=L.take k) (M:=100000) (fun e he=>h.mb e (List.mem_of_mem_take he))
  rwa [List.length_take,Nat.min_eq_left hk] at this
 clear h hb0 hx hz
 go_enter Tryz.func46,Tryz.ntmps46
 go_upto_region 1 with fail
 have HX:Hid ((w.alloc (.cells #[.int .i64 x,.int .i64 z] 39)).cell? ⟨w.heap.size,0,none⟩=some (.int .i64 x)∧(w.alloc (.cells #[.int .i64 x,.int .i64 z] 39)).cell? ⟨w.heap.size,1,none⟩=some (.int .i64 z)):=⟨x0,x1⟩
 clear x0 x1
 generalize w.alloc (.cells #[.int .i64 x,.int .i64 z] 39)=w0 at *
 go_wp2
 go_loopw [7,8] (fun vs vi wr=>∃ k:Nat,vi = .int .i64 (k:Int)∧vs = .int .i64 ((2+many+sumT x z (L.take k):Nat):Int)∧k<=L.length∧Hid (Below w.heap.size w wr∧wr.cell? ⟨w.heap.size,0,none⟩=some (.int .i64 x)∧wr.cell? ⟨w.heap.size,1,none⟩=some (.int .i64 z))) (fun _ vi _=>L.length-(intOf vi).toNat)
 case atStart=>exact ⟨0,rfl,by go_num,Nat.zero_le _,HB.out,HX.out⟩
 case round =>
  obtain ⟨k,rfl,rfl,hk,HI⟩:=hrel
  obtain ⟨hb,x0,x1⟩:=HI.out
  have hR0:=HA.out.on hb
  have c1:=hR0.c0
  have hsk:=HM.out k hk
  have hsk2:sumT x z (L.take k)<=200000000:=by omega
  by_cases hlt:k<L.length
  ·have hlt':(k:Int)<(L.length:Int):=by omega
   rcases hR0.row.form with ⟨_,he,_⟩|⟨g,rfl⟩
   ·rw [he] at hlt;simp at hlt
   obtain ⟨e0,e1,_,e3⟩:=hR0.row.cell hlt
   obtain ⟨cur,_,_,hcv,hmx,_⟩:=hR0.row.blk
   have hky:=hR0.ky _ (List.getElem_mem hlt)
   have hmb:=hR0.mb _ (List.getElem_mem hlt)
   have HSt:Hid (sumT x z (L.take (k+1))=sumT x z (L.take k)+if decide (¬ (L[k].x=x∧L[k].z=z)∧L[k].x/4=x/4∧L[k].z/4=z/4) then L[k].m else 0):=sumT_take x z L hlt
   have hc1:=HR1.out L[k].x L[k].z hky.1 hky.2
   have hc2:=HR1.out x z HXZ.out.1 HXZ.out.2
   have HKp:Hid (∀ v,v=wr.drew->∀ u,Below v.heap.size v u->Below w.heap.size w u∧u.cell? ⟨w.heap.size,0,none⟩=some (.int .i64 x)∧u.cell? ⟨w.heap.size,1,none⟩=some (.int .i64 z)∧u.cell? ⟨r,0,none⟩=some (.slice (some ⟨g,0,none⟩) L.length cv)∧u.cell? ⟨g,k*4,none⟩=some (.int .i64 L[k].x)∧u.cell? ⟨g,k*4+1,none⟩=some (.int .i64 L[k].z)∧u.cell? ⟨g,k*4+3,none⟩=some (.int .i64 (L[k].m:Int))):=fun v hv u hu=>by
    subst hv
    have hu':Below wr.heap.size wr u:=⟨hu.os,hu.tape,hu.output,hu.size,hu.block⟩
    exact ⟨hb.trans (hu'.mono hb.size),cell_on hu' x0,cell_on hu' x1,cell_on hu' c1,cell_on hu' e0,cell_on hu' e1,cell_on hu' e3⟩
   have HC1:Hid (∀ W,Calls Tryz.prog 32 #[valA L[k].x L[k].z] W fun e w'=>e = .returned (valA (L[k].x/4) (L[k].z/4))∧Below W.heap.size W w'):=hc1
   have HC2:Hid (∀ W,Calls Tryz.prog 32 #[valA x z] W fun e w'=>e = .returned (valA (x/4) (z/4))∧Below W.heap.size W w'):=hc2
   clear hc1 hc2 hky HXZ HR1 HM HP HA HB HX hR0 hsk e0 e1 e3 hb
   generalize sumT x z (L.take k)=T0 at *
   generalize L[k].x/4=P at *
   generalize L[k].z/4=Q at *
   generalize hXX:x/4=XX at *
   generalize hZZ:z/4=ZZ at *
   generalize hpp:L[k].x=p at *
   generalize hqq:L[k].z=q at *
   generalize L[k].m=mm at *
   clear hXX hZZ hpp hqq
   by_cases hpq:p=x∧q=z
   ·obtain ⟨h1,h2⟩:=hpq
    replace h1:=h1.symm
    subst h1
    replace h2:=h2.symm
    subst h2
    have HE:Hid (sumT x z (L.take (k+1))=T0+0):=by have:=HSt.out;rw [if_neg (by simp [*])] at this;exact this
    clear HSt
    go_wp2
    refine region_L (fun u=>Below wr.drew.heap.size wr.drew u) 99 (by kernel_rfl) ?_
    clear c1 x0 x1 HI
    have HK2:Hid _:=HKp.out _ rfl
    clear HKp
    generalize wr.drew=va at *
    have hHeld:(fun u=>Below va.heap.size va u) va:=Below.refl _ _
    have hne:Nonempty (Sub (fun u=>Below va.heap.size va u)):=⟨⟨_,hHeld⟩⟩
    have q0:∀ s:Sub (fun u=>Below va.heap.size va u),s.w.cell? ⟨w.heap.size,0,none⟩=some (.int .i64 x):=fun s=>(HK2.out s.w s.ok).2.1
    have q1:∀ s:Sub (fun u=>Below va.heap.size va u),s.w.cell? ⟨w.heap.size,1,none⟩=some (.int .i64 z):=fun s=>(HK2.out s.w s.ok).2.2.1
    have q2:∀ s:Sub (fun u=>Below va.heap.size va u),s.w.cell? ⟨r,0,none⟩=some (.slice (some ⟨g,0,none⟩) L.length cv):=fun s=>(HK2.out s.w s.ok).2.2.2.1
    have q3:∀ s:Sub (fun u=>Below va.heap.size va u),s.w.cell? ⟨g,k*4,none⟩=some (.int .i64 x):=fun s=>(HK2.out s.w s.ok).2.2.2.2.1
    have q4:∀ s:Sub (fun u=>Below va.heap.size va u),s.w.cell? ⟨g,k*4+1,none⟩=some (.int .i64 z):=fun s=>(HK2.out s.w s.ok).2.2.2.2.2.1
    refine gen_L (by intro d v c a w h;cases d <;> exact h) (fun QX HQP HQX=>?_)
    refine tk 0 rfl HQP hHeld fun K hK=>?_;go_simp;refine hK _ ?_;clear hK K
    refine tk 1 rfl HQP hHeld fun K hK=>?_;go_simp;refine hK _ ?_;clear hK K
    refine tk 2 rfl HQP hHeld fun K hK=>?_;go_simp;refine hK _ ?_;clear hK K
    refine tk 3 rfl HQP hHeld fun K hK=>?_;go_simp;refine hK _ ?_;clear hK K
    refine tk 4 rfl HQP hHeld fun K hK=>?_;go_simp;refine hK _ ?_;clear hK K
    refine tk 5 rfl HQP hHeld fun K hK=>?_;go_simp;refine hK _ ?_;clear hK K
    refine tk 6 rfl HQP hHeld fun K hK=>?_;go_simp;refine hK _ ?_;clear hK K
    refine tk 7 rfl HQP hHeld fun K hK=>?_;go_simp;refine hK _ ?_;clear hK K
    refine tk 8 rfl HQP hHeld fun K hK=>?_;go_simp;refine hK _ ?_;clear hK K
    refine tk 9 rfl HQP hHeld fun K hK=>?_;go_simp;refine hK _ ?_;clear hK K
    refine tk 10 rfl HQP hHeld fun K hK=>?_;go_simp;refine hK _ ?_;clear hK K
    refine tk 11 rfl HQP hHeld fun K hK=>?_;go_simp;refine hK _ ?_;clear hK K
    refine tk 12 rfl HQP hHeld fun K hK=>?_;go_simp;refine hK _ ?_;clear hK K
    refine tk 13 rfl HQP hHeld fun K hK=>?_;go_simp;refine hK _ ?_;clear hK K
    refine tk 14 rfl HQP hHeld fun K hK=>?_;go_simp;refine hK _ ?_;clear hK K
    refine tk 15 rfl HQP hHeld fun K hK=>?_;go_simp;refine hK _ ?_;clear hK K
    refine tk 16 rfl HQP hHeld fun K hK=>?_;go_simp;refine hK _ ?_;clear hK K
    refine tk 17 rfl HQP hHeld fun K hK=>?_;go_simp;refine hK _ ?_;clear hK K
    refine tk 18 rfl HQP hHeld fun K hK=>?_;go_simp;refine hK _ ?_;clear hK K
    refine tk 20 rfl HQP hHeld fun K hK=>?_;go_simp;refine hK _ ?_;clear hK K
    refine ol 19 rfl fun K hK=>?_
    go_simp
    refine hK.out _ _ (fun _=>hHeld) ?_
    clear hK K
    refine ol 21 rfl fun K hK=>?_
    go_simp
    refine hK.out _ _ (fun _=>hHeld) ?_
    clear hK K
    refine tk 22 rfl HQP hHeld fun K hK=>?_;go_simp;refine hK _ ?_;clear hK K
    refine tk 23 rfl HQP hHeld fun K hK=>?_;go_simp;refine hK _ ?_;clear hK K
    refine done_L (by kernel_rfl) ?_ _
    refine HQX.out _ _ ?_
    clear HQX HQP QX
    have HL:Hid _:=HK2.out va hHeld
    clear hne q0 q1 q2 q3 q4 hHeld
    go_wp2
    go_roundw
    case rel=>exact ⟨k+1,by go_num,by rw [HE.out];go_num,by omega,HL.out.1,HL.out.2.1,HL.out.2.2.1⟩
    case measure=>simp [intOf];omega
   have h12:(p=x∧¬ q=z)∨¬ p=x:=by
    by_cases h1:p=x
    ·exact .inl ⟨h1,fun h2=>hpq ⟨h1,h2⟩⟩
    ·exact .inr h1
   have hsp:(P=XX∧Q=ZZ∧Hid (sumT x z (L.take (k+1))=T0+mm))∨(P=XX∧¬ Q=ZZ∧Hid (sumT x z (L.take (k+1))=T0+0))∨(¬ P=XX∧Hid (sumT x z (L.take (k+1))=T0+0)):=by
    have HE:=HSt.out
    by_cases h3:P=XX
    ·by_cases h4:Q=ZZ
     ·rw [if_pos (decide_eq_true ⟨hpq,h3,h4⟩)] at HE
      exact .inl ⟨h3,h4,HE⟩
     ·rw [if_neg (fun hc=>h4 (of_decide_eq_true hc).2.2)] at HE
      exact .inr (.inl ⟨h3,h4,HE⟩)
    ·rw [if_neg (fun hc=>h3 (of_decide_eq_true hc).2.1)] at HE
     exact .inr (.inr ⟨h3,HE⟩)
   clear hpq HSt
   rcases h12 with ⟨h1,h2⟩|h1
   all_goals rcases hsp with ⟨h3,h4,HE⟩|⟨h3,h4,HE⟩|⟨h3,HE⟩
   all_goals
    try (replace h1:=h1.symm;subst h1)
    try subst h3
    try subst h4
    go_wp2
    refine region_L (fun u=>Below wr.drew.heap.size wr.drew u) 99 (by kernel_rfl) ?_
    clear c1 x0 x1 HI
    have HK2:Hid _:=HKp.out _ rfl
    clear HKp
    generalize wr.drew=va at *
    have hHeld:(fun u=>Below va.heap.size va u) va:=Below.refl _ _
    have hne:Nonempty (Sub (fun u=>Below va.heap.size va u)):=⟨⟨_,hHeld⟩⟩
    have q0:∀ s:Sub (fun u=>Below va.heap.size va u),s.w.cell? ⟨w.heap.size,0,none⟩=some _:=fun s=>(HK2.out s.w s.ok).2.1
    have q1:∀ s:Sub (fun u=>Below va.heap.size va u),s.w.cell? ⟨w.heap.size,1,none⟩=some (.int .i64 z):=fun s=>(HK2.out s.w s.ok).2.2.1
    have q2:∀ s:Sub (fun u=>Below va.heap.size va u),s.w.cell? ⟨r,0,none⟩=some (.slice (some ⟨g,0,none⟩) L.length cv):=fun s=>(HK2.out s.w s.ok).2.2.2.1
    have q3:∀ s:Sub (fun u=>Below va.heap.size va u),s.w.cell? ⟨g,k*4,none⟩=some _:=fun s=>(HK2.out s.w s.ok).2.2.2.2.1
    have q4:∀ s:Sub (fun u=>Below va.heap.size va u),s.w.cell? ⟨g,k*4+1,none⟩=some _:=fun s=>(HK2.out s.w s.ok).2.2.2.2.2.1
    refine gen_L (by intro d v c a w h;cases d <;> exact h) (fun QX HQP HQX=>?_)
    refine tk 0 rfl HQP hHeld fun K hK=>?_;go_simp;refine hK _ ?_;clear hK K
    refine tk 1 rfl HQP hHeld fun K hK=>?_;go_simp;refine hK _ ?_;clear hK K
    refine tk 2 rfl HQP hHeld fun K hK=>?_;go_simp;refine hK _ ?_;clear hK K
    refine tk 3 rfl HQP hHeld fun K hK=>?_;go_simp;refine hK _ ?_;clear hK K
    refine tk 4 rfl HQP hHeld fun K hK=>?_;go_simp;refine hK _ ?_;clear hK K
    refine tk 5 rfl HQP hHeld fun K hK=>?_;go_simp;refine hK _ ?_;clear hK K
    refine tk 6 rfl HQP hHeld fun K hK=>?_;go_simp;refine hK _ ?_;clear hK K
    refine tk 7 rfl HQP hHeld fun K hK=>?_;go_simp;refine hK _ ?_;clear hK K
    refine tk 8 rfl HQP hHeld fun K hK=>?_;go_simp;refine hK _ ?_;clear hK K
    refine tk 9 rfl HQP hHeld fun K hK=>?_;go_simp;refine hK _ ?_;clear hK K
    refine tk 10 rfl HQP hHeld fun K hK=>?_;go_simp;refine hK _ ?_;clear hK K
    refine tk 11 rfl HQP hHeld fun K hK=>?_;go_simp;refine hK _ ?_;clear hK K
    refine tk 12 rfl HQP hHeld fun K hK=>?_;go_simp;refine hK _ ?_;clear hK K
    refine tk 13 rfl HQP hHeld fun K hK=>?_;go_simp;refine hK _ ?_;clear hK K
    refine tk 14 rfl HQP hHeld fun K hK=>?_;go_simp;refine hK _ ?_;clear hK K
    refine tk 15 rfl HQP hHeld fun K hK=>?_;go_simp;refine hK _ ?_;clear hK K
    refine tk 16 rfl HQP hHeld fun K hK=>?_;go_simp;refine hK _ ?_;clear hK K
    refine tk 17 rfl HQP hHeld fun K hK=>?_;go_simp;refine hK _ ?_;clear hK K
    refine tk 18 rfl HQP hHeld fun K hK=>?_;go_simp;refine hK _ ?_;clear hK K
    refine tk 20 rfl HQP hHeld fun K hK=>?_;go_simp;refine hK _ ?_;clear hK K
    refine ol 19 rfl fun K hK=>?_
    go_simp
    refine (HC1.out _).mono ?_
    rintro _ u1 ⟨rfl,hb1⟩
    replace hHeld:(fun u=>Below va.heap.size va u) u1:=Below.trans hHeld (hb1.mono (Below.size hHeld))
    refine hK.out _ _ (fun _=>hHeld) ?_
    clear hK K hb1
    refine ol 21 rfl fun K hK=>?_
    go_simp
    refine (HC2.out _).mono ?_
    rintro _ u2 ⟨rfl,hb2⟩
    replace hHeld:(fun u=>Below va.heap.size va u) u2:=Below.trans hHeld (hb2.mono (Below.size hHeld))
    refine hK.out _ _ (fun _=>hHeld) ?_
    clear hK K hb2
    refine tk 22 rfl HQP hHeld fun K hK=>?_;go_simp;refine hK _ ?_;clear hK K
    refine tk 23 rfl HQP hHeld fun K hK=>?_;go_simp;refine hK _ ?_;clear hK K
    refine done_L (by kernel_rfl) ?_ _
    refine HQX.out _ _ ?_
    clear HQX HQP QX
    have HL:Hid _:=HK2.out u2 hHeld
    clear hne q0 q1 q2 q3 q4 hHeld
    obtain ⟨hl0,hl1,hl2,hl3,hl4,hl5,hl6⟩:=HL.out
    go_wp2
    go_roundw
    case rel=>exact ⟨k+1,by go_num,by rw [HE.out];go_num,by omega,HL.out.1,HL.out.2.1,HL.out.2.2.1⟩
    case measure=>simp [intOf];omega
  ·obtain rfl:k=L.length:=by omega
   have R:=HP.out ((2+many+sumT x z (L.take L.length):Nat):Int) wr (by rw [List.take_length];rfl) hb
   clear hb HI hR0 HP HX HB HA x0 x1
   generalize sumT x z (L.take L.length)=T0 at *
   go_wp2
   exact R
end Go.Proofs.YtlllmmceoeihkaaGreat.Z
