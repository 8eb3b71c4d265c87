/-
  notes: all of a group is told.
  head: how many blocks a group has, with a sum of all its notes.
  noted: the group that so many notes tell.
  noted, walked.
  left: the group whose head stands in the journal's file.
  left, where a head stands.
-/
import Derived.Test.YtlllmmceoeihkaaGreatJJstep
import Derived.Test.YtlllmmceoeihkaaGreatJJspec
import Derived.Laws.ResultCell
import Derived.Laws.StructEq
set_option maxRecDepth 20000
namespace Go.Proofs.YtlllmmceoeihkaaGreat
section
open Go.RowKit
structure Nt (w:World) (lo:Nat) (a:Option Addr) (c:Nat) (ps:List Pt):Prop where
 row:w.ownsRow lo 181 5 (.slice a ps.length c) ps.length (cpCells ps)
 by_:∀ k (h:k<ps.length),Bytes w ps[k].a ps[k].n ps[k].b
 ok:∀ k (h:k<ps.length),(ps[k].a=none->ps[k].c=0)∧ps[k].n<=ps[k].c∧(I64 ps[k].i∧I64 ps[k].f.1∧I64 ps[k].f.2.1∧I64 ps[k].f.2.2)∧ps[k].n<=reachBytes
 apart:∀ k (h:k<ps.length) b off,ps[k].a=some ⟨b,off,none⟩->ps[k].b≠[]->a≠some ⟨b,0,none⟩
theorem Nt.rowb {w:World} {lo:Nat} {a:Option Addr} {c:Nat} {l:List Pt} (h:Nt w lo a c l):(a=none∧l.length=0)∨∃ g,a=some ⟨g,0,none⟩∧lo<=g∧g<w.heap.size:=by
 rcases h.row.2 with ⟨hv,hn⟩|⟨g,cap,cur,hv,hg,hh,_⟩
 ·simp only [Value.slice.injEq] at hv
  exact Or.inl ⟨hv.1,hn⟩
 ·simp only [Value.slice.injEq] at hv
  exact Or.inr ⟨g,hv.1,hg,(Array.getElem?_eq_some_iff.1 hh).1⟩
theorem Nt.puts {w:World} {lo:Nat} {a:Option Addr} {c:Nat} {l:List Pt} (h:Nt w lo a c l):Puts w a l:=fun k hk=>by
 rcases h.rowb with ⟨_,e⟩|⟨g,rfl,_,_⟩
 ·omega
 refine ⟨g,0,rfl,?_⟩
 have hc:∀ m,m<5->w.cell? ⟨g,0+k*5+m,none⟩=(ptCells l[k])[m]?:=fun m hm=>by
  rw [Nat.zero_add,<- cpCells_at l k hk m hm]
  exact World.ownsRow.cellAt h.row (k*5+m) (by omega)
 obtain ⟨h1,h2,h3,h4⟩:=h.ok k hk
 exact ⟨hc 0 (by omega),hc 1 (by omega),hc 2 (by omega),hc 3 (by omega),hc 4 (by omega),h.by_ k hk,h1,h2,h3,h4⟩
theorem Nt.later {w w':World} {lo:Nat} {a:Option Addr} {c:Nat} {l:List Pt} (h:Nt w lo a c l) (hb:Below w.heap.size w w'):Nt w' lo a c l:=by
 refine ⟨ownsRow_same h.row (fun b e=>?_),fun k hk=>(h.by_ k hk).later hb,h.ok,h.apart⟩
 rcases h.rowb with ⟨e2,_⟩|⟨g,e2,h1,h2⟩
 ·rw [e] at e2;cases e2
 ·rw [e] at e2;cases e2;exact hb.block _ h2
theorem bytes_grown {w w':World} {o:Option Nat} {a:Option Addr} {n:Nat} {bs:List Int} (h:Bytes w a n bs) (hg:w.grownBy w' o) (ho:∀ b off,a=some ⟨b,off,none⟩->bs≠[]->o≠some b):Bytes w' a n bs:=by
 refine ⟨h.n,?_,h.fit⟩
 by_cases hb:bs=[]
 ·exact Or.inl hb
 rcases h.cells with e | ⟨b,off,e,hc⟩
 ·exact Or.inl e
 ·refine Or.inr ⟨b,off,e,fun k hk=>?_⟩
  rw [<- hc k hk]
  exact World.cell?_of_block (a:=⟨b,off+k,none⟩) (hg.block b (World.block_lt_of_cell? w _ (hc k hk)) (fun e2=>ho b off e hb e2.symm))
theorem bytes_blk {w:World} {a:Option Addr} {n b off:Nat} {bs:List Int} (h:Bytes w a n bs) (ha:a=some ⟨b,off,none⟩) (hb:bs≠[]):b<w.heap.size:=by
 rcases h.cells with e | ⟨b',off',e,hc⟩
 ·exact absurd e hb
 ·rw [ha] at e
  cases e
  cases bs with
  | nil=>exact absurd rfl hb
  | cons z r=>exact World.block_lt_of_cell? w _ (hc 0 (by simp))
theorem Nt.snoc {w w':World} {lo:Nat} {a:Option Addr} {c g cap:Nat} {l qs:List Pt} (h:Nt w lo a c l)
  (hown:w'.ownsRow lo 181 5 (.slice (some ⟨g,0,none⟩) (l.length+qs.length) cap) (l.length+qs.length) (cpCells l++cpCells qs)) (hgr:w.grownBy w' (Value.ownBlock (.slice a l.length c))) (hat:Value.ownBlock (.slice a l.length c)=some g∨g=w.heap.size)
  (hq:∀ k (h:k<qs.length),Bytes w qs[k].a qs[k].n qs[k].b∧((qs[k].a=none->qs[k].c=0)∧qs[k].n<=qs[k].c∧(I64 qs[k].i∧I64 qs[k].f.1∧I64 qs[k].f.2.1∧I64 qs[k].f.2.2)∧qs[k].n<=reachBytes)∧∀ b off,qs[k].a=some ⟨b,off,none⟩->qs[k].b≠[]->a≠some ⟨b,0,none⟩) :
  Nt w' lo (some ⟨g,0,none⟩) cap (l++qs):=by
 have ho:∀ k,Value.ownBlock (.slice a l.length c)=some k->a=some ⟨k,0,none⟩:=fun k hk=>by
  rcases h.rowb with ⟨e,_⟩|⟨b,e,h1,h2⟩
  ·rw [e] at hk;cases hk
  ·rw [e] at hk ⊢
   cases hk
   rfl
 have each:∀ k (hk:k<(l++qs).length),Bytes w (l++qs)[k].a (l++qs)[k].n (l++qs)[k].b∧(((l++qs)[k].a=none->(l++qs)[k].c=0)∧(l++qs)[k].n<=(l++qs)[k].c∧(I64 (l++qs)[k].i∧I64 (l++qs)[k].f.1∧I64 (l++qs)[k].f.2.1∧I64 (l++qs)[k].f.2.2)∧(l++qs)[k].n<=reachBytes)∧∀ b off,(l++qs)[k].a=some ⟨b,off,none⟩->(l++qs)[k].b≠[]->a≠some ⟨b,0,none⟩:=by
  intro k hk
  by_cases hlt:k<l.length
  ·rw [List.getElem_append_left hlt]
   exact ⟨h.by_ k hlt,h.ok k hlt,h.apart k hlt⟩
  ·rw [List.getElem_append_right (by omega)]
   exact hq _ _
 refine ⟨?_,fun k hk=>?_,fun k hk=>(each k hk).2.1,fun k hk b off e hne e2=>?_⟩
 ·rw [List.length_append,show cpCells (l++qs)=cpCells l++cpCells qs from List.flatMap_append]
  exact hown
 ·exact bytes_grown (each k hk).1 hgr (fun b off e hne e2=>(each k hk).2.2 b off e hne (ho b e2))
 ·cases e2
  rcases hat with hat | hat
  ·exact (each k hk).2.2 g off e hne (ho g hat)
  ·have:=bytes_blk (each k hk).1 e hne
   omega
def At6 (q5 q6:Nat) (f1 f2 f3 oi:Int) (oa:Option Addr) (on oc:Nat) (w':World):Prop:=w'.cell? ⟨q5,4,none⟩=some (.slice oa on oc)∧w'.heap[q6]?=some (.cells #[.int .i64 f1,.int .i64 f2,.int .i64 f3,.int .i64 oi] 184 (0,0))
theorem At6.on {q5 q6:Nat} {f1 f2 f3 oi:Int} {oa:Option Addr} {on oc:Nat} {w w':World} (h:At6 q5 q6 f1 f2 f3 oi oa on oc w) (hb:Below w.heap.size w w'):At6 q5 q6 f1 f2 f3 oi oa on oc w' :=
 ⟨cell_on hb h.1,(hb.block q6 (Array.getElem?_eq_some_iff.1 h.2).1).trans h.2⟩
theorem At6.grown {q5 q6:Nat} {f1 f2 f3 oi:Int} {oa:Option Addr} {on oc:Nat} {w w':World} {o:Option Nat} (h:At6 q5 q6 f1 f2 f3 oi oa on oc w) (hg:w.grownBy w' o) (ho:∀ k,o=some k->k≠q5∧k≠q6):At6 q5 q6 f1 f2 f3 oi oa on oc w':=by
 refine ⟨?_,?_⟩
 ·rw [<- h.1]
  exact World.cell?_of_block (a:=⟨q5,4,none⟩) (hg.block q5 (World.block_lt_of_cell? w _ h.1) (fun e=>(ho q5 e.symm).1 rfl))
 ·rw [<- h.2]
  exact hg.block q6 (Array.getElem?_eq_some_iff.1 h.2).1 (fun e=>(ho q6 e.symm).2 rfl)
theorem i64_0:I64 0:=I64.le (by decide)
theorem i64_1:I64 1:=I64.le (by decide)
theorem nt_two {w5 w6 w:World} {a':Option Addr} {m c' g cp p b off k:Nat} {qs:List Pt} {i1 i2:Int} {zs:List Int} {f1 f2 f3 oi:Int} {oa:Option Addr} {on oc:Nat} {ob:List Int} (h:Nt w5 w.heap.size a' c' qs) (hm:qs.length=m)
  (hown:w6.ownsRow w.heap.size 181 5 (.slice (some ⟨g,0,none⟩) (m+2) cp) (m+2) (cpCells qs++cpCells [⟨J0,i1,some ⟨p,0,none⟩,32,32,zs⟩,⟨J0,i2,oa,on,oc,ob⟩])) (hgr:w5.grownBy w6 (Value.ownBlock (.slice a' m c'))) (hat:Value.ownBlock (.slice a' m c')=some g∨g=w5.heap.size)
  (hR:Row w5 p zs∧∀ g,a'=some ⟨g,0,none⟩->g≠p) (hz:zs.length=32) (hzf:∀ z∈zs,0<=z∧z<=255) (hO5:PutAt w5 b off k ⟨(f1,f2,f3),oi,oa,on,oc,ob⟩) (hO:PutAt w b off k ⟨(f1,f2,f3),oi,oa,on,oc,ob⟩) (h1:I64 i1) (h2:I64 i2) :
  Nt w6 w.heap.size (some ⟨g,0,none⟩) cp (qs++[⟨J0,i1,some ⟨p,0,none⟩,32,32,zs⟩,⟨J0,i2,oa,on,oc,ob⟩]):=by
 subst hm
 refine h.snoc hown hgr hat (fun k hk=>?_)
 match k,hk with
 | 0,_ =>
   refine ⟨hR.1.bytes hzf 32 hz,⟨fun h=>(by cases h),Nat.le_refl _,⟨h1,i64_1,i64_0,i64_0⟩,by show 32<=reachBytes;decide⟩,fun b' off' e hne e2=>?_⟩
   cases e
   exact hR.2 p e2 rfl
 | 1,_ =>
   refine ⟨hO5.by_,⟨hO5.nil,hO5.cap,⟨h2,i64_1,i64_0,i64_0⟩,hO5.sz⟩,fun b' off' e hne e2=>?_⟩
   have h3:=bytes_blk hO.by_ e hne
   rcases h.rowb with ⟨e3,_⟩|⟨g',e3,h4,_⟩
   ·rw [e2] at e3;cases e3
   ·rw [e2] at e3;cases e3;omega
set_option maxHeartbeats 1000000 in
theorem notes_c (a:Option Addr) (n c:Nat) (ps:List Pt) (w:World) (hn:n<=256) (hl:ps.length=n) (hP:Puts w a ps):Calls Tryz.prog 77 #[.agg #[.slice a n c]] w (StepSay (notesL (ps.map Pt.bk) 0) w):=by
 obtain ⟨Post,hPost⟩:∃ Post,Post=StepSay (notesL (ps.map Pt.bk) 0) w:=⟨_,rfl⟩
 rw [<- hPost]
 have HP:Hid (∀ e w',StepSay (notesL (ps.map Pt.bk) 0) w e w'->Post e w'):=fun e w' h=>by rw [hPost];exact h
 clear hPost
 have Hl:Hid (ps.length=n):=hl
 have HPs:Hid (Puts w a ps):=hP
 clear hl hP
 obtain ⟨i181,hi181,hz0,hz1,hz2⟩:=info_parts jinfo181
 go_enter Tryz.func77,Tryz.ntmps77
 go_wp2_with (at_make;refine wpList_make_own _ rfl _ _ 112 rfl w.heap.size 181 i181 _ 5 Tryz.underlying112 hi181 hz0 hz1 _ _ _ (2*n) rfl rfl rfl (by rw [hz2];omega) (by unfold maxLen;omega) (by rw [World.size_alloc];omega) ?_;intro w1 hrow1 hg1;have cbx:w1.cell? ⟨w.heap.size,0,none⟩=some (.slice a n c):=by rw [World.cell?_of_block (a:=⟨w.heap.size,0,none⟩) (hg1.block w.heap.size (by rw [World.size_alloc];omega) (by simp)),cell_of_row _ _ _ _ 152 (0,0) (heap_alloc_new w _)];rfl)
 have Hs1:Hid (w1.heap.size=w1.heap.size):=rfl
 have hb1:Below w.heap.size w w1:=((Below.refl _ _).alloc (Nat.le_refl _) _).trans (((Below.refl _ _).grown hg1 (Nat.le_refl _) (by simp)).mono (by rw [World.size_alloc];omega))
 rw [World.size_alloc] at hrow1
 have HN1:Hid (Nt w1 w.heap.size (some ⟨w.heap.size+1,0,none⟩) (2*n) []):=⟨hrow1,fun k h=>absurd h (Nat.not_lt_zero _),fun k h=>absurd h (Nat.not_lt_zero _),fun k h=>absurd h (Nat.not_lt_zero _)⟩
 have Hb1:Hid (Below w.heap.size w w1):=hb1
 clear hrow1 hg1 hb1 cbx Hs1
 generalize w.heap.size+1=g0 at *
 go_loopw [3,15] (fun v3 v15 wr=>∃ (j:Nat) (a':Option Addr) (m c':Nat) (qs:List Pt),j<=n∧v15 = .int .i64 (j:Int)∧v3 = .slice a' m c'∧Hid (qs.length=m∧m=2*j∧Nt wr w.heap.size a' c' qs∧qs.map Pt.bk++notesL ((ps.map Pt.bk).drop j) j=notesL (ps.map Pt.bk) 0)∧Hid (Below w.heap.size w wr)) (fun _ v15 _=>n-(intOf v15).toNat)
 case atStart=>exact ⟨0,_,0,_,[],Nat.zero_le _,rfl,rfl,⟨rfl,rfl,HN1.out,rfl⟩,Hb1⟩
 case round =>
  clear HN1 Hb1
  obtain ⟨j,a',m,c',qs,hj,rfl,rfl,HC,Hb⟩:=hrel
  by_cases hlt:j<n
  ·have hlt':(j:Int)<n:=by omega
   have hjl:j<ps.length:=by rw [Hl.out];exact hlt
   obtain ⟨b,off,rfl,hO0⟩:=HPs.out j hjl
   have hO:=hO0.on Hb.out
   have Hnext:Hid (notesL ((ps.map Pt.bk).drop j) j=⟨J0,1+2*(j:Int),whereB ps[j].bk⟩::⟨J0,2+2*(j:Int),ps[j].b⟩::notesL ((ps.map Pt.bk).drop (j+1)) (j+1)):=by
    show _=_
    rw [List.drop_eq_getElem_cons (by rw [List.length_map];exact hjl),List.getElem_map]
    rfl
   generalize ps[j]=o at hO0 hO Hnext
   obtain ⟨⟨f1,f2,f3⟩,oi,oa,on,oc,ob⟩:=o
   have HO0:Hid (PutAt w b off j ⟨(f1,f2,f3),oi,oa,on,oc,ob⟩):=hO0
   have c0:wr.cell? ⟨b,off+j*5,none⟩=some (.int .i64 f1):=hO.c0
   have c1:wr.cell? ⟨b,off+j*5+1,none⟩=some (.int .i64 f2):=hO.c1
   have c2:wr.cell? ⟨b,off+j*5+2,none⟩=some (.int .i64 f3):=hO.c2
   have c3:wr.cell? ⟨b,off+j*5+3,none⟩=some (.int .i64 oi):=hO.c3
   have c4:wr.cell? ⟨b,off+j*5+4,none⟩=some (.slice oa on oc):=hO.c4
   clear hO0 hO hjl HP
   go_wp2_with fail
   have HAb:Hid (At6 wr.heap.size (wr.heap.size+1) f1 f2 f3 oi oa on oc ((wr.alloc (.cells #[.int .i64 f1,.int .i64 f2,.int .i64 f3,.int .i64 oi,.slice oa on oc] 181)).alloc (.cells #[.int .i64 f1,.int .i64 f2,.int .i64 f3,.int .i64 oi] 184))):=⟨by rw [cell_of_row _ _ _ _ 181 (0,0) ((heap_alloc_old _ _ (by rw [World.size_alloc];omega)).trans (heap_alloc_new wr _))];rfl,heap_alloc2_new wr _ _⟩
   have hbb:Below wr.heap.size wr ((wr.alloc (.cells #[.int .i64 f1,.int .i64 f2,.int .i64 f3,.int .i64 oi,.slice oa on oc] 181)).alloc (.cells #[.int .i64 f1,.int .i64 f2,.int .i64 f3,.int .i64 oi] 184)):=((Below.refl _ _).alloc (Nat.le_refl _) _).alloc (by rw [World.size_alloc];omega) _
   have Hbb:Hid (Below w.heap.size w ((wr.alloc (.cells #[.int .i64 f1,.int .i64 f2,.int .i64 f3,.int .i64 oi,.slice oa on oc] 181)).alloc (.cells #[.int .i64 f1,.int .i64 f2,.int .i64 f3,.int .i64 oi] 184))):=Hb.out.trans (hbb.mono Hb.out.size)
   have HNb:Hid (Nt ((wr.alloc (.cells #[.int .i64 f1,.int .i64 f2,.int .i64 f3,.int .i64 oi,.slice oa on oc] 181)).alloc (.cells #[.int .i64 f1,.int .i64 f2,.int .i64 f3,.int .i64 oi] 184)) w.heap.size a' c' qs):=HC.out.2.2.1.later hbb
   have HNq:Hid ((a'=none∧qs.length=0)∨∃ g,a'=some ⟨g,0,none⟩∧w.heap.size<=g∧g<wr.heap.size):=HC.out.2.2.1.rowb
   clear hbb c0 c1 c2 c3 c4 Hb
   generalize (wr.alloc (.cells #[.int .i64 f1,.int .i64 f2,.int .i64 f3,.int .i64 oi,.slice oa on oc] 181)).alloc (.cells #[.int .i64 f1,.int .i64 f2,.int .i64 f3,.int .i64 oi] 184)=vb at *
   obtain ⟨q5,hq5⟩:∃ q,q=wr.heap.size:=⟨_,rfl⟩
   obtain ⟨q6,hq6⟩:∃ q,q=wr.heap.size+1:=⟨_,rfl⟩
   have HQ:Hid (q5=wr.heap.size∧q6=wr.heap.size+1):=⟨hq5,hq6⟩
   rw [<- hq6,<- hq5] at HAb
   rw [<- hq6,<- hq5]
   clear hq5 hq6
   obtain ⟨I2,HI2⟩:∃ I2:Int,Hid (I2=2+2*(j:Int)):=⟨_,rfl⟩
   have hI2:IntKind.i64.wrap (1+2*(j:Int)+1)=I2:=by have:=HI2.out;rw [IntKind.wrap_i64];omega
   refine region_L (At6 q5 q6 f1 f2 f3 oi oa on oc) 14 (by kernel_rfl) ?_
   have HAa:Hid (At6 q5 q6 f1 f2 f3 oi oa on oc vb.drew):=HAb.out
   have HNa:Hid (Nt vb.drew w.heap.size a' c' qs):=HNb.out.later ((Below.refl _ _).drew)
   have Hba:Hid (Below w.heap.size w vb.drew):=Hbb.out.drew
   clear HAb HNb Hbb
   generalize vb.drew=va at *
   have hHeld:(At6 q5 q6 f1 f2 f3 oi oa on oc) _:=HAa.out
   have hne:Nonempty (Sub (At6 q5 q6 f1 f2 f3 oi oa on oc)):=⟨⟨_,hHeld⟩⟩
   have k4:∀ s:Sub (At6 q5 q6 f1 f2 f3 oi oa on oc),s.w.cell? ⟨q5,4,none⟩=some (.slice oa on oc):=fun s=>s.ok.1
   have r0:∀ s:Sub (At6 q5 q6 f1 f2 f3 oi oa on oc),s.w.cell? ⟨q6,0,none⟩=some (.int .i64 f1):=fun s=>by rw [cell_of_row s.w q6 0 _ 184 (0,0) s.ok.2];rfl
   have r1:∀ s:Sub (At6 q5 q6 f1 f2 f3 oi oa on oc),s.w.cell? ⟨q6,1,none⟩=some (.int .i64 f2):=fun s=>by rw [cell_of_row s.w q6 1 _ 184 (0,0) s.ok.2];rfl
   have r2:∀ s:Sub (At6 q5 q6 f1 f2 f3 oi oa on oc),s.w.cell? ⟨q6,2,none⟩=some (.int .i64 f3):=fun s=>by rw [cell_of_row s.w q6 2 _ 184 (0,0) s.ok.2];rfl
   have r3:∀ s:Sub (At6 q5 q6 f1 f2 f3 oi oa on oc),s.w.cell? ⟨q6,3,none⟩=some (.int .i64 oi):=fun s=>by rw [cell_of_row s.w q6 3 _ 184 (0,0) s.ok.2];rfl
   refine tk0 0 rfl (fun _ _ _ _ h=>h) hHeld fun K hK=>?_;go_simp;refine hK _ ?_;clear hK K
   refine tk0 1 rfl (fun _ _ _ _ h=>h) hHeld fun K hK=>?_;go_simp;refine hK _ ?_;clear hK K
   refine tk0 3 rfl (fun _ _ _ _ h=>h) hHeld fun K hK=>?_;go_simp;refine hK _ ?_;clear hK K
   refine tk0 6 rfl (fun _ _ _ _ h=>h) hHeld fun K hK=>?_;go_simp;refine hK _ ?_;clear hK K
   refine tk0 9 rfl (fun _ _ _ _ h=>h) hHeld fun K hK=>?_;go_simp;refine hK _ ?_;clear hK K
   refine tk0 10 rfl (fun _ _ _ _ h=>h) hHeld fun K hK=>?_;go_simp;refine hK _ ?_;clear hK K
   refine ol 2 rfl fun K hK=>?_
   go_simp
   refine (noteAt_c (j:Int) (by omega) (by omega) va).mono ?_
   rintro _ _ ⟨rfl,rfl⟩
   replace hHeld:(At6 q5 q6 f1 f2 f3 oi oa on oc) _:=HAa.out
   refine hK.out _ _ (fun _=>hHeld) ?_
   clear hK K
   refine ol 4 rfl fun K hK=>?_
   go_simp
   refine (bytes_c f1 f2 f3 oi _).mono ?_
   rintro _ w2 ⟨p,hp,rfl,hR2,hb2⟩
   have HA2:Hid (At6 q5 q6 f1 f2 f3 oi oa on oc w2):=HAa.out.on hb2
   have HN2:Hid (Nt w2 w.heap.size a' c' qs):=HNa.out.later hb2
   have Hb2:Hid (Below w.heap.size w w2):=Hba.out.trans (hb2.mono Hba.out.size)
   have HR2:Hid (Row w2 p (rowB [f1,f2,f3,oi])∧∀ g,a'=some ⟨g,0,none⟩->g≠p):=⟨hR2,fun g e=>by rcases HNa.out.rowb with ⟨e2,_⟩|⟨g',e2,_,h2⟩ <;> (rw [e] at e2;cases e2);omega⟩
   clear hR2 hb2 hp HAa HNa Hba
   replace hHeld:(At6 q5 q6 f1 f2 f3 oi oa on oc) _:=HA2.out
   refine hK.out _ _ (fun _=>hHeld) ?_
   clear hK K
   refine ol 5 rfl fun K hK=>?_
   go_simp
   refine (own_c (1+2*(j:Int)) (some ⟨p,0,none⟩) 32 32 w2).mono ?_
   rintro _ w3 ⟨rfl,hb3⟩
   have HA3:Hid (At6 q5 q6 f1 f2 f3 oi oa on oc w3):=HA2.out.on hb3
   have HN3:Hid (Nt w3 w.heap.size a' c' qs):=HN2.out.later hb3
   have Hb3:Hid (Below w.heap.size w w3):=Hb2.out.trans (hb3.mono Hb2.out.size)
   have HR3:Hid (Row w3 p (rowB [f1,f2,f3,oi])∧∀ g,a'=some ⟨g,0,none⟩->g≠p):=⟨HR2.out.1.below hb3 HR2.out.1.lt,HR2.out.2⟩
   clear hb3 HA2 HN2 Hb2 HR2
   replace hHeld:(At6 q5 q6 f1 f2 f3 oi oa on oc) _:=HA3.out
   refine hK.out _ _ (fun _=>hHeld) ?_
   clear hK K
   refine ol 7 rfl fun K hK=>?_
   go_simp
   refine (noteAt_c (j:Int) (by omega) (by omega) w3).mono ?_
   rintro _ _ ⟨rfl,rfl⟩
   replace hHeld:(At6 q5 q6 f1 f2 f3 oi oa on oc) _:=HA3.out
   refine hK.out _ _ (fun _=>hHeld) ?_
   clear hK K
   refine tk0 8 rfl (fun _ _ _ _ h=>h) hHeld fun K hK=>?_;go_simp;refine hK _ ?_;clear hK K
   refine ol 11 rfl fun K hK=>?_
   go_simp
   refine (own_c I2 oa on oc _).mono ?_
   rintro _ w4 ⟨rfl,hb4⟩
   have HA4:Hid (At6 q5 q6 f1 f2 f3 oi oa on oc w4):=HA3.out.on hb4
   have HN4:Hid (Nt w4 w.heap.size a' c' qs):=HN3.out.later hb4
   have Hb4:Hid (Below w.heap.size w w4):=Hb3.out.trans (hb4.mono Hb3.out.size)
   have HR4:Hid (Row w4 p (rowB [f1,f2,f3,oi])∧∀ g,a'=some ⟨g,0,none⟩->g≠p):=⟨HR3.out.1.below hb4 HR3.out.1.lt,HR3.out.2⟩
   clear hb4 HA3 HN3 Hb3 HR3
   replace hHeld:(At6 q5 q6 f1 f2 f3 oi oa on oc) _:=HA4.out
   refine hK.out _ _ (fun _=>hHeld) ?_
   clear hK K
   refine ol 12 rfl fun K hK=>?_
   go_simp
   have hw5:(w4.alloc (.cells #[.int .i64 1,.int .i64 0,.int .i64 0,.int .i64 (1+2*(j:Int)),.slice (some ⟨p,0,none⟩) 32 32,.int .i64 1,.int .i64 0,.int .i64 0,.int .i64 I2,.slice oa on oc] 181)).heap[w4.heap.size]?=some (.cells (cpCells [⟨J0,1+2*(j:Int),some ⟨p,0,none⟩,32,32,rowB [f1,f2,f3,oi]⟩,⟨J0,I2,oa,on,oc,ob⟩]).toArray 181 (0,0)):=heap_alloc_new w4 _
   have hb5:Below w4.heap.size w4 (w4.alloc (.cells #[.int .i64 1,.int .i64 0,.int .i64 0,.int .i64 (1+2*(j:Int)),.slice (some ⟨p,0,none⟩) 32 32,.int .i64 1,.int .i64 0,.int .i64 0,.int .i64 I2,.slice oa on oc] 181)):=(Below.refl _ _).alloc (Nat.le_refl _) _
   obtain ⟨w5,e5⟩:∃ x,x=w4.alloc (.cells #[.int .i64 1,.int .i64 0,.int .i64 0,.int .i64 (1+2*(j:Int)),.slice (some ⟨p,0,none⟩) 32 32,.int .i64 1,.int .i64 0,.int .i64 0,.int .i64 I2,.slice oa on oc] 181):=⟨_,rfl⟩
   rw [<- e5] at hw5 hb5 ⊢
   have HA5:Hid (At6 q5 q6 f1 f2 f3 oi oa on oc w5):=HA4.out.on hb5
   have HN5:Hid (Nt w5 w.heap.size a' c' qs):=HN4.out.later hb5
   have Hb5:Hid (Below w.heap.size w w5):=Hb4.out.trans (hb5.mono Hb4.out.size)
   have HR5:Hid (Row w5 p (rowB [f1,f2,f3,oi])∧∀ g,a'=some ⟨g,0,none⟩->g≠p):=⟨HR4.out.1.below hb5 HR4.out.1.lt,HR4.out.2⟩
   have HW5:Hid (∀ j' u,(cpCells [⟨J0,1+2*(j:Int),some ⟨p,0,none⟩,32,32,rowB [f1,f2,f3,oi]⟩,⟨J0,I2,oa,on,oc,ob⟩])[j']?=some u->w5.cell? ((⟨w4.heap.size,0,none⟩:Addr).add j')=some u):=World.news_of_block hw5
   clear hw5 hb5 e5 HA4 HN4 Hb4 HR4
   replace hHeld:(At6 q5 q6 f1 f2 f3 oi oa on oc) _:=HA5.out
   refine hK.out _ _ (fun _=>hHeld) ?_
   clear hK K
   refine ol 13 rfl fun K hK=>?_
   refine step_append_lies _ rfl (.tmp 32) (.tmp 44) 112 rfl w.heap.size 181 i181 _ 5 56 Tryz.underlying112 hi181 hz0 hz1 hz2 rfl (by decide) (.slice a' m c') m (cpCells qs) rfl (by have:=HN5.out.row;rw [HC.out.1] at this;exact this) ⟨w4.heap.size,0,none⟩ 2 2 (cpCells [⟨J0,1+2*(j:Int),some ⟨p,0,none⟩,32,32,rowB [f1,f2,f3,oi]⟩,⟨J0,I2,oa,on,oc,ob⟩]) rfl rfl HW5.out (by simp [cpCells,ptCells,Value.oneCell']) (by omega) (by have:=HC.out.2.1;unfold maxLen;omega) (by have:=HC.out.2.1;omega) Hb5.out.size w5.heap.size rfl ?_
   intro g cp w6 hown6 hgr6 hat6 hlt6
   have HN6:Hid (Nt w6 w.heap.size (some ⟨g,0,none⟩) cp (qs++[⟨J0,1+2*(j:Int),some ⟨p,0,none⟩,32,32,rowB [f1,f2,f3,oi]⟩,⟨J0,I2,oa,on,oc,ob⟩])):=nt_two HN5.out HC.out.1 hown6 hgr6 hat6 HR5.out (rowB_len _) (rowB_fit _) (HO0.out.on Hb5.out) HO0.out (I64.le (by omega)) (I64.le (by have:=HI2.out;omega))
   have Hb6:Hid (Below w.heap.size w w6):=Hb5.out.grown hgr6 Hb5.out.size (fun k hk=>by rcases HN5.out.rowb with ⟨e,_⟩|⟨g',e,h1,_⟩ <;> (rw [e] at hk;cases hk);exact h1)
   have HA6:Hid (At6 q5 q6 f1 f2 f3 oi oa on oc w6):=HA5.out.grown hgr6 (fun k hk=>by have:=HQ.out;rcases HNq.out with ⟨e,_⟩|⟨g',e,h1,h2⟩;(rw [e] at hk;cases hk);(rw [e] at hk;have e3:g'=k:=(by simpa [Value.ownBlock] using hk);omega))
   clear hown6 hgr6 hat6 hlt6 HA5 HN5 Hb5 HR5 HW5
   replace hHeld:(At6 q5 q6 f1 f2 f3 oi oa on oc) _:=HA6.out
   refine hK.out _ _ (fun _=>hHeld) ?_
   clear hK K
   refine ol 14 rfl fun K hK=>?_
   go_simp
   refine hK.out _ _ (fun h=>absurd rfl h) ?_
   clear hK K
   refine done_L (by kernel_rfl) ?_ _
   clear hHeld hne k4 r0 r1 r2 r3
   have HCn:Hid ((qs++[(⟨J0,1+2*(j:Int),some ⟨p,0,none⟩,32,32,rowB [f1,f2,f3,oi]⟩:Pt),⟨J0,I2,oa,on,oc,ob⟩]).length=m+2∧m+2=2*(j+1)∧Nt w6 w.heap.size (some ⟨g,0,none⟩) cp (qs++[(⟨J0,1+2*(j:Int),some ⟨p,0,none⟩,32,32,rowB [f1,f2,f3,oi]⟩:Pt),⟨J0,I2,oa,on,oc,ob⟩])∧(qs++[(⟨J0,1+2*(j:Int),some ⟨p,0,none⟩,32,32,rowB [f1,f2,f3,oi]⟩:Pt),⟨J0,I2,oa,on,oc,ob⟩]).map Pt.bk++notesL ((ps.map Pt.bk).drop (j+1)) (j+1)=notesL (ps.map Pt.bk) 0):=by
    refine ⟨by rw [List.length_append,HC.out.1];rfl,by have:=HC.out.2.1;omega,HN6.out,?_⟩
    rw [<- HC.out.2.2.2,Hnext.out,List.map_append,List.append_assoc]
    simp only [List.map_cons,List.map_nil,Pt.bk,List.cons_append,List.nil_append,whereB]
    rw [HI2.out]
   clear HC Hnext HN6 HA6 HO0
   go_wp2
   go_roundw
   case rel=>exact ⟨j+1,_,_,_,_,by omega,by go_num,rfl,HCn.out,Hb6.out⟩
   case measure=>simp [intOf];omega
  ·obtain rfl:j=n:=by omega
   have R:=HP.out (.returned (.slice a' m c')) wr ⟨Hb.out,a',m,c',qs,rfl,HC.out.1,by have:=HC.out.2.1;omega,HC.out.2.2.1.puts,by have:=HC.out.2.2.2;rw [List.drop_of_length_le (by rw [List.length_map,Hl.out];exact Nat.le_refl _)] at this;simpa [notesL] using this⟩
   clear HP HC HPs Hb
   go_wp2
   exact R
end
section
open Go.RowKit
section
variable {P:Program} {ops:Array Oper} {Q:Exit->Act->World->Prop} {md:Region.Mode} {S:World->Prop} {n:Nat}
theorem two_L {i j:Nat} {oi oj:Oper} {fuel:Nat} {listed:Array Bool} {a:Act} {w:World} (hr:Region.ready md ops listed=[i,j]) (hoi:ops[i]?=some oi) (hoj:ops[j]?=some oj)
  (h1:∀ K':Act->World->Prop,Shut (∀ a w,(i≠n->S w)->wpAnyL P md ops Q S n fuel (listed.setIfInBounds i true) a w->K' a w)->if Region.wanted oi (yielded ops a.tmps)=true then Oper.wp P oi a w K' Q else K' (a.put oi.dst undef) w)
  (h2:∀ K':Act->World->Prop,Shut (∀ a w,(j≠n->S w)->wpAnyL P md ops Q S n fuel (listed.setIfInBounds j true) a w->K' a w)->if Region.wanted oj (yielded ops a.tmps)=true then Oper.wp P oj a w K' Q else K' (a.put oj.dst undef) w):wpAnyL P md ops Q S n (fuel+1) listed a w :=
 ⟨fun h0=>(by rw [hr] at h0;cases h0),fun k hk=>(by
  rw [hr] at hk
  rcases List.mem_cons.1 hk with rfl | hk
  ·exact wpOp_step hoi (fun K' hK=>h1 K' (fun a w hS hW=>hK a w ⟨hS,hW⟩))
  ·obtain rfl:=List.mem_singleton.1 hk
   exact wpOp_step hoj (fun K' hK=>h2 K' (fun a w hS hW=>hK a w ⟨hS,hW⟩)))⟩
end
theorem notes_32 {l:List Bk} (h:∀ b∈l,b.b.length=32):∀ (k:Nat),∀ b∈notesL l k,b.b.length=32:=by
 induction l with
 | nil=>intro k b hb;cases hb
 | cons x r ih =>
   intro k b hb
   simp only [notesL,List.mem_cons] at hb
   rcases hb with rfl | rfl | hb
   ·exact rowB_len _
   ·exact h x (List.mem_cons_self ..)
   ·exact ih (fun y hy=>h y (List.mem_cons_of_mem _ hy)) (k+1) b hb
theorem flat_take {l:List Bk} {j:Nat} (h:j<l.length):noteBytes (l.take (j+1))=noteBytes (l.take j)++l[j].b:=by
 rw [List.take_succ_eq_append_getElem h]
 unfold noteBytes
 rw [List.flatMap_append]
 simp
theorem fit_notes {w:World} {a:Option Addr} {qs:List Pt} {l:List Bk} (h:Puts w a qs) (e:qs.map Pt.bk=l):∀ z∈noteBytes l,0<=z∧z<=255:=by
 subst e
 intro z hz
 unfold noteBytes at hz
 rw [List.mem_flatMap] at hz
 obtain ⟨b,hb,hz⟩:=hz
 obtain ⟨q,hq,rfl⟩:=List.mem_map.1 hb
 obtain ⟨k,hk,rfl⟩:=List.mem_iff_getElem.1 hq
 obtain ⟨_,_,_,ho⟩:=h k hk
 exact ho.by_.fit z hz
set_option maxHeartbeats 1000000 in
theorem head_c (a:Option Addr) (n c:Nat) (ps:List Pt) (w:World) (hn:n<=256) (hl:ps.length=n) (hP:Puts w a ps) (h32:∀ b∈ps.map Pt.bk,b.b.length=32):Calls Tryz.prog 78 #[.agg #[.slice a n c]] w (StepSay [headK (ps.map Pt.bk)] w):=by
 obtain ⟨Post,hPost⟩:∃ Post,Post=StepSay [headK (ps.map Pt.bk)] w:=⟨_,rfl⟩
 rw [<- hPost]
 have HP:Hid (∀ e w',StepSay [headK (ps.map Pt.bk)] w e w'->Post e w'):=fun e w' h=>by rw [hPost];exact h
 clear hPost
 have Hl:Hid (ps.length=n):=hl
 have hbx:Below w.heap.size w (w.alloc (.cells #[.slice a n c] 152)):=(Below.refl _ _).alloc (Nat.le_refl _) _
 have Hbx:Hid (Below w.heap.size w (w.alloc (.cells #[.slice a n c] 152))):=hbx
 have HPs:Hid (Puts (w.alloc (.cells #[.slice a n c] 152)) a ps):=hP.on hbx
 have Hcx:Hid ((w.alloc (.cells #[.slice a n c] 152)).cell? ⟨w.heap.size,0,none⟩=some (.slice a n c)):=by show _=_;rw [cell_of_row _ _ _ _ 152 (0,0) (heap_alloc_new w _)];rfl
 have H32:Hid (∀ b∈notesL (ps.map Pt.bk) 0,b.b.length=32):=notes_32 h32 0
 clear hl hP hbx h32
 go_enter Tryz.func78,Tryz.ntmps78
 go_wp2_with fail
 generalize w.alloc (.cells #[.slice a n c] 152)=w1 at *
 refine (notes_c a n c ps w1 hn Hl.out HPs.out).mono ?_
 rintro _ w2 ⟨hb2,na,nn,nc,qs,rfl,hq1,hq2,hq3,hq4⟩
 have Hb2:Hid (Below w.heap.size w w2):=Hbx.out.trans (hb2.mono Hbx.out.size)
 have Hc2:Hid (w2.cell? ⟨w.heap.size,0,none⟩=some (.slice a n c)):=cell_on hb2 Hcx.out
 have HQ:Hid (qs.length=nn∧Puts w2 na qs∧qs.map Pt.bk=notesL (ps.map Pt.bk) 0):=⟨hq1,hq3,hq4⟩
 clear hb2 hq1 hq3 hq4 Hbx HPs Hcx
 have Hxq:Hid (∀ k (h:k<qs.length),qs[k].b.length=32):=fun k h=>H32.out qs[k].bk (by rw [<- HQ.out.2.2];exact List.mem_map.2 ⟨_,List.getElem_mem h,rfl⟩)
 go_wp2_with fail
 go_loopw [3,10] (fun v3 v10 wr=>∃ (j:Nat) (a':Option Addr) (m c':Nat),j<=nn∧v10 = .int .i64 (j:Int)∧v3 = .slice a' m c'∧Hid (m=32*j∧(noteBytes ((qs.map Pt.bk).take j)).length=m∧Own wr w2.heap.size a' c' (noteBytes ((qs.map Pt.bk).take j)))∧Hid (Below w2.heap.size w2 wr)) (fun _ v10 _=>nn-(intOf v10).toNat)
 case atStart=>exact ⟨0,none,0,0,Nat.zero_le _,rfl,rfl,⟨rfl,rfl,Own.nil _ _⟩,Below.refl _ _⟩
 case round =>
  obtain ⟨j,a',m,c',hj,rfl,rfl,HO,Hb⟩:=hrel
  by_cases hlt:j<nn
  ·have hlt':(j:Int)<nn:=by omega
   have hjl:j<qs.length:=by rw [HQ.out.1];exact hlt
   obtain ⟨b,off,rfl,hP0⟩:=HQ.out.2.1 j hjl
   have hPw:=hP0.on Hb.out
   have Hnext:Hid (noteBytes ((qs.map Pt.bk).take (j+1))=noteBytes ((qs.map Pt.bk).take j)++qs[j].b):=by
    show _=_
    rw [flat_take (by rw [List.length_map];exact hjl),List.getElem_map]
    rfl
   have Hn32:Hid (qs[j].b.length=32):=Hxq.out j hjl
   generalize qs[j]=o at hP0 hPw Hnext Hn32
   obtain ⟨⟨f1,f2,f3⟩,oi,oa,on,oc,ob⟩:=o
   have HPw:Hid (PutAt wr b off j ⟨(f1,f2,f3),oi,oa,on,oc,ob⟩):=hPw
   have c0:wr.cell? ⟨b,off+j*5,none⟩=some (.int .i64 f1):=hPw.c0
   have c1:wr.cell? ⟨b,off+j*5+1,none⟩=some (.int .i64 f2):=hPw.c1
   have c2:wr.cell? ⟨b,off+j*5+2,none⟩=some (.int .i64 f3):=hPw.c2
   have c3:wr.cell? ⟨b,off+j*5+3,none⟩=some (.int .i64 oi):=hPw.c3
   have c4:wr.cell? ⟨b,off+j*5+4,none⟩=some (.slice oa on oc):=hPw.c4
   have hon:on=32:=by have h1:ob.length=on:=hPw.by_.n;have h2:ob.length=32:=Hn32.out;omega
   subst hon
   have hb3:Below wr.heap.size wr (wr.alloc (.cells #[.int .i64 f1,.int .i64 f2,.int .i64 f3,.int .i64 oi,.slice oa 32 oc] 181)):=(Below.refl _ _).alloc (Nat.le_refl _) _
   have HX:Hid (Bytes (wr.alloc (.cells #[.int .i64 f1,.int .i64 f2,.int .i64 f3,.int .i64 oi,.slice oa 32 oc] 181)) oa 32 ob):=hPw.by_.later hb3
   have HOw:Hid (Own (wr.alloc (.cells #[.int .i64 f1,.int .i64 f2,.int .i64 f3,.int .i64 oi,.slice oa 32 oc] 181)) w2.heap.size a' c' (noteBytes ((qs.map Pt.bk).take j))):=HO.out.2.2.later hb3
   have hBw:Below w2.heap.size w2 (wr.alloc (.cells #[.int .i64 f1,.int .i64 f2,.int .i64 f3,.int .i64 oi,.slice oa 32 oc] 181)):=Hb.out.trans (hb3.mono Hb.out.size)
   have hm:=HO.out.1
   have hm2:=HO.out.2.1
   clear hP0 hPw hjl HP hb3
   generalize noteBytes ((qs.map Pt.bk).take j)=ys at *
   go_wp2_with (at_builtin;refine wpList_append_bytes rfl (.tmp 14) (.tmp 16) rfl w2.heap.size a' m c' ys hm2 rfl HOw.out oa 32 oc ob rfl HX.out HPw.out.nil (by omega) w2 hBw hBw.size ?_;intro a3 c3' w3 HO3 hb3 hB3)
   have HOn:Hid (32*j+32=32*(j+1)∧(noteBytes ((qs.map Pt.bk).take (j+1))).length=32*j+32∧Own w3 w2.heap.size a3 c3' (noteBytes ((qs.map Pt.bk).take (j+1)))):=by
    have h2:ob.length=32:=Hn32.out
    refine ⟨by omega,?_,?_⟩
    ·rw [Hnext.out]
     show (ys++ob).length=_
     rw [List.length_append,hm2,h2,hm]
    ·rw [Hnext.out]
     exact HO3.out
   clear HO Hnext HOw HX HO3 HQ Hxq
   go_roundw
   case rel=>exact ⟨j+1,_,_,_,by omega,by go_num,rfl,HOn.out,hb3⟩
   case measure=>simp [intOf];omega
  ·obtain rfl:j=nn:=by omega
   have hk:(noteBytes ((qs.map Pt.bk).take j))=noteBytes (notesL (ps.map Pt.bk) 0):=by rw [List.take_of_length_le (by rw [List.length_map,HQ.out.1];exact Nat.le_refl _),HQ.out.2.2]
   have hm:m<=1000000:=by have:=HO.out.1;omega
   have HY:Hid (Bytes wr a' m (noteBytes (notesL (ps.map Pt.bk) 0))):=by
    have h1:=HO.out.2.2
    have h2:=HO.out.2.1
    rw [hk] at h1 h2
    exact h1.bytes (fit_notes HQ.out.2.1 HQ.out.2.2) m h2
   have Hbw:Hid (Below w.heap.size w wr):=Hb2.out.trans (Hb.out.mono Hb2.out.size)
   have Hcw:Hid (wr.cell? ⟨w.heap.size,0,none⟩=some (.slice a n c)):=cell_on Hb.out Hc2.out
   have hsb:=sumL_bd (noteBytes (notesL (ps.map Pt.bk) 0))
   have HH:Hid (headB (ps.map Pt.bk)=rowB [(n:Int),sumL (noteBytes (notesL (ps.map Pt.bk) 0)),0,0]):=by show headB (ps.map Pt.bk)=_;unfold headB;rw [List.length_map,Hl.out]
   clear HO HQ Hxq Hb Hc2 Hb2 hk H32
   obtain ⟨sm,Hsm⟩:∃ sm,Hid (sumL (noteBytes (notesL (ps.map Pt.bk) 0))=sm):=⟨_,rfl⟩
   rw [Hsm.out] at hsb HH
   have hws:IntKind.i64.wrap sm=sm:=by rw [IntKind.wrap_i64];omega
   go_wp2_with fail
   refine region_L (fun w'=>Below wr.drew.heap.size wr.drew w') 8 (by kernel_rfl) ?_
   have HYa:Hid (Bytes wr.drew a' m (noteBytes (notesL (ps.map Pt.bk) 0))):=HY.out.later ((Below.refl _ _).drew)
   have Hba:Hid (Below w.heap.size w wr.drew):=Hbw.out.drew
   have Hca:Hid (wr.drew.cell? ⟨w.heap.size,0,none⟩=some (.slice a n c)):=Hcw.out
   clear HY Hbw Hcw
   generalize wr.drew=va at *
   have hHeld:(fun w'=>Below va.heap.size va w') _:=Below.refl _ _
   have hne:Nonempty (Sub (fun w'=>Below va.heap.size va w')):=⟨⟨_,hHeld⟩⟩
   have k0:∀ s:Sub (fun w'=>Below va.heap.size va w'),s.w.cell? ⟨w.heap.size,0,none⟩=some (.slice a n c):=fun s=>cell_on s.ok Hca.out
   refine tk0 0 rfl (fun _ _ _ _ h=>h) hHeld fun K hK=>?_;go_simp;refine hK _ ?_;clear hK K
   refine tk0 1 rfl (fun _ _ _ _ h=>h) hHeld fun K hK=>?_;go_simp;refine hK _ ?_;clear hK K
   refine tk0 2 rfl (fun _ _ _ _ h=>h) hHeld fun K hK=>?_;go_simp;refine hK _ ?_;clear hK K
   refine tk0 3 rfl (fun _ _ _ _ h=>h) hHeld fun K hK=>?_;go_simp;refine hK _ ?_;clear hK K
   refine two_L (i:=4) (j:=7) (by kernel_rfl) rfl rfl (fun K hK=>?_) (fun K hK=>?_)
   ·go_simp
    refine (sum_any a' m c' _ (va) (by omega) (HYa.out.later hHeld)).mono ?_
    rintro _ w' ⟨rfl,hw'⟩
    rw [Hsm.out]
    subst w'
    refine hK.out _ _ (fun _=>hHeld) ?_
    clear hK K
    refine tk0 5 rfl (fun _ _ _ _ h=>h) hHeld fun K hK=>?_;go_simp;refine hK _ ?_;clear hK K
    refine tk0 6 rfl (fun _ _ _ _ h=>h) hHeld fun K hK=>?_;go_simp;refine hK _ ?_;clear hK K
    refine ol 7 rfl fun K hK=>?_
    go_simp
    replace hHeld:(fun w'=>Below va.heap.size va w') (va.alloc (.cells #[.int .i64 0,.int .i64 0,.int .i64 0,.int .i64 0] 184)):=(Below.refl _ _).alloc (Nat.le_refl _) _
    refine hK.out _ _ (fun _=>hHeld) ?_
    clear hK K
    refine ol 8 rfl fun K hK=>?_
    go_simp
    refine hK.out _ _ (fun h=>absurd rfl h) ?_
    clear hK K
    refine done_L (by kernel_rfl) ?_ _
    clear hHeld hne k0 HYa Hca
    have Hbv:Hid (Below w.heap.size w (va.alloc (.cells #[.int .i64 (n:Int),.int .i64 sm,.int .i64 0,.int .i64 0] 184))):=Hba.out.alloc Hba.out.size _
    clear Hba
    go_wp2_with fail
    generalize va.alloc (.cells #[.int .i64 (n:Int),.int .i64 sm,.int .i64 0,.int .i64 0] 184)=w5 at *
    refine (bytes_c n sm 0 0 w5).mono ?_
    rintro _ w6 ⟨p,hp,rfl,hR,hb6⟩
    have Hb6:Hid (Below w.heap.size w w6):=Hbv.out.trans (hb6.mono Hbv.out.size)
    have HR:Hid (Row w6 p (headB (ps.map Pt.bk))):=by rw [HH.out];exact hR
    clear hR hb6 hp Hbv
    go_wp2_with fail
    refine (own_c 0 (some ⟨p,0,none⟩) 32 32 w6).mono ?_
    rintro _ w7 ⟨rfl,hb7⟩
    have Hb7:Hid (Below w.heap.size w w7):=Hb6.out.trans (hb7.mono Hb6.out.size)
    have HR7:Hid (Row w7 p (headB (ps.map Pt.bk))):=HR.out.below hb7 HR.out.lt
    clear hb7 Hb6 HR HH
    have R:Post (.returned (.slice (some ⟨w7.heap.size,0,none⟩) 1 1)) (w7.alloc (.cells #[.int .i64 1,.int .i64 0,.int .i64 0,.int .i64 0,.slice (some ⟨p,0,none⟩) 32 32] 181)):=by
     have hb:Below w7.heap.size w7 (w7.alloc (.cells #[.int .i64 1,.int .i64 0,.int .i64 0,.int .i64 0,.slice (some ⟨p,0,none⟩) 32 32] 181)):=(Below.refl _ _).alloc (Nat.le_refl _) _
     refine HP.out _ _ ⟨Hb7.out.trans (hb.mono Hb7.out.size),_,1,1,[⟨J0,0,some ⟨p,0,none⟩,32,32,headB (ps.map Pt.bk)⟩],rfl,rfl,by decide,?_,rfl⟩
     exact puts_one (heap_alloc_new w7 _) ((HR7.out.below hb HR7.out.lt).bytes (rowB_fit _) 32 (rowB_len _)) (fun h=>by cases h) (by decide) ⟨i64_0,i64_1,i64_0,i64_0⟩ (by decide)
    clear HP Hb7 HR7
    go_wp2
    exact R
   ·go_simp
    replace hHeld:(fun w'=>Below va.heap.size va w') (va.alloc (.cells #[.int .i64 0,.int .i64 0,.int .i64 0,.int .i64 0] 184)):=(Below.refl _ _).alloc (Nat.le_refl _) _
    refine hK.out _ _ (fun _=>hHeld) ?_
    clear hK K
    refine ol 4 rfl fun K hK=>?_
    go_simp
    refine (sum_any a' m c' _ (va.alloc (.cells #[.int .i64 0,.int .i64 0,.int .i64 0,.int .i64 0] 184)) (by omega) (HYa.out.later hHeld)).mono ?_
    rintro _ w' ⟨rfl,hw'⟩
    rw [Hsm.out]
    subst w'
    refine hK.out _ _ (fun _=>hHeld) ?_
    clear hK K
    refine tk0 5 rfl (fun _ _ _ _ h=>h) hHeld fun K hK=>?_;go_simp;refine hK _ ?_;clear hK K
    refine tk0 6 rfl (fun _ _ _ _ h=>h) hHeld fun K hK=>?_;go_simp;refine hK _ ?_;clear hK K
    refine ol 8 rfl fun K hK=>?_
    go_simp
    refine hK.out _ _ (fun h=>absurd rfl h) ?_
    clear hK K
    refine done_L (by kernel_rfl) ?_ _
    clear hHeld hne k0 HYa Hca
    have Hbv:Hid (Below w.heap.size w (va.alloc (.cells #[.int .i64 (n:Int),.int .i64 sm,.int .i64 0,.int .i64 0] 184))):=Hba.out.alloc Hba.out.size _
    clear Hba
    go_wp2_with fail
    generalize va.alloc (.cells #[.int .i64 (n:Int),.int .i64 sm,.int .i64 0,.int .i64 0] 184)=w5 at *
    refine (bytes_c n sm 0 0 w5).mono ?_
    rintro _ w6 ⟨p,hp,rfl,hR,hb6⟩
    have Hb6:Hid (Below w.heap.size w w6):=Hbv.out.trans (hb6.mono Hbv.out.size)
    have HR:Hid (Row w6 p (headB (ps.map Pt.bk))):=by rw [HH.out];exact hR
    clear hR hb6 hp Hbv
    go_wp2_with fail
    refine (own_c 0 (some ⟨p,0,none⟩) 32 32 w6).mono ?_
    rintro _ w7 ⟨rfl,hb7⟩
    have Hb7:Hid (Below w.heap.size w w7):=Hb6.out.trans (hb7.mono Hb6.out.size)
    have HR7:Hid (Row w7 p (headB (ps.map Pt.bk))):=HR.out.below hb7 HR.out.lt
    clear hb7 Hb6 HR HH
    have R:Post (.returned (.slice (some ⟨w7.heap.size,0,none⟩) 1 1)) (w7.alloc (.cells #[.int .i64 1,.int .i64 0,.int .i64 0,.int .i64 0,.slice (some ⟨p,0,none⟩) 32 32] 181)):=by
     have hb:Below w7.heap.size w7 (w7.alloc (.cells #[.int .i64 1,.int .i64 0,.int .i64 0,.int .i64 0,.slice (some ⟨p,0,none⟩) 32 32] 181)):=(Below.refl _ _).alloc (Nat.le_refl _) _
     refine HP.out _ _ ⟨Hb7.out.trans (hb.mono Hb7.out.size),_,1,1,[⟨J0,0,some ⟨p,0,none⟩,32,32,headB (ps.map Pt.bk)⟩],rfl,rfl,by decide,?_,rfl⟩
     exact puts_one (heap_alloc_new w7 _) ((HR7.out.below hb HR7.out.lt).bytes (rowB_fit _) 32 (rowB_len _)) (fun h=>by cases h) (by decide) ⟨i64_0,i64_1,i64_0,i64_0⟩ (by decide)
    clear HP Hb7 HR7
    go_wp2
    exact R
end
section
open Go.RowKit
theorem jresults_row_tmp {P:Program} {fn:Func} {p u:Tmp} {ty:TypeId} (h:fn.results = #[.cell p ty,.tmp u]) (tmps:Array Value) (w:World) (g:Nat) (t:TypeId) (cs:Array Value) (fr:Nat×Nat) (d:TypeDesc)
  (hp:tmps.getD p undef = .pointer (some ⟨g,0,none⟩)) (hg:w.heap[g]?=some (.cells cs t fr))
  (hu:P.underlying ty=some d) (hd:(match d with | .struct _ | .array _ _=>true | _=>false)=true) (hi:(P.info? ty).map (·.size)=some cs.size) :
  (results fn tmps).run P w = .ok (.tuple #[.agg cs,tmps.getD u undef]) w:=by
 rw [results_cell_tmp h,hp]
 simp [asAddr,run_loadVar_row w g t ty cs fr d hg hu hd hi,Result.andThen]
theorem PD.noDatum {F:Nat->Prop} {w:World} {g k i:Nat} {v:Value} {S:St} {mb ml:Option Nat} (h:PD F w g S mb ml) (hk:Ft g mb ml k) (hv:w.cell? ⟨k,i,none⟩=some v):¬ Datum v:=fun hd=>by
 rcases hk with rfl | hk | hk
 ·rw [cell_of_row w k i _ 86 (0,0) h.head] at hv
  match i,hv with
  | 0,hv=>exact hd.1 _ (by simpa using hv.symm)
  | 1,hv=>exact hd.1 _ (by simpa using hv.symm)
  | 2,hv=>exact hd.2.1 _ (by simpa using hv.symm)
  | 3,hv=>exact hd.2.1 _ (by simpa using hv.symm)
  | 4,hv=>exact hd.2.2 _ (by simpa using hv.symm)
  | n+5,hv=>simp at hv
 ·rcases h.maps with ⟨h1,_⟩|⟨b,l,Db,Dl,h1,h2,⟨_,_,h3,_⟩,_⟩
  ·rw [h1] at hk;cases hk
  ·rw [h1] at hk;cases hk;exact cell_map h3 hv
 ·rcases h.maps with ⟨_,h2,_⟩|⟨b,l,Db,Dl,h1,h2,_,⟨_,_,h3,_⟩,_⟩
  ·rw [h2] at hk;cases hk
  ·rw [h2] at hk;cases hk;exact cell_map h3 hv
theorem Dk.only {F:Nat->Prop} {w0 w w':World} {d g i:Nat} {v:Value} {S:St} (h:Dk F w0 w d S) (hO:Only g w w') (hg:w0.heap.size<=g) (hv:w.cell? ⟨g,i,none⟩=some v) (hd:Datum v):Dk F w0 w' d S:=by
 obtain ⟨mb,ml,hP⟩:=h.disk
 obtain ⟨hT,hTF⟩:=hP.tight
 have hk:∀ k,Ft d mb ml k->w'.heap[k]?=w.heap[k]?:=fun k hk=>hO.block k (fun e=>by subst e;exact hP.noDatum hk hv hd)
 refine ⟨⟨mb,ml,(hT.keep hk).more (fun k hk=>(hTF k hk).imp id (fun h=>⟨h.1,by rw [hO.size];exact h.2⟩))⟩,?_,?_,h.lt⟩
 ·exact ⟨hO.os.trans h.chg.os,hO.tape.trans h.chg.tape,hO.output.trans h.chg.output,by rw [hO.size];exact h.chg.size,fun k hk hf=>(hO.block k (by omega)).trans (h.chg.block k hk hf)⟩
 ·exact ⟨by rw [hO.size];exact h.same.size,fun k j u hu hdu=>by
   have hlt:=World.block_lt_of_cell? w0 ⟨k,j,none⟩ hu
   rw [hO.block k (by simp only at hlt;omega)]
   exact h.same.block k j u hu hdu⟩
def ownB (L:List Bk) (i:Int):List Int:=(has L J0 i).getD (List.replicate 32 0)
theorem readOwn_ok {F:Nat->Prop} {w0:World} (d:Nat) (S:St) (i:Int) (hi:0<=i∧i<4096) (ho:S.out=false) (w:World) (hD:Dk F w0 w d S) :
  Calls Tryz.prog 121 #[.pointer (some ⟨d,0,none⟩),.int .i64 i] w fun e w'=>∃ p,e = .returned (.tuple #[.slice (some ⟨p,0,none⟩) 32 32,.int .i64 0])∧w.heap.size<=p∧Bytes w' (some ⟨p,0,none⟩) 32 (ownB S.l i)∧Below w.heap.size w w'∧Dk F w0 w' d S:=by
 refine (readOwn_c d S i ⟨by omega,by omega⟩ w hD).mono ?_
 rintro e w' ⟨h,hD'⟩
 have e1:S.read J0 i=(0,ownB S.l i):=by unfold St.read ownB;rw [if_pos hi,ho];rfl
 rw [e1] at h
 obtain ⟨hb,⟨h0,_⟩|⟨p,hp,he,hB,hl,hf⟩⟩:=h
 ·exfalso
  obtain ⟨mb,ml,hP⟩:=hD.disk
  have:=(has_fit hP J0 i).1
  unfold ownB at h0
  simp only at h0
  rw [h0] at this
  cases this
 ·refine ⟨p,he,hp,⟨hl,Or.inr ⟨p,0,rfl,fun k hk=>?_⟩,hf⟩,hb,hD'⟩
  rw [Nat.zero_add,Blk.cell hB (show k<(ownB S.l i).length from hk),List.getD_eq_getElem?_getD,List.getElem?_eq_getElem hk]
  rfl
theorem readOwn_out {F:Nat->Prop} {w0:World} (d:Nat) (S:St) (i:Int) (hi:0<=i∧i<4096) (ho:S.out=true) (w:World) (hD:Dk F w0 w d S) :
  Calls Tryz.prog 121 #[.pointer (some ⟨d,0,none⟩),.int .i64 i] w fun e w'=>e = .returned (.tuple #[.slice none 0 0,.int .i64 8])∧Below w.heap.size w w'∧Dk F w0 w' d S:=by
 refine (readOwn_c d S i ⟨by omega,by omega⟩ w hD).mono ?_
 rintro e w' ⟨h,hD'⟩
 have e1:S.read J0 i=(8,[]):=by unfold St.read;rw [if_pos hi,ho];rfl
 rw [e1] at h
 obtain ⟨hb,⟨_,he⟩|⟨p,hp,he,hB,hl,hf⟩⟩:=h
 ·exact ⟨he,hb,hD'⟩
 ·cases hl
theorem set_five {X Y:List Value} {j:Nat} {v0 v1 v2 v3 v4:Value} (hX:(j+1)*5<=X.length) (hY:Y.length=j*5) (h:X.take (j*5)=Y) :
  (((((X.set (j*5) v0).set (j*5+1) v1).set (j*5+2) v2).set (j*5+3) v3).set (j*5+4) v4).take ((j+1)*5)=Y++[v0,v1,v2,v3,v4]:=by
 have e:X=Y++X.drop (j*5):=by rw [<- h];exact (List.take_append_drop _ _).symm
 have hd:5<=(X.drop (j*5)).length:=by rw [List.length_drop];omega
 rw [e]
 match X.drop (j*5),hd with
 | x0::x1::x2::x3::x4::R,_ =>
   have hs:∀ (Z:List Value) (i:Nat) (v:Value),(Y++Z).set (j*5+i) v=Y++Z.set i v:=fun Z i v=>by rw [List.set_append_right _ _ (by omega),hY];congr 2;omega
   have h0:=hs (x0::x1::x2::x3::x4::R) 0 v0
   rw [Nat.add_zero] at h0
   rw [h0,hs,hs,hs,hs]
   rw [List.take_append,List.take_of_length_le (by omega),hY,show (j+1)*5-j*5=5 by omega]
   rfl
structure Nd (w:World) (lo g n j:Nat) (qs:List Pt) (X:List Value):Prop where
 row:w.ownsRow lo 181 5 (.slice (some ⟨g,0,none⟩) n n) n X
 len:X.length=n*5
 pre:X.take (j*5)=cpCells qs
 ql:qs.length=j
 by_:∀ k (h:k<qs.length),Bytes w qs[k].a qs[k].n qs[k].b∧qs[k].n=32∧qs[k].c=32∧(∃ p,qs[k].a=some ⟨p,0,none⟩∧p≠g∧lo<p)∧(I64 qs[k].i∧I64 qs[k].f.1∧I64 qs[k].f.2.1∧I64 qs[k].f.2.2)
 dat:∃ i v,w.cell? ⟨g,i,none⟩=some v∧Datum v
theorem Nd.lt {w:World} {lo g n j:Nat} {qs:List Pt} {X:List Value} (h:Nd w lo g n j qs X):lo<=g∧g<w.heap.size:=h.row.lt g rfl
theorem Nd.later {w w':World} {lo g n j:Nat} {qs:List Pt} {X:List Value} (h:Nd w lo g n j qs X) (hb:Below w.heap.size w w'):Nd w' lo g n j qs X:=by
 refine ⟨ownsRow_same h.row (fun b e=>?_),h.len,h.pre,h.ql,fun k hk=>⟨(h.by_ k hk).1.later hb,(h.by_ k hk).2⟩,?_⟩
 ·cases e;exact hb.block g h.lt.2
 ·obtain ⟨i,v,hv,hd⟩:=h.dat
  exact ⟨i,v,cell_on hb hv,hd⟩
theorem cpCells_len (l:List Pt):(cpCells l).length=l.length*5:=by
 induction l with
 | nil=>rfl
 | cons x r ih =>
   show (ptCells x++cpCells r).length=_
   rw [List.length_append,ih,List.length_cons]
   simp only [List.length_cons,List.length_nil]
   omega
theorem bytes_only {w w':World} {g:Nat} (hO:Only g w w') {a:Option Addr} {m:Nat} {xs:List Int} {q:Nat} (hx:Bytes w a m xs) (ha:a=some ⟨q,0,none⟩) (hq:q≠g):Bytes w' a m xs:=by
 refine ⟨hx.n,?_,hx.fit⟩
 rcases hx.cells with e | ⟨b,off,e,hc⟩
 ·exact Or.inl e
 ·have hb:b=q:=by rw [ha] at e;cases e;rfl
  exact Or.inr ⟨b,off,e,fun k hk=>by rw [<- hc k hk];exact World.cell?_of_block (a:=⟨b,off+k,none⟩) (hO.block b (by rw [hb];exact hq))⟩
def put5 (w:World) (g j:Nat) (v0 v1 v2 v3 v4:Value):World:=((((w.setCell ⟨g,j*5,none⟩ v0).setCell ⟨g,j*5+1,none⟩ v1).setCell ⟨g,j*5+2,none⟩ v2).setCell ⟨g,j*5+3,none⟩ v3).setCell ⟨g,j*5+4,none⟩ v4
theorem put5_only (w:World) (g j:Nat) (v0 v1 v2 v3 v4:Value):Only g w (put5 w g j v0 v1 v2 v3 v4):=(((((Only.refl g w).set _ _).set _ _).set _ _).set _ _).set _ _
theorem put5_row {w:World} {lo g n j:Nat} {X:List Value} {v0 v1 v2 v3 v4:Value} (h:w.ownsRow lo 181 5 (.slice (some ⟨g,0,none⟩) n n) n X):(put5 w g j v0 v1 v2 v3 v4).ownsRow lo 181 5 (.slice (some ⟨g,0,none⟩) n n) n (((((X.set (j*5) v0).set (j*5+1) v1).set (j*5+2) v2).set (j*5+3) v3).set (j*5+4) v4) :=
 (((((h.stored (j*5) v0).1.stored (j*5+1) v1).1.stored (j*5+2) v2).1.stored (j*5+3) v3).1.stored (j*5+4) v4).1
theorem Nd.next {w:World} {lo g n j:Nat} {qs:List Pt} {X:List Value} (h:Nd w lo g n j qs X) (hj:j<n) {f:Fl} {i:Int} {p:Nat} {bs:List Int} (hB:Bytes w (some ⟨p,0,none⟩) 32 bs) (hp:p≠g∧lo<p) (hbd:I64 i∧I64 f.1∧I64 f.2.1∧I64 f.2.2) :
  ∃ X',Nd (put5 w g j (.int .i64 f.1) (.int .i64 f.2.1) (.int .i64 f.2.2) (.int .i64 i) (.slice (some ⟨p,0,none⟩) 32 32)) lo g n (j+1) (qs++[⟨f,i,some ⟨p,0,none⟩,32,32,bs⟩]) X':=by
 have hO:=put5_only w g j (.int .i64 f.1) (.int .i64 f.2.1) (.int .i64 f.2.2) (.int .i64 i) (.slice (some ⟨p,0,none⟩) 32 32)
 have hR:=put5_row (j:=j) (v0:=.int .i64 f.1) (v1:=.int .i64 f.2.1) (v2:=.int .i64 f.2.2) (v3:=.int .i64 i) (v4:=.slice (some ⟨p,0,none⟩) 32 32) h.row
 have hF:=set_five (v0:=.int .i64 f.1) (v1:=.int .i64 f.2.1) (v2:=.int .i64 f.2.2) (v3:=.int .i64 i) (v4:=.slice (some ⟨p,0,none⟩) 32 32) (show (j+1)*5<=X.length by rw [h.len];omega) (by rw [cpCells_len,h.ql]) h.pre
 have hL:(((((X.set (j*5) (.int .i64 f.1)).set (j*5+1) (.int .i64 f.2.1)).set (j*5+2) (.int .i64 f.2.2)).set (j*5+3) (.int .i64 i)).set (j*5+4) (.slice (some ⟨p,0,none⟩) 32 32)).length=n*5:=by simp only [List.length_set];exact h.len
 have hD:(((((X.set (j*5) (.int .i64 f.1)).set (j*5+1) (.int .i64 f.2.1)).set (j*5+2) (.int .i64 f.2.2)).set (j*5+3) (.int .i64 i)).set (j*5+4) (.slice (some ⟨p,0,none⟩) 32 32))[j*5+4]?=some (.slice (some ⟨p,0,none⟩) 32 32):=List.getElem?_set_self (by simp only [List.length_set];rw [h.len];omega)
 generalize put5 w g j (.int .i64 f.1) (.int .i64 f.2.1) (.int .i64 f.2.2) (.int .i64 i) (.slice (some ⟨p,0,none⟩) 32 32)=w' at *
 generalize ((((X.set (j*5) (.int .i64 f.1)).set (j*5+1) (.int .i64 f.2.1)).set (j*5+2) (.int .i64 f.2.2)).set (j*5+3) (.int .i64 i)).set (j*5+4) (.slice (some ⟨p,0,none⟩) 32 32)=X' at *
 refine ⟨X',⟨hR,hL,?_,by rw [List.length_append,h.ql];rfl,fun k hk=>?_,?_⟩⟩
 ·rw [hF]
  exact (cpCells_snoc qs ⟨f,i,some ⟨p,0,none⟩,32,32,bs⟩).symm
 ·by_cases hlt:k<qs.length
  ·rw [List.getElem_append_left hlt]
   obtain ⟨h1,h2,h3,⟨q,h4,h5⟩,h6⟩:=h.by_ k hlt
   exact ⟨bytes_only hO h1 h4 h5.1,h2,h3,⟨q,h4,h5⟩,h6⟩
  ·rw [List.getElem_append_right (by omega)]
   simp only [List.length_append,List.length_cons,List.length_nil] at hk
   have e0:k-qs.length=0:=by omega
   simp only [e0,List.getElem_cons_zero]
   exact ⟨bytes_only hO hB rfl hp.1,trivial,trivial,⟨p,rfl,hp⟩,hbd⟩
 ·exact ⟨j*5+4,.slice (some ⟨p,0,none⟩) 32 32,by rw [hR.cellAt (j*5+4) (by omega)];exact hD,datum_slice _ _ _⟩
theorem Nd.only {w w':World} {lo g n j:Nat} {qs:List Pt} {X:List Value} (h:Nd w lo g n j qs X) (hO:Only lo w w') (hg:g≠lo):Nd w' lo g n j qs X:=by
 refine ⟨ownsRow_same h.row (fun b e=>?_),h.len,h.pre,h.ql,fun k hk=>?_,?_⟩
 ·cases e;exact hO.block g hg
 ·obtain ⟨h1,h2,h3,⟨q,h4,h5,h6⟩,h7⟩:=h.by_ k hk
  exact ⟨bytes_only hO h1 h4 (by omega),h2,h3,⟨q,h4,h5,h6⟩,h7⟩
 ·obtain ⟨i,v,hv,hd⟩:=h.dat
  exact ⟨i,v,by rw [<- hv];exact World.cell?_of_block (a:=⟨g,i,none⟩) (hO.block g hg),hd⟩
theorem Nd.puts {w:World} {lo g n:Nat} {qs:List Pt} {X:List Value} (h:Nd w lo g n n qs X):Puts w (some ⟨g,0,none⟩) qs:=fun k hk=>by
 refine ⟨g,0,rfl,?_⟩
 have hql:=h.ql
 have hX:X=cpCells qs:=by rw [<- h.pre,List.take_of_length_le (by rw [h.len];exact Nat.le_refl _)]
 have hc:∀ m,m<5->w.cell? ⟨g,0+k*5+m,none⟩=(ptCells qs[k])[m]?:=fun m hm=>by
  rw [Nat.zero_add,<- cpCells_at qs k hk m hm,<- hX]
  exact World.ownsRow.cellAt h.row (k*5+m) (by omega)
 obtain ⟨h1,h2,h3,⟨p,h4,_⟩,h6⟩:=h.by_ k hk
 exact ⟨hc 0 (by omega),hc 1 (by omega),hc 2 (by omega),hc 3 (by omega),hc 4 (by omega),h1,fun e=>(by rw [h4] at e;cases e),by rw [h2,h3];exact Nat.le_refl _,h6,by rw [h2];decide⟩
end
section
open Go.RowKit
theorem made_nd {w:World} {lo g n:Nat} (hn:0<n) (h:w.ownsRow lo 181 5 (.slice (some ⟨g,0,none⟩) n n) n (madeCells (Value.cells (.agg #[.int .i64 0,.int .i64 0,.int .i64 0,.int .i64 0,.slice none 0 0])) (n*5)).toList):∃ X,Nd w lo g n 0 [] X:=by
 refine ⟨_,⟨h,by simp [size_madeCells],by simp [cpCells],rfl,fun k hk=>absurd hk (Nat.not_lt_zero _),4,.slice none 0 0,?_,datum_slice _ _ _⟩⟩
 rw [h.cellAt 4 (by omega)]
 simp [madeCells,show 4<n*5 by omega,Value.cells]
theorem rowV_rowB {a b c d:Int} (ha : -9223372036854775808<=a∧a<=9223372036854775807) (hb : -9223372036854775808<=b∧b<=9223372036854775807) (hc : -9223372036854775808<=c∧c<=9223372036854775807) (hd : -9223372036854775808<=d∧d<=9223372036854775807) :
  (rowV fun k=>sg (part (rowB [a,b,c,d]) k 8)) = #[.int .i64 a,.int .i64 b,.int .i64 c,.int .i64 d]:=by
 have h:=rowI_rowB ha hb hc hd
 unfold rowI at h
 simp only [List.cons.injEq,and_true] at h
 show #[Value.int .i64 (sg (part (rowB [a,b,c,d]) 0 8)),.int .i64 (sg (part (rowB [a,b,c,d]) 1 8)),.int .i64 (sg (part (rowB [a,b,c,d]) 2 8)),.int .i64 (sg (part (rowB [a,b,c,d]) 3 8))]=_
 rw [h.1,h.2.1,h.2.2.1,h.2.2.2]
def NotedSay (F:Nat->Prop) (w0:World) (d:Nat) (S:St) (l:List Bk) (w:World) (e:Ending) (w':World):Prop :=
 ∃ g ps,e = .returned (.tuple #[.agg #[.slice (some ⟨g,0,none⟩) l.length l.length],.int .i64 0])∧Puts w' (some ⟨g,0,none⟩) ps∧ps.map Pt.bk=l∧Dk F w0 w' d S∧Below w.heap.size w w'
set_option maxHeartbeats 1000000 in
theorem noted_c {F:Nat->Prop} {w0:World} (d:Nat) (S:St) (l:List Bk) (w:World) (hD:Dk F w0 w d S) (ho:S.out=false) (hP:Pend S.l l) :
  Calls Tryz.prog 123 #[.pointer (some ⟨d,0,none⟩),.int .i64 (l.length:Int)] w (NotedSay F w0 d S l w):=by
 obtain ⟨Post,hPost⟩:∃ Post,Post=NotedSay F w0 d S l w:=⟨_,rfl⟩
 rw [<- hPost]
 obtain ⟨n,hn⟩:∃ n,n=l.length:=⟨_,rfl⟩
 have HP:Hid (∀ w' g ps,Puts w' (some ⟨g,0,none⟩) ps->ps.map Pt.bk=l->Dk F w0 w' d S->Below w.heap.size w w'->Post (.returned (.tuple #[.agg #[.slice (some ⟨g,0,none⟩) n n],.int .i64 0])) w'):=fun w' g ps h1 h2 h3 h4=>by rw [hPost,hn];exact ⟨g,ps,rfl,h1,h2,h3,h4⟩
 clear hPost
 have Hl:Hid (l.length=n):=hn.symm
 have HPd:Hid (Pend S.l l):=hP
 have HD0:Hid (Dk F w0 w d S):=hD
 have hn0:0<n:=by have:=hP.pos;rw [hn];exact List.length_pos_iff.2 this
 have hn1:n<=256:=by rw [hn];exact hP.len
 rw [<- hn]
 clear hn hP hD
 obtain ⟨i181,hi181,hz0,hz1,hz2⟩:=info_parts jinfo181
 have hbx:Below w.heap.size w (w.alloc (.cells #[.slice none 0 0] 152)):=(Below.refl _ _).alloc (Nat.le_refl _) _
 go_enter Tryz.func123,Tryz.ntmps123
 go_wp2_with (at_make;refine wpList_make_full _ rfl _ _ 112 rfl w.heap.size 181 i181 _ 5 Tryz.underlying112 hi181 hz0 hz1 .i64 .i64 (n:Int) (n:Int) n rfl rfl rfl rfl (by rw [hz2];omega) (by unfold maxLen;omega) (by rw [World.size_alloc];omega) ?_;intro w1 hrow1 hg1)
 have hb1:Below w.heap.size w w1:=hbx.trans (((Below.refl _ _).grown hg1 (Nat.le_refl _) (by simp)).mono (by rw [World.size_alloc];omega))
 have HX1:Hid (w1.heap[w.heap.size]?=some (.cells #[.slice none 0 0] 152 (0,0))):=by
  show _=_
  rw [hg1.block w.heap.size (by rw [World.size_alloc];omega) (by simp)]
  exact heap_alloc_new w _
 rw [World.size_alloc] at hrow1
 obtain ⟨X1,hX1⟩:=made_nd hn0 hrow1
 have HN1:Hid (Nd w1 w.heap.size (w.heap.size+1) n 0 [] X1):=hX1
 have HD1:Hid (Dk F w0 w1 d S):=HD0.out.below hb1
 have Hb1:Hid (Below w.heap.size w w1):=hb1
 obtain ⟨g,hg⟩:∃ g,g=w.heap.size+1:=⟨_,rfl⟩
 have Hg:Hid (g=w.heap.size+1∧w0.heap.size<=w.heap.size):=⟨hg,HD0.out.chg.size⟩
 rw [<- hg] at HN1 ⊢
 clear hb1 hbx hrow1 hg1 hX1 hg HD0
 go_loopw [16] (fun v wr=>∃ (j:Nat) (qs:List Pt) (X:List Value),j<=n∧v = .int .i64 (j:Int)∧Hid (Nd wr w.heap.size g n j qs X∧qs.map Pt.bk=l.take j)∧Hid (Dk F w0 wr d S)∧Hid (wr.heap[w.heap.size]?=some (.cells #[.slice none 0 0] 152 (0,0)))∧Hid (Below w.heap.size w wr)) (fun v _=>n-(intOf v).toNat)
 case atStart=>exact ⟨0,[],X1,Nat.zero_le _,rfl,⟨HN1.out,rfl⟩,HD1,HX1,Hb1⟩
 case round =>
  clear HN1 HD1 HX1 Hb1
  obtain ⟨j,qs,X,hj,rfl,HN,HD,HX,Hb⟩:=hrel
  by_cases hlt:j<n
  ·have hlt':(j:Int)<n:=by omega
   have hjl:j<l.length:=by rw [Hl.out];exact hlt
   have Hw:Hid (ownB S.l (1+2*(j:Int))=whereB l[j]):=by show _=_;unfold ownB;rw [(HPd.out.notes j hjl).1];rfl
   have Hv:Hid (ownB S.l (2+2*(j:Int))=l[j].b):=by show _=_;unfold ownB;rw [(HPd.out.notes j hjl).2];rfl
   have Hk:Hid (BkOk l[j]):=HPd.out.ok _ (List.getElem_mem hjl)
   have Hnext:Hid (l.take (j+1)=l.take j++[l[j]]):=List.take_succ_eq_append_getElem hjl
   generalize l[j]=b0 at Hw Hv Hk Hnext
   obtain ⟨⟨f1,f2,f3⟩,oi,ob⟩:=b0
   clear HP hjl
   go_wp2_with fail
   refine (noteAt_c (j:Int) (by omega) (by omega) wr).mono ?_
   rintro _ w' ⟨rfl,hw'⟩
   subst w'
   go_wp2_with fail
   refine (readOwn_ok d S (1+2*(j:Int)) (by omega) ho wr HD.out).mono ?_
   rintro _ w2 ⟨p1,rfl,hp1,hB1,hb2,hD2⟩
   have HN2:Hid (Nd w2 w.heap.size g n j qs X∧qs.map Pt.bk=l.take j):=⟨HN.out.1.later hb2,HN.out.2⟩
   have HD2:Hid (Dk F w0 w2 d S):=hD2
   have HX2:Hid (w2.heap[w.heap.size]?=some (.cells #[.slice none 0 0] 152 (0,0))):=(hb2.block w.heap.size (Array.getElem?_eq_some_iff.1 HX.out).1).trans HX.out
   have Hb2:Hid (Below w.heap.size w w2):=Hb.out.trans (hb2.mono Hb.out.size)
   have HB1:Hid (Bytes w2 (some ⟨p1,0,none⟩) 32 (rowB [f1,f2,f3,oi])):=by have:=hB1;rw [Hw.out] at this;exact this
   clear hB1 hb2 hD2 HN HD HX Hb Hw hp1
   go_wp2_with fail
   refine (noteAt_c (j:Int) (by omega) (by omega) w2).mono ?_
   rintro _ w' ⟨rfl,hw'⟩
   subst w'
   go_wp2_with fail
   refine (readOwn_ok d S (1+2*(j:Int)+1) (by omega) ho w2 HD2.out).mono ?_
   rintro _ w3 ⟨p2,rfl,hp2,hB2,hb3,hD3⟩
   have HN3:Hid (Nd w3 w.heap.size g n j qs X∧qs.map Pt.bk=l.take j):=⟨HN2.out.1.later hb3,HN2.out.2⟩
   have HD3:Hid (Dk F w0 w3 d S):=hD3
   have HX3:Hid (w3.heap[w.heap.size]?=some (.cells #[.slice none 0 0] 152 (0,0))):=(hb3.block w.heap.size (Array.getElem?_eq_some_iff.1 HX2.out).1).trans HX2.out
   have Hb3:Hid (Below w.heap.size w w3):=Hb2.out.trans (hb3.mono Hb2.out.size)
   have HB1':Hid (Bytes w3 (some ⟨p1,0,none⟩) 32 (rowB [f1,f2,f3,oi])):=HB1.out.later hb3
   have HB2:Hid (Bytes w3 (some ⟨p2,0,none⟩) 32 ob∧p2≠g∧w.heap.size<p2):=by
    refine ⟨?_,?_⟩
    ·have:=hB2
     rw [show (1+2*(j:Int)+1)=2+2*(j:Int) by omega,Hv.out] at this
     exact this
    ·have:=HN2.out.1.lt
     have:=Hg.out.1
     exact ⟨by omega,by omega⟩
   clear hB2 hb3 hD3 HN2 HD2 HX2 Hb2 HB1 Hv hp2
   go_wp2_with fail
   refine (rowOf_c (some ⟨p1,0,none⟩) 32 _ w3 HB1'.out).mono ?_
   rintro _ w4 ⟨rfl,hb4⟩
   rw [rowV_rowB Hk.out.1 Hk.out.2.1 Hk.out.2.2.1 Hk.out.2.2.2]
   have hb5:Below w3.heap.size w3 (w4.alloc (.cells #[.int .i64 f1,.int .i64 f2,.int .i64 f3,.int .i64 oi] 184)):=hb4.alloc hb4.size _
   have HR5:Hid ((w4.alloc (.cells #[.int .i64 f1,.int .i64 f2,.int .i64 f3,.int .i64 oi] 184)).heap[w4.heap.size]?=some (.cells #[.int .i64 f1,.int .i64 f2,.int .i64 f3,.int .i64 oi] 184 (0,0))):=heap_alloc_new w4 _
   have HN5:Hid (Nd (w4.alloc (.cells #[.int .i64 f1,.int .i64 f2,.int .i64 f3,.int .i64 oi] 184)) w.heap.size g n j qs X∧qs.map Pt.bk=l.take j):=⟨HN3.out.1.later hb5,HN3.out.2⟩
   have HD5:Hid (Dk F w0 (w4.alloc (.cells #[.int .i64 f1,.int .i64 f2,.int .i64 f3,.int .i64 oi] 184)) d S):=HD3.out.below hb5
   have HX5:Hid ((w4.alloc (.cells #[.int .i64 f1,.int .i64 f2,.int .i64 f3,.int .i64 oi] 184)).heap[w.heap.size]?=some (.cells #[.slice none 0 0] 152 (0,0))):=(hb5.block w.heap.size (Array.getElem?_eq_some_iff.1 HX3.out).1).trans HX3.out
   have Hb5:Hid (Below w.heap.size w (w4.alloc (.cells #[.int .i64 f1,.int .i64 f2,.int .i64 f3,.int .i64 oi] 184))):=Hb3.out.trans (hb5.mono Hb3.out.size)
   have HB5:Hid (Bytes (w4.alloc (.cells #[.int .i64 f1,.int .i64 f2,.int .i64 f3,.int .i64 oi] 184)) (some ⟨p2,0,none⟩) 32 ob∧p2≠g∧w.heap.size<p2):=⟨HB2.out.1.later hb5,HB2.out.2⟩
   have Hq:Hid (w4.heap.size≠g):=by have h1:=HN3.out.1.lt;have h2:=hb4.size;show w4.heap.size≠g;omega
   clear hb4 hb5 HN3 HD3 HX3 Hb3 HB2 HB1'
   have Hx:Hid (∀ i,i<5->∃ x,(w4.alloc (.cells #[.int .i64 f1,.int .i64 f2,.int .i64 f3,.int .i64 oi] 184)).cell? ⟨g,j*5+i,none⟩=some x):=fun i hi=>by
    rw [HN5.out.1.row.cellAt (j*5+i) (by omega)]
    exact ⟨_,List.getElem?_eq_getElem (by rw [HN5.out.1.len];omega)⟩
   obtain ⟨x0,cx0⟩:=Hx.out 0 (by decide)
   rw [Nat.add_zero] at cx0
   obtain ⟨x1,cx1⟩:=Hx.out 1 (by decide)
   obtain ⟨x2,cx2⟩:=Hx.out 2 (by decide)
   obtain ⟨x3,cx3⟩:=Hx.out 3 (by decide)
   obtain ⟨x4,cx4⟩:=Hx.out 4 (by decide)
   have fr:∀ i,(w4.alloc (.cells #[.int .i64 f1,.int .i64 f2,.int .i64 f3,.int .i64 oi] 184)).frozen? ⟨g,i,none⟩=false:=fun i=>HN5.out.1.row.frozenAt i
   have fr0:=fr (j*5)
   have fr1:=fr (j*5+1)
   have fr2:=fr (j*5+2)
   have fr3:=fr (j*5+3)
   have fr4:=fr (j*5+4)
   clear fr Hx
   obtain ⟨X',hN6⟩:=HN5.out.1.next hlt (f:=(f1,f2,f3)) (i:=oi) HB5.out.1 HB5.out.2 ⟨Hk.out.2.2.2,Hk.out.1,Hk.out.2.1,Hk.out.2.2.1⟩
   have hO6:=put5_only (w4.alloc (.cells #[.int .i64 f1,.int .i64 f2,.int .i64 f3,.int .i64 oi] 184)) g j (.int .i64 f1) (.int .i64 f2) (.int .i64 f3) (.int .i64 oi) (.slice (some ⟨p2,0,none⟩) 32 32)
   have HN6:Hid (Nd (put5 (w4.alloc (.cells #[.int .i64 f1,.int .i64 f2,.int .i64 f3,.int .i64 oi] 184)) g j (.int .i64 f1) (.int .i64 f2) (.int .i64 f3) (.int .i64 oi) (.slice (some ⟨p2,0,none⟩) 32 32)) w.heap.size g n (j+1) (qs++[⟨(f1,f2,f3),oi,some ⟨p2,0,none⟩,32,32,ob⟩]) X'∧(qs++[(⟨(f1,f2,f3),oi,some ⟨p2,0,none⟩,32,32,ob⟩:Pt)]).map Pt.bk=l.take (j+1)):=⟨hN6,by rw [List.map_append,HN5.out.2,Hnext.out];rfl⟩
   have HD6:Hid (Dk F w0 (put5 (w4.alloc (.cells #[.int .i64 f1,.int .i64 f2,.int .i64 f3,.int .i64 oi] 184)) g j (.int .i64 f1) (.int .i64 f2) (.int .i64 f3) (.int .i64 oi) (.slice (some ⟨p2,0,none⟩) 32 32)) d S):=by
    obtain ⟨i,v,hv,hd⟩:=HN5.out.1.dat
    exact HD5.out.only hO6 (by have:=Hg.out;omega) hv hd
   have HX6:Hid ((put5 (w4.alloc (.cells #[.int .i64 f1,.int .i64 f2,.int .i64 f3,.int .i64 oi] 184)) g j (.int .i64 f1) (.int .i64 f2) (.int .i64 f3) (.int .i64 oi) (.slice (some ⟨p2,0,none⟩) 32 32)).heap[w.heap.size]?=some (.cells #[.slice none 0 0] 152 (0,0))):=(hO6.block w.heap.size (by have:=Hg.out;omega)).trans HX5.out
   have Hb6:Hid (Below w.heap.size w (put5 (w4.alloc (.cells #[.int .i64 f1,.int .i64 f2,.int .i64 f3,.int .i64 oi] 184)) g j (.int .i64 f1) (.int .i64 f2) (.int .i64 f3) (.int .i64 oi) (.slice (some ⟨p2,0,none⟩) 32 32))):=Hb5.out.trans (hO6.below (by have:=Hg.out;omega))
   unfold put5 at HN6 HD6 HX6 Hb6
   clear hN6 hO6 HN5 HD5 HX5 Hb5 HB5 HR5 Hk Hnext
   go_wp2
   go_roundw
   case rel=>exact ⟨j+1,_,X',by omega,by go_num,HN6,HD6,HX6,Hb6⟩
   case measure=>simp [intOf];omega
  ·obtain rfl:j=n:=by omega
   have cx:wr.cell? ⟨w.heap.size,0,none⟩=some (.slice none 0 0):=by rw [cell_of_row wr w.heap.size 0 _ 152 (0,0) HX.out];rfl
   have fx:wr.frozen? ⟨w.heap.size,0,none⟩=false:=frozen_of_row wr _ _ _ 152 HX.out
   have hb2:Below w.heap.size w (wr.setCell ⟨w.heap.size,0,none⟩ (.slice (some ⟨g,0,none⟩) j j)):=Hb.out.setCell (p:=⟨w.heap.size,0,none⟩) (Nat.le_refl _) _
   have hO:Only w.heap.size wr (wr.setCell ⟨w.heap.size,0,none⟩ (.slice (some ⟨g,0,none⟩) j j)):=(Only.refl _ _).set _ _
   have R:=HP.out _ g qs ((HN.out.1.only hO (by have:=Hg.out;omega)).puts) (by have:=HN.out.2;rwa [List.take_of_length_le (by rw [Hl.out];exact Nat.le_refl _)] at this) (HD.out.only hO Hg.out.2 cx (datum_slice _ _ _)) hb2
   have HR9:Hid ((wr.setCell ⟨w.heap.size,0,none⟩ (.slice (some ⟨g,0,none⟩) j j)).heap[w.heap.size]?=some (.cells #[.slice (some ⟨g,0,none⟩) j j] 152 (0,0))):=by show _=_;rw [heap_setCell_same wr w.heap.size 0 _ 152 _ HX.out];rfl
   clear HP HN HD HX Hb hb2 hO
   go_wp2
   exact bodyPost_ret (jresults_row_tmp (p:=4) (u:=5) (ty:=152) rfl _ _ w.heap.size 152 _ (0,0) _ rfl HR9.out Tryz.underlying152 rfl (by kernel_rfl)) rfl R
end
section
open Go.RowKit
theorem all_range_ints:∀ (xs ys:List Int),xs.length=ys.length->((List.range xs.length).all fun i=>xs.getD i 0 == ys.getD i 0)=(xs == ys)
 | [],[],_=>rfl
 | x::xs,y::ys,h=>by
   have ih:=all_range_ints xs ys (by simpa using h)
   rw [List.length_cons,List.range_succ_eq_map,List.all_cons,List.all_map]
   simp only [List.getD_cons_zero,Function.comp_def,List.getD_cons_succ,ih]
   simp [List.cons_beq_cons]
 | [],_::_,h=>by simp at h
 | _::_,[],h=>by simp at h
def valsI (xs:List Int):Array Value:=(xs.map (Value.int .i64)).toArray
theorem equalIn_valsI (d:Nat) (t e:TypeId) (n:Nat) (ht:Tryz.prog.underlying t=some (.array n e)) (he:Tryz.prog.underlying e=some (.int .i64)) (hsz:∀ w,(sizeOf e).run Tryz.prog w = .ok 1 w)
  (xs ys:List Int) (hx:xs.length=n) (hy:ys.length=n) (w:World) :
  (Op.equalIn (d+2) t (.agg (valsI xs)) (.agg (valsI ys))).run Tryz.prog w = .ok (xs == ys) w:=by
 rw [<- all_range_ints xs ys (hx.trans hy.symm),hx,List.range_eq_range',Op.equalIn]
 simp only [Sem.run_bind,run_underlying ht,Result.andThen_ok,hsz,Std.Legacy.Range.forIn_eq_forIn_range',Std.Legacy.Range.size,Nat.sub_zero,Nat.add_sub_cancel,Nat.div_one]
 have hl:∀ i∈List.range' 0 n 1,i<n:=fun i hi=>by simpa using (List.mem_range'_1.1 hi).2
 generalize List.range' 0 n 1=l at hl ⊢
 induction l with
 | nil=>simp
 | cons i l ih =>
   have hi:i<n:=hl i (by simp)
   have px:(Go.part e (valsI xs) (i*1)).run Tryz.prog w = .ok (.int .i64 (xs.getD i 0)) w:=by
    simp [Go.part,isAgg,run_underlying he,valsI,List.getD,List.getElem?_eq_getElem (show i<xs.length by omega)]
   have py:(Go.part e (valsI ys) (i*1)).run Tryz.prog w = .ok (.int .i64 (ys.getD i 0)) w:=by
    simp [Go.part,isAgg,run_underlying he,valsI,List.getD,List.getElem?_eq_getElem (show i<ys.length by omega)]
   have pe:(Op.equalIn (d+1) e (.int .i64 (xs.getD i 0)) (.int .i64 (ys.getD i 0))).run Tryz.prog w = .ok (xs.getD i 0 == ys.getD i 0) w:=run_equalIn_int w d e .i64 .i64 _ _ he
   simp only [List.forIn_cons,Sem.run_bind,px,py,pe,Result.andThen_ok,List.all_cons]
   cases hb:(xs.getD i 0 == ys.getD i 0)
   ·simp
   ·simp only [Bool.not_true,Bool.false_eq_true,if_false,Sem.run_pure,Result.andThen_ok,Bool.true_and]
    exact ih fun j hj=>hl j (by simp [hj])
theorem sizeOf3 (w:World):(sizeOf 3).run Tryz.prog w = .ok 1 w:=by kernel_rfl
theorem under184:Tryz.prog.underlying 184=some (.array 4 3):=by kernel_rfl
theorem under3:Tryz.prog.underlying 3=some (.int .i64):=by kernel_rfl
theorem row_eq (a b c d:Int) (w:World):(Op.equalIn 10000 184 (.agg #[.int .i64 a,.int .i64 b,.int .i64 c,.int .i64 d]) (.agg #[.int .i64 0,.int .i64 0,.int .i64 0,.int .i64 0])).run Tryz.prog w = .ok ([a,b,c,d] == ([0,0,0,0]:List Int)) w:=equalIn_valsI 9998 184 3 4 under184 under3 sizeOf3 [a,b,c,d] [0,0,0,0] rfl rfl w
def LeftSay (F:Nat->Prop) (w0:World) (d:Nat) (S:St) (E:Int) (l:List Bk) (w:World) (e:Ending) (w':World):Prop :=
 ∃ a n c ps,e = .returned (.tuple #[.agg #[.slice a n c],.int .i64 E])∧ps.length=n∧Puts w' a ps∧ps.map Pt.bk=l∧Dk F w0 w' d S∧Below w.heap.size w w'
theorem puts_nil (w:World):Puts w none []:=fun _ hk=>absurd hk (Nat.not_lt_zero _)
set_option maxHeartbeats 1000000 in
theorem left_out {F:Nat->Prop} {w0:World} (d:Nat) (S:St) (w:World) (hD:Dk F w0 w d S) (ho:S.out=true) :
  Calls Tryz.prog 91 #[.pointer (some ⟨d,0,none⟩)] w (LeftSay F w0 d S 8 [] w):=by
 obtain ⟨Post,hPost⟩:∃ Post,Post=LeftSay F w0 d S 8 [] w:=⟨_,rfl⟩
 rw [<- hPost]
 have HP:Hid (∀ w',Dk F w0 w' d S->Below w.heap.size w w'->Post (.returned (.tuple #[.agg #[.slice none 0 0],.int .i64 8])) w'):=fun w' h1 h2=>by rw [hPost];exact ⟨none,0,0,[],rfl,rfl,puts_nil _,rfl,h1,h2⟩
 clear hPost
 have hbx:Below w.heap.size w (w.alloc (.cells #[.slice none 0 0] 152)):=(Below.refl _ _).alloc (Nat.le_refl _) _
 have HX:Hid ((w.alloc (.cells #[.slice none 0 0] 152)).heap[w.heap.size]?=some (.cells #[.slice none 0 0] 152 (0,0))):=heap_alloc_new w _
 have HD1:Hid (Dk F w0 (w.alloc (.cells #[.slice none 0 0] 152)) d S∧w0.heap.size<=w.heap.size):=⟨hD.below hbx,hD.chg.size⟩
 have Hbx:Hid (Below w.heap.size w (w.alloc (.cells #[.slice none 0 0] 152))):=hbx
 clear hbx hD
 go_enter Tryz.func91,Tryz.ntmps91
 go_wp2_with fail
 generalize w.alloc (.cells #[.slice none 0 0] 152)=w1 at *
 refine (readOwn_out d S 0 (by decide) ho w1 HD1.out.1).mono ?_
 rintro _ w2 ⟨rfl,hb2,hD2⟩
 have HX2:w2.heap[w.heap.size]?=some (.cells #[.slice none 0 0] 152 (0,0)):=(hb2.block w.heap.size (Array.getElem?_eq_some_iff.1 HX.out).1).trans HX.out
 have cx:w2.cell? ⟨w.heap.size,0,none⟩=some (.slice none 0 0):=by rw [cell_of_row w2 w.heap.size 0 _ 152 (0,0) HX2];rfl
 have fx:w2.frozen? ⟨w.heap.size,0,none⟩=false:=frozen_of_row w2 _ _ _ 152 HX2
 have hO:Only w.heap.size w2 (w2.setCell ⟨w.heap.size,0,none⟩ (.slice none 0 0)):=(Only.refl _ _).set _ _
 have R:=HP.out _ (hD2.only hO HD1.out.2 cx (datum_slice _ _ _)) ((Hbx.out.trans (hb2.mono Hbx.out.size)).trans (hO.below (Nat.le_refl _)))
 have HR9:Hid ((w2.setCell ⟨w.heap.size,0,none⟩ (.slice none 0 0)).heap[w.heap.size]?=some (.cells #[.slice none 0 0] 152 (0,0))):=by show _=_;rw [heap_setCell_same w2 w.heap.size 0 _ 152 _ HX2];rfl
 clear HP HX HX2 HD1 Hbx hb2 hD2 hO
 go_wp2
 exact bodyPost_ret (jresults_row_tmp (p:=2) (u:=3) (ty:=152) rfl _ _ w.heap.size 152 _ (0,0) _ rfl HR9.out Tryz.underlying152 rfl (by kernel_rfl)) rfl R
set_option maxHeartbeats 1000000 in
theorem left_idle {F:Nat->Prop} {w0:World} (d:Nat) (S:St) (w:World) (hD:Dk F w0 w d S) (ho:S.out=false) (hh:hdB S.l=noughts) :
  Calls Tryz.prog 91 #[.pointer (some ⟨d,0,none⟩)] w (LeftSay F w0 d S 0 [] w):=by
 obtain ⟨Post,hPost⟩:∃ Post,Post=LeftSay F w0 d S 0 [] w:=⟨_,rfl⟩
 rw [<- hPost]
 have HP:Hid (∀ w',Dk F w0 w' d S->Below w.heap.size w w'->Post (.returned (.tuple #[.agg #[.slice none 0 0],.int .i64 0])) w'):=fun w' h1 h2=>by rw [hPost];exact ⟨none,0,0,[],rfl,rfl,puts_nil _,rfl,h1,h2⟩
 clear hPost
 have hbx:Below w.heap.size w (w.alloc (.cells #[.slice none 0 0] 152)):=(Below.refl _ _).alloc (Nat.le_refl _) _
 have HX:Hid ((w.alloc (.cells #[.slice none 0 0] 152)).heap[w.heap.size]?=some (.cells #[.slice none 0 0] 152 (0,0))):=heap_alloc_new w _
 have HD1:Hid (Dk F w0 (w.alloc (.cells #[.slice none 0 0] 152)) d S∧w0.heap.size<=w.heap.size):=⟨hD.below hbx,hD.chg.size⟩
 have Hbx:Hid (Below w.heap.size w (w.alloc (.cells #[.slice none 0 0] 152))):=hbx
 have Hh:Hid (ownB S.l 0=noughts):=hh
 clear hbx hD hh
 go_enter Tryz.func91,Tryz.ntmps91
 go_wp2_with fail
 generalize w.alloc (.cells #[.slice none 0 0] 152)=w1 at *
 refine (readOwn_ok d S 0 (by decide) ho w1 HD1.out.1).mono ?_
 rintro _ w2 ⟨p,rfl,hp,hB,hb2,hD2⟩
 have HB:Hid (Bytes w2 (some ⟨p,0,none⟩) 32 (rowB [0,0,0,0])):=by have:=hB;rw [Hh.out,<- rowB_noughts] at this;exact this
 have HD2:Hid (Dk F w0 w2 d S):=hD2
 have HX2:Hid (w2.heap[w.heap.size]?=some (.cells #[.slice none 0 0] 152 (0,0))):=(hb2.block w.heap.size (Array.getElem?_eq_some_iff.1 HX.out).1).trans HX.out
 have Hb2:Hid (Below w.heap.size w w2):=Hbx.out.trans (hb2.mono Hbx.out.size)
 clear hB hb2 hD2 hp HX Hbx
 go_wp2_with fail
 refine (rowOf_c (some ⟨p,0,none⟩) 32 _ w2 HB.out).mono ?_
 rintro _ w3 ⟨rfl,hb3⟩
 rw [rowV_rowB (by decide) (by decide) (by decide) (by decide)]
 have heq:(Op.equalIn 10000 184 (.agg #[.int .i64 0,.int .i64 0,.int .i64 0,.int .i64 0]) (.agg #[.int .i64 0,.int .i64 0,.int .i64 0,.int .i64 0])).run Tryz.prog w3 = .ok true w3:=row_eq 0 0 0 0 w3
 have HX3:w3.heap[w.heap.size]?=some (.cells #[.slice none 0 0] 152 (0,0)):=(hb3.block w.heap.size (Array.getElem?_eq_some_iff.1 HX2.out).1).trans HX2.out
 have cx:w3.cell? ⟨w.heap.size,0,none⟩=some (.slice none 0 0):=by rw [cell_of_row w3 w.heap.size 0 _ 152 (0,0) HX3];rfl
 have fx:w3.frozen? ⟨w.heap.size,0,none⟩=false:=frozen_of_row w3 _ _ _ 152 HX3
 have hO:Only w.heap.size w3 (w3.setCell ⟨w.heap.size,0,none⟩ (.slice none 0 0)):=(Only.refl _ _).set _ _
 have R:=HP.out _ ((HD2.out.below hb3).only hO HD1.out.2 cx (datum_slice _ _ _)) ((Hb2.out.trans (hb3.mono Hb2.out.size)).trans (hO.below (Nat.le_refl _)))
 have HR9:Hid ((w3.setCell ⟨w.heap.size,0,none⟩ (.slice none 0 0)).heap[w.heap.size]?=some (.cells #[.slice none 0 0] 152 (0,0))):=by show _=_;rw [heap_setCell_same w3 w.heap.size 0 _ 152 _ HX3];rfl
 clear HP HX2 HX3 HD1 HD2 Hb2 hb3 hO HB Hh
 go_wp2
 exact bodyPost_ret (jresults_row_tmp (p:=2) (u:=3) (ty:=152) rfl _ _ w.heap.size 152 _ (0,0) _ rfl HR9.out Tryz.underlying152 rfl (by kernel_rfl)) rfl R
end
section
open Go.RowKit
theorem box_cell {w:World} {k i:Nat} {a:Option Addr} {n c:Nat} {kd:IntKind} {x:Int} (h:w.heap[k]?=some (.cells #[.slice a n c] 152 (0,0))):w.cell? ⟨k,i,none⟩≠some (.int kd x):=by
 intro hv
 rw [cell_of_row w k i _ 152 (0,0) h] at hv
 match i,hv with
 | 0,hv=>simp at hv
 | i+1,hv=>simp at hv
theorem puts_box {w w':World} {k:Nat} {a a':Option Addr} {n c:Nat} {ps:List Pt} (h:w.heap[k]?=some (.cells #[.slice a n c] 152 (0,0))) (hO:Only k w w') (hP:Puts w a' ps):Puts w' a' ps:=fun j hj=>by
 obtain ⟨b,off,e,ho⟩:=hP j hj
 have hb:b≠k:=fun e2=>by subst e2;exact box_cell h ho.c0
 have hc:∀ {i v},w.cell? ⟨b,i,none⟩=some v->w'.cell? ⟨b,i,none⟩=some v:=fun {i v} hv=>by rw [<- hv];exact World.cell?_of_block (a:=⟨b,i,none⟩) (hO.block b hb)
 refine ⟨b,off,e,⟨hc ho.c0,hc ho.c1,hc ho.c2,hc ho.c3,hc ho.c4,⟨ho.by_.n,?_,ho.by_.fit⟩,ho.nil,ho.cap,ho.bd,ho.sz⟩⟩
 rcases ho.by_.cells with e2 | ⟨b2,off2,e2,hc2⟩
 ·exact Or.inl e2
 ·refine Or.inr ⟨b2,off2,e2,fun i hi=>?_⟩
  rw [<- hc2 i hi]
  exact World.cell?_of_block (a:=⟨b2,off2+i,none⟩) (hO.block b2 (fun e3=>by subst e3;exact box_cell h (hc2 i hi)))
theorem may_pend {L l:List Bk} (h:Pend L l):may l=0:=may_ok.2 ⟨h.good,h.len⟩
theorem map_one {ps:List Pt} {b:Bk} (h:ps.map Pt.bk=[b]):∃ q,ps=[q]∧q.bk=b:=by
 match ps,h with
 | [q],h=>exact ⟨q,rfl,by simpa using h⟩
set_option maxHeartbeats 1000000 in
theorem left_pend {F:Nat->Prop} {w0:World} (d:Nat) (S:St) (l:List Bk) (w:World) (hD:Dk F w0 w d S) (ho:S.out=false) (hP:Pend S.l l) :
  Calls Tryz.prog 91 #[.pointer (some ⟨d,0,none⟩)] w (LeftSay F w0 d S 0 l w):=by
 obtain ⟨Post,hPost⟩:∃ Post,Post=LeftSay F w0 d S 0 l w:=⟨_,rfl⟩
 rw [<- hPost]
 have HP:Hid (∀ w' a n c ps,ps.length=n->Puts w' a ps->ps.map Pt.bk=l->Dk F w0 w' d S->Below w.heap.size w w'->Post (.returned (.tuple #[.agg #[.slice a n c],.int .i64 0])) w'):=fun w' a n c ps h1 h2 h3 h4 h5=>by rw [hPost];exact ⟨a,n,c,ps,rfl,h1,h2,h3,h4,h5⟩
 clear hPost
 have hbx:Below w.heap.size w (w.alloc (.cells #[.slice none 0 0] 152)):=(Below.refl _ _).alloc (Nat.le_refl _) _
 have HX:Hid ((w.alloc (.cells #[.slice none 0 0] 152)).heap[w.heap.size]?=some (.cells #[.slice none 0 0] 152 (0,0))):=heap_alloc_new w _
 have HD1:Hid (Dk F w0 (w.alloc (.cells #[.slice none 0 0] 152)) d S∧w0.heap.size<=w.heap.size):=⟨hD.below hbx,hD.chg.size⟩
 have Hbx:Hid (Below w.heap.size w (w.alloc (.cells #[.slice none 0 0] 152))):=hbx
 obtain ⟨n,hn⟩:∃ n,n=l.length:=⟨_,rfl⟩
 obtain ⟨sm,hsm⟩:∃ sm,sm=sumL (noteBytes (notesL l 0)):=⟨_,rfl⟩
 have hsb:0<=sm∧sm<=4294967295:=by rw [hsm];exact sumL_bd _
 have hn0:0<n:=by have:=hP.pos;rw [hn];exact List.length_pos_iff.2 this
 have hn1:n<=256:=by rw [hn];exact hP.len
 have Hh:Hid (ownB S.l 0=rowB [(n:Int),sm,0,0]∧headB l=rowB [(n:Int),sm,0,0]):=by
  have e:headB l=rowB [(n:Int),sm,0,0]:=by unfold headB;rw [hn,hsm]
  refine ⟨?_,e⟩
  unfold ownB
  rw [hP.head,e]
  rfl
 have Hl:Hid (l.length=n):=hn.symm
 have HPd:Hid (Pend S.l l):=hP
 clear hbx hD hn hsm hP
 go_enter Tryz.func91,Tryz.ntmps91
 go_wp2_with fail
 generalize w.alloc (.cells #[.slice none 0 0] 152)=w1 at *
 refine (readOwn_ok d S 0 (by decide) ho w1 HD1.out.1).mono ?_
 rintro _ w2 ⟨p,rfl,hp,hB,hb2,hD2⟩
 have HB2:Hid (Bytes w2 (some ⟨p,0,none⟩) 32 (rowB [(n:Int),sm,0,0])):=by have:=hB;rw [Hh.out.1] at this;exact this
 have HD2:Hid (Dk F w0 w2 d S):=hD2
 have HX2:Hid (w2.heap[w.heap.size]?=some (.cells #[.slice none 0 0] 152 (0,0))):=(hb2.block w.heap.size (Array.getElem?_eq_some_iff.1 HX.out).1).trans HX.out
 have Hb2:Hid (Below w.heap.size w w2):=Hbx.out.trans (hb2.mono Hbx.out.size)
 clear hB hb2 hD2 hp HX Hbx
 have hI1 : -9223372036854775808<=(n:Int)∧(n:Int)<=9223372036854775807:=by omega
 have hI2 : -9223372036854775808<=sm∧sm<=9223372036854775807:=by omega
 go_wp2_with fail
 refine (rowOf_c (some ⟨p,0,none⟩) 32 _ w2 HB2.out).mono ?_
 rintro _ w3 ⟨rfl,hb3⟩
 rw [rowV_rowB hI1 hI2 (by decide) (by decide)]
 have heq:(Op.equalIn 10000 184 (.agg #[.int .i64 (n:Int),.int .i64 sm,.int .i64 0,.int .i64 0]) (.agg #[.int .i64 0,.int .i64 0,.int .i64 0,.int .i64 0])).run Tryz.prog w3 = .ok false w3:=by
  rw [row_eq]
  rw [show ([(n:Int),sm,0,0] == ([0,0,0,0]:List Int))=false by simp;omega]
 have HB3:Hid (Bytes w3 (some ⟨p,0,none⟩) 32 (rowB [(n:Int),sm,0,0])):=HB2.out.later hb3
 have HD3:Hid (Dk F w0 w3 d S):=HD2.out.below hb3
 have HX3:Hid (w3.heap[w.heap.size]?=some (.cells #[.slice none 0 0] 152 (0,0))):=(hb3.block w.heap.size (Array.getElem?_eq_some_iff.1 HX2.out).1).trans HX2.out
 have Hb3:Hid (Below w.heap.size w w3):=Hb2.out.trans (hb3.mono Hb2.out.size)
 clear HB2 HD2 HX2 Hb2 hb3
 go_wp2_with fail
 refine (rowOf_c (some ⟨p,0,none⟩) 32 _ w3 HB3.out).mono ?_
 rintro _ w4 ⟨rfl,hb4⟩
 rw [rowV_rowB hI1 hI2 (by decide) (by decide)]
 have HB4:Hid (Bytes w4 (some ⟨p,0,none⟩) 32 (rowB [(n:Int),sm,0,0])):=HB3.out.later hb4
 have HD4:Hid (Dk F w0 w4 d S):=HD3.out.below hb4
 have HX4:Hid (w4.heap[w.heap.size]?=some (.cells #[.slice none 0 0] 152 (0,0))):=(hb4.block w.heap.size (Array.getElem?_eq_some_iff.1 HX3.out).1).trans HX3.out
 have Hb4:Hid (Below w.heap.size w w4):=Hb3.out.trans (hb4.mono Hb3.out.size)
 clear HB3 HD3 HX3 Hb3 hb4 heq
 have hix:(Instr.index 184 (.agg #[.int .i64 (n:Int),.int .i64 sm,.int .i64 0,.int .i64 0]) (.int .i64 0)).run Tryz.prog w4 = .ok (.int .i64 (n:Int)) w4:=by kernel_rfl
 have hn0':¬ (n:Int)<1:=by omega
 have hn1':¬ (256:Int)<n:=by omega
 go_wp2_with fail
 refine (by have:=noted_c d S l w4 HD4.out ho HPd.out;rw [Hl.out] at this;exact this:Calls Tryz.prog 123 #[.pointer (some ⟨d,0,none⟩),.int .i64 (n:Int)] w4 (NotedSay F w0 d S l w4)).mono ?_
 rintro _ w5 ⟨g,ps,rfl,hps,hmap,hD5,hb5⟩
 rw [Hl.out]
 have hb6:Below w5.heap.size w5 (w5.alloc (.cells #[.slice (some ⟨g,0,none⟩) n n] 152)):=(Below.refl _ _).alloc (Nat.le_refl _) _
 have hb46:=hb5.trans (hb6.mono hb5.size)
 have HB6:Hid (Bytes (w5.alloc (.cells #[.slice (some ⟨g,0,none⟩) n n] 152)) (some ⟨p,0,none⟩) 32 (rowB [(n:Int),sm,0,0])):=HB4.out.later hb46
 have HD6:Hid (Dk F w0 (w5.alloc (.cells #[.slice (some ⟨g,0,none⟩) n n] 152)) d S):=hD5.below hb6
 have HX6:Hid ((w5.alloc (.cells #[.slice (some ⟨g,0,none⟩) n n] 152)).heap[w.heap.size]?=some (.cells #[.slice none 0 0] 152 (0,0))):=(hb46.block w.heap.size (Array.getElem?_eq_some_iff.1 HX4.out).1).trans HX4.out
 have Hb6:Hid (Below w.heap.size w (w5.alloc (.cells #[.slice (some ⟨g,0,none⟩) n n] 152))):=Hb4.out.trans (hb46.mono Hb4.out.size)
 have HY6:Hid ((w5.alloc (.cells #[.slice (some ⟨g,0,none⟩) n n] 152)).heap[w5.heap.size]?=some (.cells #[.slice (some ⟨g,0,none⟩) n n] 152 (0,0))):=heap_alloc_new w5 _
 have HPs:Hid (Puts (w5.alloc (.cells #[.slice (some ⟨g,0,none⟩) n n] 152)) (some ⟨g,0,none⟩) ps∧ps.map Pt.bk=l∧ps.length=n):=⟨hps.on hb6,hmap,by rw [<- Hl.out,<- hmap,List.length_map]⟩
 have Hne:Hid (w.heap.size≠w5.heap.size):=by have h1:=(Array.getElem?_eq_some_iff.1 HX4.out).1;have:=hb5.size;show _≠_;omega
 clear hb6 hb46 hb5 hD5 hps hmap HB4 HD4 HX4 Hb4 hix
 go_wp2_with fail
 generalize w5.alloc (.cells #[.slice (some ⟨g,0,none⟩) n n] 152)=w6 at *
 generalize w5.heap.size=q at *
 refine (check_c (some ⟨g,0,none⟩) n n ps w6 HPs.out.2.2 (by unfold maxLen;omega) HPs.out.1).mono ?_
 rintro _ w7 ⟨rfl,hb7⟩
 rw [show may (ps.map Pt.bk)=0 by rw [HPs.out.2.1];exact may_pend HPd.out]
 have HB7:Hid (Bytes w7 (some ⟨p,0,none⟩) 32 (rowB [(n:Int),sm,0,0])):=HB6.out.later hb7
 have HD7:Hid (Dk F w0 w7 d S):=HD6.out.below hb7
 have HX7:Hid (w7.heap[w.heap.size]?=some (.cells #[.slice none 0 0] 152 (0,0))):=(hb7.block w.heap.size (Array.getElem?_eq_some_iff.1 HX6.out).1).trans HX6.out
 have Hb7:Hid (Below w.heap.size w w7):=Hb6.out.trans (hb7.mono Hb6.out.size)
 have HY7:Hid (w7.heap[q]?=some (.cells #[.slice (some ⟨g,0,none⟩) n n] 152 (0,0))):=(hb7.block q (Array.getElem?_eq_some_iff.1 HY6.out).1).trans HY6.out
 have HP7:Hid (Puts w7 (some ⟨g,0,none⟩) ps∧ps.map Pt.bk=l∧ps.length=n):=⟨HPs.out.1.on hb7,HPs.out.2⟩
 have cy7:w7.cell? ⟨q,0,none⟩=some (.slice (some ⟨g,0,none⟩) n n):=by rw [cell_of_row w7 q 0 _ 152 (0,0) HY7.out];rfl
 clear HB6 HD6 HX6 Hb6 HY6 HPs hb7
 go_wp2_with fail
 refine (head_c (some ⟨g,0,none⟩) n n ps w7 hn1 HP7.out.2.2 HP7.out.1 (fun b hb=>(badB_false.1 (HPd.out.good b (by rw [<- HP7.out.2.1];exact hb))).2.2.2)).mono ?_
 rintro _ w8 ⟨hb8,ha,hn8,hc8,qs,rfl,hql,_,hqp,hqm⟩
 rw [HP7.out.2.1] at hqm
 obtain ⟨q0,rfl,hq0⟩:=map_one hqm
 obtain rfl:hn8=1:=by simpa using hql.symm
 obtain ⟨b8,off8,rfl,hPt⟩:=hqp 0 (by simp)
 obtain ⟨⟨f1,f2,f3⟩,oi,oa,on,oc,ob⟩:=q0
 have c84:w8.cell? ⟨b8,off8+0*5+4,none⟩=some (.slice oa on oc):=hPt.c4
 have hob:ob=headB l:=by have:=congrArg Bk.b hq0;exact this
 have HB8o:Hid (Bytes w8 oa on ob):=hPt.by_
 have hon:on=32:=by have h1:ob.length=on:=hPt.by_.n;rw [hob] at h1;have:=rowB_len [(l.length:Int),sumL (noteBytes (notesL l 0)),0,0];unfold headB at h1;omega
 subst hon
 have HE8:Hid (Bytes w8 oa 32 (rowB [(n:Int),sm,0,0])):=by have:=HB8o.out;rw [hob,Hh.out.2] at this;exact this
 rw [Nat.zero_mul,Nat.add_zero] at c84
 have HB8:Hid (Bytes w8 (some ⟨p,0,none⟩) 32 (rowB [(n:Int),sm,0,0])):=HB7.out.later hb8
 have HD8:Hid (Dk F w0 w8 d S):=HD7.out.below hb8
 have HX8:Hid (w8.heap[w.heap.size]?=some (.cells #[.slice none 0 0] 152 (0,0))):=(hb8.block w.heap.size (Array.getElem?_eq_some_iff.1 HX7.out).1).trans HX7.out
 have Hb8:Hid (Below w.heap.size w w8):=Hb7.out.trans (hb8.mono Hb7.out.size)
 have HY8:Hid (w8.heap[q]?=some (.cells #[.slice (some ⟨g,0,none⟩) n n] 152 (0,0))):=(hb8.block q (Array.getElem?_eq_some_iff.1 HY7.out).1).trans HY7.out
 have HP8:Hid (Puts w8 (some ⟨g,0,none⟩) ps∧ps.map Pt.bk=l∧ps.length=n):=⟨HP7.out.1.on hb8,HP7.out.2⟩
 clear hb8 hql hqp hqm hq0 hPt hob HB8o HB7 HD7 HX7 Hb7 HY7 HP7 cy7
 go_wp2_with fail
 refine (equal_c (some ⟨p,0,none⟩) oa 32 32 oc _ w8 (by omega) HB8.out HE8.out).mono ?_
 rintro _ w9 ⟨rfl,hb9⟩
 have HX9:w9.heap[w.heap.size]?=some (.cells #[.slice none 0 0] 152 (0,0)):=(hb9.block w.heap.size (Array.getElem?_eq_some_iff.1 HX8.out).1).trans HX8.out
 have HY9:w9.heap[q]?=some (.cells #[.slice (some ⟨g,0,none⟩) n n] 152 (0,0)):=(hb9.block q (Array.getElem?_eq_some_iff.1 HY8.out).1).trans HY8.out
 have cx:w9.cell? ⟨w.heap.size,0,none⟩=some (.slice none 0 0):=by rw [cell_of_row w9 w.heap.size 0 _ 152 (0,0) HX9];rfl
 have fx:w9.frozen? ⟨w.heap.size,0,none⟩=false:=frozen_of_row w9 _ _ _ 152 HX9
 have cy:w9.cell? ⟨q,0,none⟩=some (.slice (some ⟨g,0,none⟩) n n):=by rw [cell_of_row w9 q 0 _ 152 (0,0) HY9];rfl
 have hO:Only w.heap.size w9 (w9.setCell ⟨w.heap.size,0,none⟩ (.slice (some ⟨g,0,none⟩) n n)):=(Only.refl _ _).set _ _
 have R:=HP.out _ (some ⟨g,0,none⟩) n n ps HP8.out.2.2 (puts_box HX9 hO (HP8.out.1.on hb9)) HP8.out.2.1 ((HD8.out.below hb9).only hO HD1.out.2 cx (datum_slice _ _ _)) ((Hb8.out.trans (hb9.mono Hb8.out.size)).trans (hO.below (Nat.le_refl _)))
 have HR9:Hid ((w9.setCell ⟨w.heap.size,0,none⟩ (.slice (some ⟨g,0,none⟩) n n)).heap[w.heap.size]?=some (.cells #[.slice (some ⟨g,0,none⟩) n n] 152 (0,0))):=by show _=_;rw [heap_setCell_same w9 w.heap.size 0 _ 152 _ HX9];rfl
 clear HP HX8 HX9 HY8 HY9 HD1 HD8 Hb8 hb9 hO HP8 HB8 HE8 Hh HPd
 go_wp2
 exact bodyPost_ret (jresults_row_tmp (p:=2) (u:=3) (ty:=152) rfl _ _ w.heap.size 152 _ (0,0) _ rfl HR9.out Tryz.underlying152 rfl (by kernel_rfl)) rfl R
end
end Go.Proofs.YtlllmmceoeihkaaGreat
