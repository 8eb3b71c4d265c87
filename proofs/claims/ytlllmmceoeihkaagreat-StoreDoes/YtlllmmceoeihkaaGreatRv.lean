/-
  The program's store: blocks, the plans one after the other.
  The program's store: Save.
  The program's store: Open.
  The laws' Cells: a chunk's edits out of a work.
  The laws' edits, inner.
  The laws' inner, small.
  What comes in: numbers, chunks, works, calls.
  The document's store: Need, Copy.
  The document's store: what is stored into its row.
  A store in a law: its disk and what it keeps; Open, Save, Load, begun.
  The program's store: others, Reserve.
-/
import Derived.Test.YtlllmmceoeihkaaGreatPb
import Derived.Test.YtlllmmceoeihkaaGreatKGiven
import Derived.Test.YtlllmmceoeihkaaGreatDv
import Derived.Test.YtlllmmceoeihkaaGreatCl
import Derived.Test.YtlllmmceoeihkaaGreatRows
import Derived.SizedLaws
import Derived.ProofKit
import Derived.OpenShut
import Derived.ChangeOld
import Derived.Lib.SmallJoins
import Derived.Deep.Slices
import Derived.Deep.Strs
import Derived.Test.YtlllmmceoeihkaaGreatSs
import Derived.Test.YtlllmmceoeihkaaGreatGwrites
import Derived.Test.YtlllmmceoeihkaaGreatKRenp
import Derived.Laws.OwnMore
import Derived.Test.YtlllmmceoeihkaaGreatJJspec
set_option maxRecDepth 20000
namespace Go.Proofs.YtlllmmceoeihkaaGreat
open Go.RowKit
def ptOf (g:Pg) (p:Pb):Pt:=⟨g.file,(p.i:Int),p.a,32,p.c,p.b⟩
def ptsOf (gs:List Pg):List Pt:=gs.flatMap fun g=>g.ps.map (ptOf g)
theorem pts_bks (gs:List Pg):(ptsOf gs).map Pt.bk=bksG gs:=by
 induction gs with
 | nil=>rfl
 | cons g r ih =>
   show ((g.ps.map (ptOf g))++ptsOf r).map Pt.bk=g.bks++bksG r
   rw [List.map_append,ih,List.map_map]
   rfl
theorem ptsOf_append (a b:List Pg):ptsOf (a++b)=ptsOf a++ptsOf b:=by simp [ptsOf]
theorem pts_cells (g:Pg):∀ l:List Pb,(l.map (ptOf g)).flatMap ptCells=pbCells g.file l
 | []=>rfl
 | p::r=>by
   show ptCells (ptOf g p)++(r.map (ptOf g)).flatMap ptCells=pbc g.file p++pbCells g.file r
   rw [pts_cells g r]
   rfl
structure GR (B:Nat) (w:World) (av:Option Addr) (cv:Nat) (gs:List Pg):Prop where
 row:w.ownsRow B 181 5 (.slice av (ptsOf gs).length cv) (ptsOf gs).length (cpCells (ptsOf gs))
 rs:∀ g∈gs,PbRows B w g.ps
theorem GR.puts {B:Nat} {w:World} {av:Option Addr} {cv:Nat} {gs:List Pg} (h:GR B w av cv gs) (hok:∀ g∈gs,PsOk g.ps∧I64 g.X∧I64 g.Z):Puts w av (ptsOf gs):=fun k hk=>by
 rcases h.row.2 with ⟨_,h0⟩|⟨g,c',cur,e,hB,hg,_⟩
 ·omega
 ·simp only [Value.slice.injEq] at e
  have e1:=e.1
  subst e1
  have hc:=h.row.cells (g:=g) rfl
  have hat:=cpCells_at (ptsOf gs) k hk
  have c:∀ j v,j<5->(ptCells (ptsOf gs)[k])[j]?=some v->w.cell? ⟨g,0+k*5+j,none⟩=some v:=fun j v hj hv=>by
   have:=hc (k*5+j) v (by rw [hat j hj];exact hv)
   rw [Addr.add_lit,Nat.zero_add] at this
   rw [Nat.zero_add]
   exact this
  have hm:=List.getElem_mem hk
  obtain ⟨q,hq,hpm⟩:=List.mem_flatMap.1 hm
  obtain ⟨p,hp,hpe⟩:=List.mem_map.1 hpm
  obtain ⟨ho,hX,hZ⟩:=hok q hq
  obtain ⟨qb,_,ha,hrow,hcp⟩:=h.rs q hq p hp
  have hop:=ho.ok p hp
  refine ⟨g,0,rfl,⟨c 0 _ (by omega) rfl,c 1 _ (by omega) rfl,c 2 _ (by omega) rfl,c 3 _ (by omega) rfl,c 4 _ (by omega) rfl,?_,?_,?_,?_,?_⟩⟩
  ·rw [<- hpe]
   show Bytes w p.a 32 p.b
   rw [ha]
   exact hrow.bytes hop.2.2 32 hop.2.1
  ·rw [<- hpe]
   intro hn
   have:p.a=none:=hn
   rw [ha] at this;cases this
  ·rw [<- hpe]
   show 32<=p.c
   omega
  ·rw [<- hpe]
   exact ⟨⟨by show _<=(p.i:Int);omega,by show (p.i:Int)<=_;omega⟩,⟨by show (-9223372036854775808:Int)<=2;omega,by show (2:Int)<=_;omega⟩,hX,hZ⟩
  ·rw [<- hpe]
   show (32:Nat)<=reachBytes
   decide
abbrev resP (E:Ed) (p:Pm):Int×List (List Int):=planS (regD E p.X p.Y) (p.l.map Cg.cs)
structure PgAt (V:List Bk) (E:Ed) (p:Pm) (g:Pg):Prop where
 X:g.X=p.X
 Z:g.Z=p.Y
 d:g.d'=(resP E p).2
 ok:PgOk V g
 res:(resP E p).1=0
def BlkSay (V:List Bk) (E:Ed) (ps:List Pm) (w:World) (e:Ending) (w':World):Prop:=Below w.heap.size w w' ∧
 ((∃ i,∃ h:i<ps.length,(resP E ps[i]).1≠0∧e = .returned (.tuple #[.slice none 0 0,.int .i64 (resP E ps[i]).1])) ∨
  (∃ av cv gs,e = .returned (.tuple #[.slice av (ptsOf gs).length cv,.int .i64 0])∧GR w.heap.size w' av cv gs∧gs.length=ps.length∧∀ i (h:i<ps.length) (h':i<gs.length),PgAt V E ps[i] gs[i]))
theorem pts_len {gs:List Pg} (hk:∀ g∈gs,PsOk g.ps):(ptsOf gs).length<=gs.length*40:=by
 have h1:=congrArg List.length (pts_bks gs)
 rw [List.length_map] at h1
 have:=bks_len hk
 omega
structure BL (V:List Bk) (E:Ed) (ps:List Pm) (w:World) (k:Nat) (wr:World) (av:Option Addr) (cv:Nat) (gs:List Pg):Prop where
 bel:Below w.heap.size w wr
 gr:GR w.heap.size wr av cv gs
 len:gs.length=k
 at_:∀ i (h:i<ps.length) (h':i<gs.length),PgAt V E ps[i] gs[i]
theorem BL.next {V:List Bk} {E:Ed} {ps:List Pm} {w:World} {k:Nat} {wr w1 w3:World} {av av':Option Addr} {cv cv':Nat} {gs:List Pg} (h:BL V E ps w k wr av cv gs) (hk:k<ps.length) (hb:Below wr.heap.size wr w1) {g:Pg} (hg:PgAt V E ps[k] g) (hR:PbRows wr.heap.size w1 g.ps) (hr:w3.ownsRow w.heap.size 181 5 (.slice av' ((ptsOf gs).length+g.ps.length:Nat) cv') ((ptsOf gs).length+g.ps.length) (cpCells (ptsOf gs)++pbCells g.file g.ps)) (hgr:w1.grownBy w3 (Value.ownBlock (.slice av (ptsOf gs).length cv))):BL V E ps w (k+1) w3 av' cv' (gs++[g]):=by
 have hrow1:w1.ownsRow w.heap.size 181 5 (.slice av (ptsOf gs).length cv) (ptsOf gs).length (cpCells (ptsOf gs)):=own_keep h.gr.row (fun b cur hb1 _ _=>hb.block b (Array.getElem?_eq_some_iff.1 hb1).1)
 have hpl:(ptsOf (gs++[g])).length=(ptsOf gs).length+g.ps.length:=by
  rw [ptsOf_append,List.length_append]
  simp [ptsOf]
 have hpc:cpCells (ptsOf (gs++[g]))=cpCells (ptsOf gs)++pbCells g.file g.ps:=by
  rw [ptsOf_append]
  show (ptsOf gs++ptsOf [g]).flatMap ptCells=_
  rw [List.flatMap_append]
  congr 1
  have:ptsOf [g]=g.ps.map (ptOf g):=by simp [ptsOf]
  rw [this,pts_cells]
 refine ⟨below_grown (h.bel.trans (hb.mono h.bel.size)) hgr (fun b e=>(row_block_of hrow1 e).1) (Nat.le_refl _),⟨by rw [hpl,hpc];exact hr,fun q hq=>?_⟩,by simp [h.len],fun i hi hi'=>?_⟩
 ·rcases List.mem_append.1 hq with hq | hq
  ·exact ((h.gr.rs q hq).on hb).grown hrow1 hgr
  ·obtain rfl:=List.mem_singleton.1 hq
   exact (rows_base hR h.bel.size).grown hrow1 hgr
 ·by_cases e:i<gs.length
  ·rw [List.getElem_append_left e]
   exact h.at_ i hi e
  ·have hik:i=k:=by have:=h.len;simp at hi';omega
   subst hik
   rw [List.getElem_append_right (by omega)]
   simp only [h.len,Nat.sub_self,List.getElem_singleton]
   exact hg
theorem wpList_append_pbs {w:World} {ops:Array Oper} {rest:List Oper} {o:Oper} {a:Act} {Q:Exit->Act->World->Prop} (hgd:o.guard=none) (s x:Operand)
  (ho:o.op = .call { callee:=.builtin .append,args := #[s,x],argTypes := #[112,112] }) (B:Nat) (av:Option Addr) (cv n:Nat) (cells:List Value) (hs:a.eval s = .slice av n cv) (hown:w.ownsRow B 181 5 (.slice av n cv) n cells)
  (B':Nat) (pa:Option Addr) (pc:Nat) (f:Fl) (ps:List Pb) (hx:a.eval x = .slice pa ps.length pc) (hP:OwnPb w B' pa pc f ps) (hle:n<=3000000) (hl2:ps.length<=1000) (hB:B<=w.heap.size)
  (h:∀ av' cv' w',w'.ownsRow B 181 5 (.slice av' (n+ps.length:Nat) cv') (n+ps.length) (cells++pbCells f ps)->w.grownBy w' (Value.ownBlock (.slice av n cv))->wpList Tryz.prog ops Q rest (a.put o.dst (.slice av' (n+ps.length:Nat) cv')) w'):wpList Tryz.prog ops Q (o::rest) a w:=by
 obtain ⟨i,hi,hz0,hz1,hz2⟩:=info_parts info181
 rcases hP.2 with ⟨e,h0⟩|⟨g,c',cur,e,_⟩
 ·simp only [Value.slice.injEq] at e
  obtain rfl:ps=[]:=List.eq_nil_of_length_eq_zero h0
  obtain ⟨rfl,_,rfl⟩:=e
  refine wpList_append_own_none hgd s x 112 ho B 181 i 5 Tryz.underlying112 hi _ _ _ hs hown hx ?_
  have:=h av cv w (by simpa [pbCells] using hown) ⟨rfl,rfl,rfl,Nat.le_refl _,fun _ _ _=>rfl⟩
  simpa using this
 ·simp only [Value.slice.injEq] at e
  have e1:=e.1
  subst e1
  refine wpList_append_own w hgd s x 112 ho B 181 i _ 5 56 Tryz.underlying112 hi hz0 hz1 hz2 rfl (by decide) _ _ _ hs hown ⟨g,0,none⟩ ps.length pc (pbCells f ps) hx (pbCells_len f ps) (fun j u hj=>hP.cells (g:=g) rfl j u hj) ?_ (by unfold maxLen;omega) (by omega) hB ?_
  ·intro u hu
   unfold pbCells at hu
   obtain ⟨p,_,hp⟩:=List.mem_flatMap.1 hu
   simp only [pbc,List.mem_cons,List.not_mem_nil,or_false] at hp
   rcases hp with rfl | rfl | rfl | rfl | rfl <;> rfl
  ·intro v' w' h1 h2 _
   have e:∃ a' c',v' = .slice a' (n+ps.length:Nat) c':=by
    rcases h1.2 with ⟨hv,hn⟩|⟨g,cap,_,hv,_⟩
    ·exact ⟨none,0,by rw [hv,hn]⟩
    ·exact ⟨_,_,hv⟩
   obtain ⟨a',c',rfl⟩:=e
   exact h a' c' w' h1 h2
set_option maxHeartbeats 4000000 in
theorem blocks_st {V:List Bk} {E:Ed} {B B':Nat} {w:World} {fv:Option Addr} {fc:Nat} {vs:List Value} {ps:List Pm} (hv:w.ownsRow B' 149 1 (.slice fv ps.length fc) ps.length vs) (hP:∀ i (h:i<ps.length) (h':i<vs.length),PlanAt V E B w fv vs[i] ps[i]) (hn:ps.length<=1000) (hl:∀ p∈ps,p.l.length<=1000) :
  Calls Tryz.prog 49 #[.slice fv (ps.length:Nat) fc] w (BlkSay V E ps w):=by
 obtain ⟨Post,hPost⟩:∃ Post:Ending->World->Prop,Post=BlkSay V E ps w:=⟨_,rfl⟩
 rw [<- hPost]
 have HN:Hid (∀ w' i (h:i<ps.length) v,(resP E ps[i]).1=v->v≠0->Below w.heap.size w w'->Post (.returned (.tuple #[.slice none 0 0,.int .i64 v])) w'):=fun w' i h v h1 h2 h3=>by rw [hPost];subst h1;exact ⟨h3,.inl ⟨i,h,h2,rfl⟩⟩
 have HY:Hid (∀ w' av cv gs,GR w.heap.size w' av cv gs->gs.length=ps.length->(∀ i (h:i<ps.length) (h':i<gs.length),PgAt V E ps[i] gs[i])->Below w.heap.size w w'->Post (.returned (.tuple #[.slice av ((ptsOf gs).length:Nat) cv,.int .i64 0])) w'):=fun w' av cv gs h1 h2 h3 h4=>by rw [hPost];exact ⟨h4,.inr ⟨av,cv,gs,rfl,h1,h2,h3⟩⟩
 clear hPost
 have hvl:vs.length=ps.length:=by have:=hv.1;omega
 have HC:Hid (∀ k,k<ps.length->∃ b,fv=some ⟨b,0,none⟩∧∀ W,Below w.heap.size w W->W.cell? ⟨b,k,none⟩=some (vs.getD k undef)):=fun k hk=>by
  rcases hv.2 with ⟨_,h0⟩|⟨b,c',cur,e,_⟩
  ·omega
  ·simp only [Value.slice.injEq] at e
   have e1:=e.1
   subst e1
   refine ⟨b,rfl,fun W hb=>?_⟩
   have hc:=hv.cells (g:=b) rfl k (vs.getD k undef) (by rw [List.getD_eq_getElem?_getD,List.getElem?_eq_getElem (by omega)];rfl)
   rw [Addr.add_lit,Nat.zero_add] at hc
   exact cell_below hc hb
 have HP:Hid (∀ k (hk:k<ps.length),∃ qr qp,vs.getD k undef = .func (.func 73) #[] #[.pointer (some ⟨qr,0,none⟩),.pointer (some ⟨qp,0,none⟩)]∧∀ W,Below w.heap.size w W->Calls Tryz.prog 73 #[.pointer (some ⟨qr,0,none⟩),.pointer (some ⟨qp,0,none⟩)] W (ClSay V E ps[k] W)):=fun k hk=>by
  obtain ⟨qr,qp,g,F,sp,h1,_⟩:=(hP k hk (by omega)).it
  refine ⟨qr,qp,by rw [List.getD_eq_getElem?_getD,List.getElem?_eq_getElem (by omega)];exact h1,fun W hb=>?_⟩
  have hPW:=(hP k hk (by omega)).on hb
  obtain ⟨⟨qr',qp',g',F',sp',k1,k2,k3,k4,k5,_⟩,k6⟩:=hPW
  rw [h1] at k1
  simp only [Value.func.injEq,Array.mk.injEq,List.cons.injEq,Value.pointer.injEq,Option.some.injEq,Addr.mk.injEq,and_true,true_and] at k1
  rw [<- k1.1] at k2
  rw [<- k1.2] at k3
  exact clo_c k2 k3 k4 k5 k6.cgs (by have:=hl _ (List.getElem_mem hk);unfold maxLen;omega)
 have HI0:Hid (BL V E ps w 0 w none 0 []):=⟨Below.refl _ _,⟨World.ownsRow_nil w w.heap.size 181 5,fun g hg=>by cases hg⟩,rfl,fun i _ h'=>absurd h' (Nat.not_lt_zero _)⟩
 clear hv hP hvl hl
 have hen:∀ args w,(callFunc 73 args).run Tryz.prog w = .ok (.enter 73 args) w:=enters_of Tryz.func73 (by kernel_rfl) rfl
 go_enter Tryz.func49,Tryz.ntmps49
 go_wp2
 go_loopw [4,11] (fun pv iv wr=>∃ (k:Nat) (av:Option Addr) (cv:Nat) (gs:List Pg),pv = .slice av ((ptsOf gs).length:Nat) cv∧iv = .int .i64 (k:Int)∧k<=ps.length∧Hid (BL V E ps w k wr av cv gs)) (fun _ iv _=>ps.length-(intOf iv).toNat)
 case atStart=>exact ⟨0,none,0,[],rfl,rfl,Nat.zero_le _,HI0.out⟩
 case round =>
  clear HI0
  obtain ⟨k,av,cv,gs,rfl,rfl,hk,HI⟩:=hrel
  by_cases hlt:k<ps.length
  ·have hlt':(k:Int)<(ps.length:Int):=by omega
   obtain ⟨b,rfl,hcell⟩:=HC.out k hlt
   obtain ⟨qr,qp,hval,hcl⟩:=HP.out k hlt
   have hc:=hcell wr HI.out.bel
   rw [hval] at hc
   have hcl2:=hcl wr HI.out.bel
   clear hcell hcl hval
   go_wp2_with fail
   clear hc
   refine hcl2.mono ?_
   clear hcl2
   rintro _ w1 ⟨hb1,⟨hne,pa,pc,rfl⟩|⟨h0,pa,pc,pbs,rfl,hO,hR,hG⟩⟩
   ·have R:=HN.out w1 k hlt _ rfl hne (HI.out.bel.trans (hb1.mono HI.out.bel.size))
    clear HI HC HP HN HY hb1
    generalize (planS (regD E ps[k].X ps[k].Y) (ps[k].l.map Cg.cs)).1=v at *
    go_wp2
    exact R
   ·have HG:Hid (PgAt V E ps[k] ⟨ps[k].X,ps[k].Y,(planS (regD E ps[k].X ps[k].Y) (ps[k].l.map Cg.cs)).2,pbs⟩):=⟨rfl,rfl,rfl,hG,h0⟩
    have HB:Hid _:=hb1
    have HRw:Hid (w1.ownsRow w.heap.size 181 5 (.slice av (ptsOf gs).length cv) (ptsOf gs).length (cpCells (ptsOf gs))):=own_keep HI.out.gr.row (fun b cur hb _ _=>hb1.block b (Array.getElem?_eq_some_iff.1 hb).1)
    have HO:Hid _:=hO
    have HR:Hid _:=hR
    have Hsz:Hid (w.heap.size<=w1.heap.size):=Nat.le_trans HI.out.bel.size hb1.size
    have Hl1:Hid ((ptsOf gs).length<=3000000):=by
     have h1:∀ g∈gs,PsOk g.ps:=fun g hg=>by
      obtain ⟨i,hi,rfl⟩:=List.mem_iff_getElem.1 hg
      exact (HI.out.at_ i (by have:=HI.out.len;omega) hi).ok.ok
     have h2:=pts_len h1
     have h3:=HI.out.len
     show _<=_
     omega
    have Hl2:Hid (pbs.length<=1000):=by
     have:=nodup_len 40 (pbs.map (·.i)) hG.ok.once (fun x hx=>by
      obtain ⟨p,hp,rfl⟩:=List.mem_map.1 hx
      exact (hG.ok.ok p hp).1)
     rw [List.length_map] at this
     show _<=_
     omega
    clear hb1 hO hR hG h0 HC HP HN HY
    go_wp2_with (at_builtin;refine wpList_append_pbs rfl _ _ rfl w.heap.size av cv (ptsOf gs).length (cpCells (ptsOf gs)) rfl HRw.out wr.heap.size pa pc (2,ps[k].X,ps[k].Y) pbs rfl HO.out Hl1.out Hl2.out Hsz.out ?_;intro av' cv' w3 hrow hgr;have HN:Hid _:=HI.out.next hlt HB.out HG.out HR.out hrow hgr;have HL:Hid ((ptsOf (gs++[⟨ps[k].X,ps[k].Y,(planS (regD E ps[k].X ps[k].Y) (ps[k].l.map Cg.cs)).2,pbs⟩])).length=(ptsOf gs).length+pbs.length):=(by show _=_;rw [ptsOf_append,List.length_append];simp [ptsOf]);clear HRw HO HR HG HI HB Hsz Hl1 Hl2 hrow hgr)
    go_roundw
    case rel=>exact ⟨k+1,av',cv',_,by rw [HL.out],by go_num,by omega,HN.out⟩
    case measure=>simp [intOf];omega
  ·have hkn:k=ps.length:=by omega
   subst hkn
   have R:=HY.out wr av cv gs HI.out.gr HI.out.len HI.out.at_ HI.out.bel
   clear HI HC HP HN HY
   generalize (ptsOf gs).length=N at *
   go_wp2
   exact R
end Go.Proofs.YtlllmmceoeihkaaGreat
set_option maxRecDepth 20000
namespace Go.Proofs.YtlllmmceoeihkaaGreat
open Go.RowKit
def fits (E:Ed) (l:List Eb):Prop:=∀ e∈l,fitR (setE E l) (e.x/4) (e.z/4)
def SaveSay (F:Nat->Prop) (w:World) (s d m:Nat) (S:St) (V:List Bk) (E:Ed) (l:List Eb) (e:Ending) (w':World):Prop:=∃ Er:Int,e = .returned (.int .i64 Er) ∧
 ((¬ Once l∧Er=1∧Below w.heap.size w w') ∨
  (Once l∧S.out=true∧Er=8∧Below w.heap.size w w') ∨
  (Once l∧S.out=false∧¬ fits E l∧Er=11∧Below w.heap.size w w') ∨
  (Once l∧fits E l∧∃ S' V',Has V' (setE E l)∧S'.writes<=S.writes+2000∧Steps S S' ∧
   ((Er=0∧S'.out=false∧Chg (fun k=>F k∨k=m) w w'∧SO (Gr F w w') w' s d m 0 S' V' R0) ∨
    (Er=8∧¬ S.free∧Chg F w w'∧PDisk (Gr F w w') w' d S'∧(RecL S'.l V∨S.writes+2<=S'.writes∧RecL S'.l V')))))
theorem parts_has {V:List Bk} {E:Ed} {l:List Eb} {ps:List Pm} {gs:List Pg} (hE:Has V E) (ho:Once l) (hok:∀ e∈l,e.ok) (hG:Grp l l ps) (hl:gs.length=ps.length) (hat:∀ i (h:i<ps.length) (h':i<gs.length),PgAt V E ps[i] gs[i]):Has (doAll V (bksG gs)) (setE E l)∧fits E l:=by
 have hon:=List.pairwise_iff_getElem.1 hG.once
 have hpl:∀ p∈ps,(resP E p).1=0->fitR (setE E l) p.X p.Y∧(resP E p).2=regD (setE E l) p.X p.Y:=fun p hp h0=>by
  have hf:∀ e∈l.filter (rgE p.X p.Y),rgE p.X p.Y e=true∧e.ok:=fun e he=>⟨(List.mem_filter.1 he).2,hok e (List.mem_filter.1 he).1⟩
  have hp2:=plan_edits (X:=p.X) (Z:=p.Y) (E:=E) hf (List.Pairwise.sublist List.filter_sublist ho)
  have hreg:regD (setE E (l.filter (rgE p.X p.Y))) p.X p.Y=regD (setE E l) p.X p.Y:=regD_congr (fun x z hx hz=>setE_filter hx hz)
  have hfit:fitR (setE E (l.filter (rgE p.X p.Y))) p.X p.Y↔fitR (setE E l) p.X p.Y:=by unfold fitR;rw [hreg]
  unfold resP at h0 ⊢
  rw [hG.chs p hp] at h0 ⊢
  by_cases hfr:fitR (setE E l) p.X p.Y
  ·rw [hp2.1 (hfit.2 hfr)] at h0 ⊢
   exact ⟨hfr,hreg⟩
  ·rw [hp2.2 (fun h=>hfr (hfit.1 h))] at h0
   cases h0
 refine ⟨save_has hE ?_ (fun g hg=>?_) (fun X Y hno=>?_),fun e he=>?_⟩
 ·rw [List.pairwise_iff_getElem]
  intro i j hi hj hij e
  have h1:=hat i (by omega) hi
  have h2:=hat j (by omega) hj
  simp only [Pg.file,Prod.mk.injEq,true_and] at e
  exact hon i j (by omega) (by omega) hij ⟨by rw [<- h1.X,<- h2.X];exact e.1,by rw [<- h1.Z,<- h2.Z];exact e.2⟩
 ·obtain ⟨i,hi,rfl⟩:=List.mem_iff_getElem.1 hg
  have h1:=hat i (by omega) hi
  refine ⟨h1.ok,?_⟩
  rw [h1.d,h1.X,h1.Z]
  exact (hpl _ (List.getElem_mem _) h1.res).2
 ·refine regD_congr (fun x z hx hz=>setE_other (fun e he hxe=>?_))
  obtain ⟨p,hp,hr⟩:=hG.all e he
  obtain ⟨i,hi,rfl⟩:=List.mem_iff_getElem.1 hp
  have h1:=hat i hi (by omega)
  have hr:=of_decide_eq_true hr
  refine hno gs[i] (List.getElem_mem _) ⟨?_,?_⟩
  ·rw [h1.X,<- hr.1,hxe.1,hx]
  ·rw [h1.Z,<- hr.2,hxe.2,hz]
 ·obtain ⟨p,hp,hr⟩:=hG.all e he
  obtain ⟨i,hi,rfl⟩:=List.mem_iff_getElem.1 hp
  have h1:=hat i hi (by omega)
  have hr:=of_decide_eq_true hr
  rw [hr.1,hr.2]
  exact (hpl _ hp h1.res).1
theorem parts_full {E:Ed} {l:List Eb} {ps:List Pm} (ho:Once l) (hok:∀ e∈l,e.ok) (hG:Grp l l ps) {i:Nat} (hi:i<ps.length) (hne:(resP E ps[i]).1≠0):(resP E ps[i]).1=11∧¬ fits E l:=by
 have hp:=List.getElem_mem hi
 have hf:∀ e∈l.filter (rgE ps[i].X ps[i].Y),rgE ps[i].X ps[i].Y e=true∧e.ok:=fun e he=>⟨(List.mem_filter.1 he).2,hok e (List.mem_filter.1 he).1⟩
 have hp2:=plan_edits (X:=ps[i].X) (Z:=ps[i].Y) (E:=E) hf (List.Pairwise.sublist List.filter_sublist ho)
 have hreg:regD (setE E (l.filter (rgE ps[i].X ps[i].Y))) ps[i].X ps[i].Y=regD (setE E l) ps[i].X ps[i].Y:=regD_congr (fun x z hx hz=>setE_filter hx hz)
 have hfit:fitR (setE E (l.filter (rgE ps[i].X ps[i].Y))) ps[i].X ps[i].Y↔fitR (setE E l) ps[i].X ps[i].Y:=by unfold fitR;rw [hreg]
 unfold resP at hne ⊢
 rw [hG.chs _ hp] at hne ⊢
 by_cases hfr:fitR (setE E l) ps[i].X ps[i].Y
 ·rw [hp2.1 (hfit.2 hfr)] at hne
  exact absurd rfl hne
 ·rw [hp2.2 (fun h=>hfr (hfit.1 h))]
  refine ⟨rfl,fun h=>hfr ?_⟩
  obtain ⟨e,he,hr⟩:=hG.src _ hp
  have hr:=of_decide_eq_true hr
  have:=h e he
  rwa [hr.1,hr.2] at this
set_option maxHeartbeats 4000000 in
theorem save_c {F:Nat->Prop} {w:World} {s d m n:Nat} {S:St} {V:List Bk} {R:Rf} (h:SO F w s d m n S V R) {E:Ed} (hE:Has V E) {a:Option Addr} {nn c:Nat} {l:List Eb} (hEd:EdsAt w a l) (hl:l.length=nn) (hn:nn<=6) (hok:∀ e∈l,e.ok) (hI:∀ e∈l,I64 e.x∧I64 e.z) (hw:S.writes<=900000) :
  Calls Tryz.prog 20 #[.pointer (some ⟨s,0,none⟩),.slice a nn c] w (SaveSay F w s d m S V E l):=by
 obtain ⟨Post,hPost⟩:∃ Post:Ending->World->Prop,Post=SaveSay F w s d m S V E l:=⟨_,rfl⟩
 rw [<- hPost]
 have H1:Hid (∀ w',¬ Once l->Below w.heap.size w w'->Post (.returned (.int .i64 1)) w'):=fun w' h1 h2=>by rw [hPost];exact ⟨1,rfl,.inl ⟨h1,rfl,h2⟩⟩
 have H8:Hid (∀ w',Once l->S.out=true->Below w.heap.size w w'->Post (.returned (.int .i64 8)) w'):=fun w' h1 h2 h3=>by rw [hPost];exact ⟨8,rfl,.inr (.inl ⟨h1,h2,rfl,h3⟩)⟩
 have H11:Hid (∀ w',Once l->S.out=false->¬ fits E l->Below w.heap.size w w'->Post (.returned (.int .i64 11)) w'):=fun w' h1 h2 h3 h4=>by rw [hPost];exact ⟨11,rfl,.inr (.inr (.inl ⟨h1,h2,h3,rfl,h4⟩))⟩
 have HG:Hid (∀ w' Er,Once l->fits E l->(∃ S' V',Has V' (setE E l)∧S'.writes<=S.writes+2000∧Steps S S' ∧
   ((Er=0∧S'.out=false∧Chg (fun k=>F k∨k=m) w w'∧SO (Gr F w w') w' s d m 0 S' V' R0) ∨
    (Er=8∧¬ S.free∧Chg F w w'∧PDisk (Gr F w w') w' d S'∧(RecL S'.l V∨S.writes+2<=S'.writes∧RecL S'.l V'))))->Post (.returned (.int .i64 Er)) w'):=fun w' Er h1 h2 h3=>by rw [hPost];exact ⟨Er,rfl,.inr (.inr (.inr ⟨h1,h2,h3⟩))⟩
 clear hPost
 have HS:Hid (SO F w s d m n S V R):=h
 have HE:Hid (Has V E):=hE
 have Hok:Hid (∀ e∈l,e.ok):=hok
 have HI:Hid (∀ e∈l,I64 e.x∧I64 e.z):=hI
 have Hl:Hid (l.length=nn):=hl
 have hpt:=parted_c a nn c l w hEd hl (by omega) hok
 clear h hE hEd hok hI hl
 go_enter Tryz.func20,Tryz.ntmps20
 go_wp2_with fail
 refine hpt.mono ?_
 clear hpt
 rintro _ w1 ⟨hb1,⟨ho,rfl⟩|⟨ho,av,cv,ps,rfl,hrow,hgrp⟩⟩
 ·have R:=H1.out w1 ho hb1
  clear H1 H8 H11 HG HS HE Hok HI Hl hb1 ho
  go_wp2
  exact R
 have hS1:=HS.out.on hb1
 have hps:ps.length<=6:=by have:=hgrp.len;have:=Hl.out;omega
 have hpi:∀ p∈ps,I64 p.X∧I64 p.Y:=fun p hp=>by
  obtain ⟨e,he,hr⟩:=hgrp.src p hp
  have hr:=of_decide_eq_true hr
  rw [<- hr.1,<- hr.2]
  exact ⟨div_i64 (HI.out e he).1,div_i64 (HI.out e he).2⟩
 have hpln:=plans_c hS1 HE.out hrow hpi (by omega)
 have Hgrp:Hid (Grp l l ps):=hgrp
 have Hb1:Hid (Below w.heap.size w w1):=hb1
 have Ho:Hid (Once l):=ho
 clear H1 hS1 hpi hrow hgrp hb1 ho
 go_wp2_with fail
 refine hpln.mono ?_
 clear hpln
 rintro _ w2 ⟨hb2,⟨ho,_,rfl⟩|⟨hno,fv,fc,vs,rfl,hrow2,hat⟩⟩
 ·have R:=H8.out w2 Ho.out ho (Hb1.out.trans (hb2.mono Hb1.out.size))
  clear H8 H11 HG HS HE Hok Hl hb2 Hgrp Hb1 Ho
  go_wp2
  exact R
 have hb12:=Hb1.out.trans (hb2.mono Hb1.out.size)
 have hlens:∀ p∈ps,p.l.length<=1000:=fun p hp=>by
  have h1:=congrArg List.length (Hgrp.out.chs p hp)
  rw [List.length_map,List.length_map] at h1
  have h2:=List.length_filter_le (rgE p.X p.Y) l
  have:=Hl.out
  omega
 have hblk:=blocks_st hrow2 hat (by omega) hlens
 have Hb2:Hid (Below w.heap.size w w2):=hb12
 have Hno:Hid (¬ (S.out=true∧ps≠[])):=hno
 clear hb2 hb12 hlens hrow2 hat hno Hb1
 go_wp2_with fail
 refine hblk.mono ?_
 clear hblk
 rintro _ w3 ⟨hb3,⟨i,hi,hne,rfl⟩|⟨av3,cv3,gs,rfl,hgr,hgl,hgat⟩⟩
 ·obtain ⟨h11,hnf⟩:=parts_full Ho.out Hok.out Hgrp.out hi hne
  have hso:S.out=false:=by
   cases hs:S.out with
   | false=>rfl
   | true=>exact absurd ⟨hs,fun e=>by rw [e] at hi;simp at hi⟩ Hno.out
  have R:=H11.out w3 Ho.out hso hnf (Hb2.out.trans (hb3.mono Hb2.out.size))
  rw [h11]
  clear H8 H11 HG HS HE Hok Hl Hgrp Ho Hb2 Hno hb3 hne h11 hnf
  go_wp2
  exact R
 have hb13:=Hb2.out.trans (hb3.mono Hb2.out.size)
 have hS3:=HS.out.on hb13
 obtain ⟨hHas,hFit⟩:=parts_has HE.out Ho.out Hok.out Hgrp.out hgl hgat
 have hpo:∀ g∈gs,PsOk g.ps∧I64 g.X∧I64 g.Z:=fun g hg=>by
  obtain ⟨i,hi,rfl⟩:=List.mem_iff_getElem.1 hg
  have h1:=hgat i (by omega) hi
  obtain ⟨e,he,hr⟩:=Hgrp.out.src ps[i] (List.getElem_mem _)
  have hr:=of_decide_eq_true hr
  rw [h1.X,h1.Z,<- hr.1,<- hr.2]
  exact ⟨h1.ok.ok,div_i64 (HI.out e he).1,div_i64 (HI.out e he).2⟩
 have hpts:=hgr.puts hpo
 have hmay:may ((ptsOf gs).map Pt.bk)=0:=by rw [pts_bks];exact bks_may (fun g hg=>(hpo g hg).1) (by omega)
 have hN:(ptsOf gs).length<=1000000:=by have:=pts_len (fun g hg=>(hpo g hg).1);omega
 obtain ⟨j,hj,hJ⟩:=hS3.hd
 have c1:w3.cell? ⟨s,1,none⟩=some (.pointer (some ⟨j,0,none⟩)):=by rw [cell_of_row w3 s 1 _ 92 (0,0) hj];rfl
 have hgrp:=group_all F j d S V av3 (ptsOf gs).length cv3 (ptsOf gs) w3 hJ hS3.lt rfl hN hpts hw
 rw [hmay,pts_bks] at hgrp
 have HX:Hid (∀ w4 S',Chg F w3 w4->S'.writes<=S.writes+2000->Steps S S'->S'.out=false->JPx (Gr F w3 w4) w4 j d S' (doAll V (bksG gs))->w4.cell? ⟨s,2,none⟩=some (.map (some m))∧∃ w5,(∀ ty:TypeId,(Builtin.clear_ #[90] ty #[.map (some m)]).run Tryz.prog w4 = .ok (.tuple #[]) w5)∧Post (.returned (.int .i64 0)) w5):=fun w4 S' k1 k2 k3 k4 k5=>by
  have hs4:=(k1.block s (Array.getElem?_eq_some_iff.1 hj).1 hS3.fs).trans hj
  have hm4:=hS3.mp.same (k1.block m hS3.mp.lt hS3.fm)
  obtain ⟨w5,hrun,hm5,ht⟩:=hm4.clear
  refine ⟨by rw [cell_of_row w4 s 2 _ 92 (0,0) hs4];rfl,w5,hrun,?_⟩
  have hmF:¬ Gr F w3 w4 m:=fun h=>h.elim hS3.fm (fun h=>by have:=hS3.mp.lt;omega)
  have hsF:¬ Gr F w3 w4 s:=fun h=>h.elim hS3.fs (fun h=>by have:=(Array.getElem?_eq_some_iff.1 hj).1;omega)
  have hsz:w4.heap.size<=w5.heap.size:=(World.mapTurned.grown ht).size
  have hsub:∀ k,Gr F w3 w4 k->Gr F w w5 k:=fun k hk=>hk.imp id (fun h=>by have:=hb13.size;omega)
  have hC:Chg (fun k=>F k∨k=m) w w5:=by
   have g:=World.mapTurned.grown ht
   refine ⟨g.os.trans (k1.os.trans hb13.os),g.tape.trans (k1.tape.trans hb13.tape),g.output.trans (k1.output.trans hb13.output),Nat.le_trans hb13.size (Nat.le_trans k1.size hsz),fun k hk hf=>?_⟩
   rw [turned_block ht (fun e=>hf (.inr e)),k1.block k (by have:=hb13.size;omega) (fun h=>hf (.inl h)),hb13.block k hk]
  refine HG.out w5 0 Ho.out hFit ⟨S',_,hHas,k2,k3,.inl ⟨rfl,k4,hC,⟨j,?_,?_⟩,hm5,fun h=>?_,fun h=>?_,fun k hk=>?_⟩⟩
  ·exact (turned_row ht hs4).trans hs4
  ·exact jspec.jp_more (jspec.jp_keep k5 (fun k hk=>turned_block ht (fun e=>hmF (e▸hk)))) hsub
  ·exact h.elim HS.out.fs (fun h=>by have:=HS.out.lts.1;omega)
  ·exact h.elim HS.out.fm (fun h=>by have:=HS.out.lts.2;omega)
  ·rcases hk with h | h
   ·have:=HS.out.lt k h
    have:=hb13.size
    have:=k1.size
    omega
   ·exact h.2
 have HD:Hid (∀ w4 S',Chg F w3 w4->S'.writes<=S.writes+2000->Steps S S'->¬ S.free->JXx (Gr F w3 w4) w4 j d S'->(RecL S'.l V∨S.writes+2<=S'.writes∧RecL S'.l (doAll V (bksG gs)))->Post (.returned (.int .i64 8)) w4):=fun w4 S' k1 k2 k3 k4 k5 k6=>by
  have hsub:∀ k,Gr F w3 w4 k->Gr F w w4 k:=fun k hk=>hk.imp id (fun h=>by have:=hb13.size;omega)
  refine HG.out w4 8 Ho.out hFit ⟨S',_,hHas,k2,k3,.inr ⟨rfl,k4,⟨k1.os.trans hb13.os,k1.tape.trans hb13.tape,k1.output.trans hb13.output,Nat.le_trans hb13.size k1.size,fun k hk hf=>?_⟩,k5.1.more hsub,k6⟩⟩
  rw [k1.block k (by have:=hb13.size;omega) hf,hb13.block k hk]
 clear H8 H11 HG HS HE Hok Hl Hgrp Ho Hb2 Hno HI hb3 hb13 hHas hFit hpo hpts hmay hN hJ hgr hgl hgat hS3 hj hw
 generalize (ptsOf gs).length=N at *
 go_wp2_with fail
 refine hgrp.mono ?_
 clear hgrp c1
 rintro _ w4 ⟨S',E',rfl,k1,k2,k3,⟨hmm,_⟩|⟨_,rfl,k4,k5⟩|⟨_,rfl,k4,_,k5,k6⟩⟩
 ·exact absurd rfl hmm
 ·obtain ⟨c2,w5,hclr,R⟩:=HX.out w4 S' k1 k2 k3 k4 k5
  clear HX HD k1 k2 k3 k4 k5
  go_wp2
  exact R
 ·have R:=HD.out w4 S' k1 k2 k3 k4 k5 k6
  clear HX HD k1 k2 k3 k4 k5 k6
  go_wp2
  exact R
end Go.Proofs.YtlllmmceoeihkaaGreat
set_option maxRecDepth 20000
namespace Go.Proofs.YtlllmmceoeihkaaGreat
open Go.RowKit
def OpnSay (F:Nat->Prop) (w:World) (d:Nat) (S:St) (V:List Bk) (e:Ending) (w':World):Prop:=∃ S' sv E,e = .returned (.tuple #[sv,.int .i64 E])∧Chg F w w'∧S'.writes<=S.writes+2000∧Steps S S' ∧
 ((E=0∧∃ s m F',sv = .pointer (some ⟨s,0,none⟩)∧SO F' w' s d m 0 S' V R0∧(∀ k,F' k->Gr F w w' k)∧w.heap.size<=s∧w.heap.size<=m)∨(E=8∧sv = .pointer none∧¬ S.free∧PDisk (Gr F w w') w' d S'∧RecL S'.l V))
theorem open_st (F:Nat->Prop) (d:Nat) (S:St) (V:List Bk) (w:World) (hP:PDisk F w d S) (hF:∀ k,F k->k<w.heap.size) (hR:RecL S.l V) (hw:S.writes<=900000) :
  Calls Tryz.prog 12 #[.pointer (some ⟨d,0,none⟩)] w (OpnSay F w d S V):=by
 obtain ⟨Post,hPost⟩:∃ Post:Ending->World->Prop,Post=OpnSay F w d S V:=⟨_,rfl⟩
 rw [<- hPost]
 have ho:=open_all F d S V w hP hF hR hw
 have H8:Hid (∀ w' S',Chg F w w'->S'.writes<=S.writes+2000->Steps S S'->¬ S.free->PDisk (Gr F w w') w' d S'->RecL S'.l V->Post (.returned (.tuple #[.pointer none,.int .i64 8])) w'):=fun w' S' h1 h2 h3 h4 h5 h6=>by rw [hPost];exact ⟨S',_,8,rfl,h1,h2,h3,.inr ⟨rfl,rfl,h4,h5,h6⟩⟩
 have H0:Hid (∀ w1 S' j,Chg F w w1->S'.writes<=S.writes+2000->Steps S S'->JPx (Gr F w w1) w1 j d S' V->Post (.returned (.tuple #[.pointer (some ⟨w1.heap.size+1,0,none⟩),.int .i64 0])) ((w1.alloc (.map #[] 0)).alloc (.cells #[.pointer (some ⟨d,0,none⟩),.pointer (some ⟨j,0,none⟩),.map (some w1.heap.size)] 92))):=fun w1 S' j h1 h2 h3 h4=>by
  have hb:Below w1.heap.size w1 ((w1.alloc (.map #[] 0)).alloc (.cells #[.pointer (some ⟨d,0,none⟩),.pointer (some ⟨j,0,none⟩),.map (some w1.heap.size)] 92)):=((Below.refl w1.heap.size w1).alloc (Nat.le_refl _) _).alloc (by simp) _
  have hb2:Below (w1.alloc (.map #[] 0)).heap.size (w1.alloc (.map #[] 0)) ((w1.alloc (.map #[] 0)).alloc (.cells #[.pointer (some ⟨d,0,none⟩),.pointer (some ⟨j,0,none⟩),.map (some w1.heap.size)] 92)):=(Below.refl _ _).alloc (Nat.le_refl _) _
  have hs:=heap_alloc_new (w1.alloc (.map #[] 0)) (.cells #[.pointer (some ⟨d,0,none⟩),.pointer (some ⟨j,0,none⟩),.map (some w1.heap.size)] 92)
  rw [World.size_alloc] at hs
  have hz:w1.heap.size<(w1.alloc (.map #[] 0)).heap.size:=by rw [World.size_alloc];omega
  have hlt:∀ k,Gr F w w1 k->k<w1.heap.size:=fun k hk=>hk.elim (fun h=>Nat.lt_of_lt_of_le (hF k h) h1.size) (fun h=>h.2)
  rw [hPost]
  refine ⟨S',_,0,rfl,⟨hb.os.trans h1.os,hb.tape.trans h1.tape,hb.output.trans h1.output,Nat.le_trans h1.size hb.size,fun k hk hf=>(hb.block k (Nat.lt_of_lt_of_le hk h1.size)).trans (h1.block k hk hf)⟩,h2,h3,.inl ⟨rfl,w1.heap.size+1,w1.heap.size,Gr F w w1,rfl,⟨⟨j,hs,jspec.jp_keep h4 (fun k hk=>hb.block k (hlt k hk))⟩,(RMap.new w1).same (hb2.block _ hz),fun h=>?_,fun h=>?_,fun k hk=>Nat.lt_of_lt_of_le (hlt k hk) hb.size⟩,fun k hk=>hk.imp id (fun h=>⟨h.1,Nat.lt_of_lt_of_le h.2 hb.size⟩),Nat.le_trans h1.size (by omega),h1.size⟩⟩
  ·have:=hlt _ h;omega
  ·have:=hlt _ h;omega
 clear hPost hP hF hR hw
 have hmk:∀ W,(Instr.makeMap 90 none).run Tryz.prog W = .ok (.map (some W.heap.size)) (W.alloc (.map #[] 0)):=fun W=>by kernel_rfl
 go_enter Tryz.func12,Tryz.ntmps12
 go_wp2_with fail
 refine ho.mono ?_
 clear ho
 rintro _ w1 ⟨S',jv,E,rfl,h1,h2,h3,⟨rfl,j,rfl,h4⟩|⟨rfl,h4,h5,h6⟩⟩
 ·have R:=H0.out w1 S' j h1 h2 h3 h4
  clear H0 H8 h1 h2 h3 h4
  go_wp2
  exact R
 ·have R:=H8.out w1 S' h1 h2 h3 h4 h5 h6
  clear H0 H8 h1 h2 h3 h4 h5 h6
  go_wp2
  exact R
end Go.Proofs.YtlllmmceoeihkaaGreat
set_option maxRecDepth 20000
namespace Go.Proofs.YtlllmmceoeihkaaGreat
open Go.RowKit
structure Wk where
 x:Int
 z:Int
 a:Option Addr
 n:Nat
 c:Nat
 l:List (Int×Int)
 ev:Int
 mn:Int
abbrev wkv (o:Wk):Value:=.agg #[.int .i64 o.x,.int .i64 o.z,.slice o.a o.n o.c,.int .i64 o.ev,.int .i64 o.mn]
structure WkL (w:World) (o:Wk):Prop where
 len:o.l.length=o.n
 cells:∀ k (h:k<o.l.length),∃ b off,o.a=some ⟨b,off,none⟩∧w.cell? ⟨b,off+k*2,none⟩=some (.int .i64 o.l[k].1)∧w.cell? ⟨b,off+k*2+1,none⟩=some (.int .i64 o.l[k].2)
 bd:I64 o.x∧I64 o.z∧I64 o.ev∧I64 o.mn
 sz:o.n<=maxLen
theorem WkL.on {w w':World} {o:Wk} (h:WkL w o) (hb:Below w.heap.size w w'):WkL w' o:=⟨h.len,fun k hk=>by
 obtain ⟨b,off,e,h0,h1⟩:=h.cells k hk
 exact ⟨b,off,e,cell_below h0 hb,cell_below h1 hb⟩,h.bd,h.sz⟩
def remN (x m:Int):Nat:=((x.tmod m+m).tmod m).toNat
theorem remN_is (x:Int) {m:Int} (hm:0<m) (_hm2:m<=100000):(x.tmod m+m).tmod m=(remN x m:Int)∧(remN x m:Int)<m ∧ -m<x.tmod m∧x.tmod m<m:=by
 obtain ⟨y,h1,h2,h3,h4⟩:=K.rem_in x m hm
 unfold remN
 rw [h2,Int.toNat_natCast]
 exact ⟨rfl,h1,h3,h4⟩
def fill1 (ev:Nat):Nat->List Int
 | 0=>List.replicate 32768 16
 | n+1=>if n*ev<32768 then (fill1 ev n).set (n*ev) ((n%3:Nat):Int) else fill1 ev n
def fill2 (cs:List Int) (l:List (Int×Int)):Nat->List Int
 | 0=>cs
 | n+1=>(fill2 cs l n).set (remN (l.getD n (0,0)).1 32768) ((remN (l.getD n (0,0)).2 17:Nat):Int)
theorem fill1_ok (ev:Nat):∀ n,(fill1 ev n).length=32768∧K.Kinds (fill1 ev n)
 | 0=>⟨List.length_replicate,fun x hx=>by have:x=16:=List.eq_of_mem_replicate hx;omega⟩
 | n+1=>by
   obtain ⟨h1,h2⟩:=fill1_ok ev n
   unfold fill1
   split
   ·exact ⟨by rw [List.length_set];exact h1,h2.put _ (by omega) (by omega)⟩
   ·exact ⟨h1,h2⟩
theorem fill2_ok {cs:List Int} (h:cs.length=32768∧K.Kinds cs) (l:List (Int×Int)):∀ n,(fill2 cs l n).length=32768∧K.Kinds (fill2 cs l n)
 | 0=>h
 | n+1=>by
   obtain ⟨h1,h2⟩:=fill2_ok h l n
   unfold fill2
   exact ⟨by rw [List.length_set];exact h1,h2.put _ (by omega) (by have:=(remN_is (l.getD n (0,0)).2 (m:=17) (by omega) (by omega)).2.1;omega)⟩
def cellsW (o:Wk):List Int:=fill2 (fill1 (remN o.ev 60+2) (remN o.mn 700)) o.l (min o.l.length 200)
theorem cellsW_ok (o:Wk):(cellsW o).length=32768∧K.Kinds (cellsW o):=fill2_ok (fill1_ok _ _) _ _
theorem fill1_yes {ev n:Nat} (h:n*ev<32768):fill1 ev (n+1)=(fill1 ev n).set (n*ev) ((n%3:Nat):Int):=by
 show (if n*ev<32768 then _ else _)=_
 rw [if_pos h]
theorem fill1_no {ev n:Nat} (h:¬ n*ev<32768):fill1 ev (n+1)=fill1 ev n:=by
 show (if n*ev<32768 then _ else _)=_
 rw [if_neg h]
set_option maxHeartbeats 4000000 in
theorem lcells_c (o:Wk) (w:World) (h:WkL w o):Calls Tryz.prog 26 #[wkv o] w fun e w'=>Below w.heap.size w w'∧∃ g,w.heap.size<=g∧e = .returned (.slice (some ⟨g,0,none⟩) 32768 32768)∧K.Blk w' g 5 (cellsW o):=by
 obtain ⟨Post,hPost⟩:∃ Post:Ending->World->Prop,Post=fun e w'=>Below w.heap.size w w'∧∃ g,w.heap.size<=g∧e = .returned (.slice (some ⟨g,0,none⟩) 32768 32768)∧K.Blk w' g 5 (cellsW o):=⟨_,rfl⟩
 rw [<- hPost]
 have HP:Hid (∀ w' g cs,cellsW o=cs->w.heap.size<=g->K.Blk w' g 5 cs->Below w.heap.size w w'->Post (.returned (.slice (some ⟨g,0,none⟩) 32768 32768)) w'):=fun w' g cs h1 h2 h3 h4=>by rw [hPost];subst h1;exact ⟨h4,g,h2,rfl,h3⟩
 clear hPost
 obtain ⟨x,z,la,ln,lc,l,ev,mn⟩:=o
 have HL:Hid (WkL w ⟨x,z,la,ln,lc,l,ev,mn⟩):=h
 have hl0:l.length=ln:=h.len
 have hsz:ln<=maxLen:=h.sz
 have hsz':(ln:Int)<=9223372036854775807:=by unfold maxLen at hsz;omega
 obtain ⟨e0,e1,e2,e3⟩:=remN_is ev (m:=60) (by omega) (by omega)
 obtain ⟨m0,m1,m2,m3⟩:=remN_is mn (m:=700) (by omega) (by omega)
 obtain ⟨EV,hEV⟩:∃ EV:Nat,EV=remN ev 60+2:=⟨_,rfl⟩
 obtain ⟨MN,hMN⟩:∃ MN:Nat,MN=remN mn 700:=⟨_,rfl⟩
 have HC:Hid (cellsW ⟨x,z,la,ln,lc,l,ev,mn⟩=fill2 (fill1 EV MN) l (min l.length 200)):=by show _=_;unfold cellsW;rw [hEV,hMN]
 have hb0:Below w.heap.size w (w.alloc (.cells #[.int .i64 x,.int .i64 z,.slice la ln lc,.int .i64 ev,.int .i64 mn] 42)):=(Below.refl _ _).alloc (Nat.le_refl _) _
 have hbx:=heap_alloc_new w (.cells #[.int .i64 x,.int .i64 z,.slice la ln lc,.int .i64 ev,.int .i64 mn] 42)
 have hsz1:(w.alloc (.cells #[.int .i64 x,.int .i64 z,.slice la ln lc,.int .i64 ev,.int .i64 mn] 42)).heap.size=w.heap.size+1:=World.size_alloc _ _
 clear h
 go_enter Tryz.func26,Tryz.ntmps26
 go_wp2_with fail
 generalize w.alloc (.cells #[.int .i64 x,.int .i64 z,.slice la ln lc,.int .i64 ev,.int .i64 mn] 42)=w0 at *
 refine (K.rnew_c 16 (by omega) (by omega) w0).mono ?_
 rintro _ w1 ⟨rfl,hB1,hb1⟩
 have hbx1:=(hb1.block _ (Array.getElem?_eq_some_iff.1 hbx).1).trans hbx
 have hbl1:Below w.heap.size w w1:=hb0.trans (hb1.mono hb0.size)
 obtain ⟨G,hG⟩:∃ G,G=w0.heap.size:=⟨_,rfl⟩
 have hGw:w.heap.size<G:=by omega
 rw [<- hG] at hB1 ⊢
 clear hb0 hbx hb1 hG hsz1
 have b3:w1.cell? ⟨w.heap.size,3,none⟩=some (.int .i64 ev):=by rw [cell_of_row w1 _ 3 _ 42 (0,0) hbx1];rfl
 have b4:w1.cell? ⟨w.heap.size,4,none⟩=some (.int .i64 mn):=by rw [cell_of_row w1 _ 4 _ 42 (0,0) hbx1];rfl
 have HI0:Hid (Below w.heap.size w w1∧w1.heap[w.heap.size]?=some (.cells #[.int .i64 x,.int .i64 z,.slice la ln lc,.int .i64 ev,.int .i64 mn] 42 (0,0))∧K.Blk w1 G 5 (fill1 EV 0)):=⟨hbl1,hbx1,hB1⟩
 clear hbl1 hbx1 hB1
 go_wp2
 rw [show (remN ev 60:Int)+2=(EV:Int) by omega,show (remN mn 700:Int)=(MN:Int) by omega]
 have hEV2:EV<=100:=by omega
 have hMN2:MN<=700:=by omega
 clear e0 e1 e2 e3 m0 m1 m2 m3 hEV hMN b3 b4
 go_loopw [6] (fun iv wr=>∃ k:Nat,iv = .int .i64 (k:Int)∧k<=MN∧Hid (Below w.heap.size w wr∧wr.heap[w.heap.size]?=some (.cells #[.int .i64 x,.int .i64 z,.slice la ln lc,.int .i64 ev,.int .i64 mn] 42 (0,0))∧K.Blk wr G 5 (fill1 EV k))) (fun iv _=>MN-(intOf iv).toNat)
 case atStart=>exact ⟨0,rfl,Nat.zero_le _,HI0.out⟩
 case round =>
  clear HI0
  obtain ⟨k,rfl,hk,HI⟩:=hrel
  by_cases hlt:k<MN
  ·have hlt':(k:Int)<(MN:Int):=by omega
   obtain ⟨T,hT⟩:∃ T:Nat,T=k*EV:=⟨_,rfl⟩
   have hTle:T<=70000:=by rw [hT];exact Nat.le_trans (Nat.mul_le_mul (show k<=700 by omega) hEV2) (by omega)
   have hm:(k:Int)*(EV:Int)=(T:Int):=by rw [hT];exact (Int.natCast_mul k EV).symm
   have hw:IntKind.i64.wrap ((k:Int)*(EV:Int))=(T:Int):=by rw [hm,IntWalk.i64_in _ (by omega)]
   have h3:(k:Int).tmod 3=((k%3:Nat):Int):=(Int.ofNat_tmod k 3).symm
   have h3b:(k%3:Nat)<3:=Nat.mod_lt _ (by omega)
   by_cases ht:T<32768
   ·have ht':(T:Int)<32768:=by omega
    have hBk:=HI.out.2.2
    have hlen:=(fill1_ok EV k).1
    have hc:=hBk.cell (k:=T) (by rw [hlen];exact ht)
    have hf:=hBk.free T
    have R:Hid (Below w.heap.size w (wr.setCell ⟨G,T,none⟩ (.int .u8 ((k%3:Nat):Int)))∧(wr.setCell ⟨G,T,none⟩ (.int .u8 ((k%3:Nat):Int))).heap[w.heap.size]?=some (.cells #[.int .i64 x,.int .i64 z,.slice la ln lc,.int .i64 ev,.int .i64 mn] 42 (0,0))∧K.Blk (wr.setCell ⟨G,T,none⟩ (.int .u8 ((k%3:Nat):Int))) G 5 (fill1 EV (k+1))):=by
     refine ⟨HI.out.1.setCell (p:=⟨G,T,none⟩) (Nat.le_of_lt hGw) _,(Below.heap_setCell wr ⟨G,T,none⟩ _ w.heap.size (by simp only;omega)).trans HI.out.2.1,?_⟩
     rw [fill1_yes (by rw [<- hT];exact ht),<- hT]
     exact hBk.set T _
    clear hBk hlen HI HP HL HC hT hm
    generalize (fill1 EV k).getD T 0=v at hc
    generalize k%3=k3 at *
    go_wp2
    go_roundw
    case rel=>exact ⟨k+1,by go_num,by omega,R.out⟩
    case measure=>simp [intOf];omega
   ·have ht':¬ (T:Int)<32768:=by omega
    have R:Hid (K.Blk wr G 5 (fill1 EV (k+1))):=by
     show K.Blk wr G 5 _
     rw [fill1_no (by rw [<- hT];exact ht)]
     exact HI.out.2.2
    clear HP HL HC hT hm h3 h3b
    go_wp2
    go_roundw
    case rel=>exact ⟨k+1,by go_num,by omega,HI.out.1,HI.out.2.1,R.out⟩
    case measure=>simp [intOf];omega
  ·obtain rfl:k=MN:=by omega
   have HF:Hid ((fill1 EV k).length=32768∧K.Kinds (fill1 EV k)):=fill1_ok EV k
   clear hEV2 hMN2
   generalize fill1 EV k=F1 at *
   have HJ0:Hid (Below w.heap.size w wr∧wr.heap[w.heap.size]?=some (.cells #[.int .i64 x,.int .i64 z,.slice la ln lc,.int .i64 ev,.int .i64 mn] 42 (0,0))∧K.Blk wr G 5 (fill2 F1 l 0)):=HI.out
   clear HI
   go_wp2
   go_loopw [8] (fun iv wr=>∃ q:Nat,iv = .int .i64 (q:Int)∧q<=min l.length 200∧Hid (Below w.heap.size w wr∧wr.heap[w.heap.size]?=some (.cells #[.int .i64 x,.int .i64 z,.slice la ln lc,.int .i64 ev,.int .i64 mn] 42 (0,0))∧K.Blk wr G 5 (fill2 F1 l q))) (fun iv _=>201-(intOf iv).toNat)
   case atStart=>exact ⟨0,rfl,Nat.zero_le _,HJ0.out⟩
   case round =>
    clear HJ0
    obtain ⟨q,rfl,hq,HI⟩:=hrel
    have b1:wr.cell? ⟨w.heap.size,1,none⟩=some (.int .i64 z):=by rw [cell_of_row wr _ 1 _ 42 (0,0) HI.out.2.1];rfl
    have b2:wr.cell? ⟨w.heap.size,2,none⟩=some (.slice la ln lc):=by rw [cell_of_row wr _ 2 _ 42 (0,0) HI.out.2.1];rfl
    by_cases hlt:q<ln∧q<200
    ·have h1:(q:Int)<(ln:Int):=by omega
     have h2:(q:Int)<200:=by omega
     have hql:q<l.length:=by omega
     obtain ⟨lb,lo,hla,d0,d1⟩:=(HL.out.on HI.out.1).cells q hql
     simp only at hla d0 d1
     subst hla
     obtain ⟨y,hy⟩:∃ y,y=l[q]:=⟨_,rfl⟩
     have hyd:l.getD q (0,0)=y:=by rw [List.getD_eq_getElem?_getD,List.getElem?_eq_getElem hql,hy];rfl
     rw [<- hy] at d0 d1
     obtain ⟨y1,y2⟩:=y
     simp only at d0 d1
     obtain ⟨i0,i1,i2,i3⟩:=remN_is y1 (m:=32768) (by omega) (by omega)
     obtain ⟨j0,j1,j2,j3⟩:=remN_is y2 (m:=17) (by omega) (by omega)
     have hf2:fill2 F1 l (q+1)=(fill2 F1 l q).set (remN y1 32768) ((remN y2 17:Nat):Int):=by show (fill2 F1 l q).set (remN (l.getD q (0,0)).1 32768) _=_;rw [hyd]
     have hlen:=(fill2_ok HF.out l q).1
     have hBk:=HI.out.2.2
     have hi1:remN y1 32768<32768:=by omega
     have hc:=hBk.cell (k:=remN y1 32768) (by rw [hlen];exact hi1)
     have hf:=hBk.free (remN y1 32768)
     have R:Hid (Below w.heap.size w (wr.setCell ⟨G,remN y1 32768,none⟩ (.int .u8 ((remN y2 17:Nat):Int)))∧(wr.setCell ⟨G,remN y1 32768,none⟩ (.int .u8 ((remN y2 17:Nat):Int))).heap[w.heap.size]?=some (.cells #[.int .i64 x,.int .i64 z,.slice (some ⟨lb,lo,none⟩) ln lc,.int .i64 ev,.int .i64 mn] 42 (0,0))∧K.Blk (wr.setCell ⟨G,remN y1 32768,none⟩ (.int .u8 ((remN y2 17:Nat):Int))) G 5 (fill2 F1 l (q+1))):=by
      refine ⟨HI.out.1.setCell (p:=⟨G,remN y1 32768,none⟩) (Nat.le_of_lt hGw) _,(Below.heap_setCell wr ⟨G,remN y1 32768,none⟩ _ w.heap.size (by simp only;omega)).trans HI.out.2.1,?_⟩
      rw [hf2]
      exact hBk.set _ _
     clear hf2 hlen hBk HI HP HL HC HF hyd hy
     generalize (fill2 F1 l q).getD (remN y1 32768) 0=v at hc
     generalize remN y1 32768=r1 at *
     generalize remN y2 17=r2 at *
     go_wp2
     go_roundw
     case rel=>exact ⟨q+1,by go_num,by omega,R.out⟩
     case measure=>simp [intOf];omega
    ·have hqm:q=min l.length 200:=by omega
     have R:=HP.out wr G (fill2 F1 l q) (by rw [HC.out,hqm]) (Nat.le_of_lt hGw) HI.out.2.2 HI.out.1
     clear HP HC HI HL HF hqm
     by_cases h1:q<ln
     ·have h1':(q:Int)<(ln:Int):=by omega
      have h2':¬ (q:Int)<200:=by omega
      go_wp2
      exact R
     ·have h1':¬ (q:Int)<(ln:Int):=by omega
      go_wp2
      exact R
end Go.Proofs.YtlllmmceoeihkaaGreat
set_option maxRecDepth 20000
namespace Go.Proofs.YtlllmmceoeihkaaGreat
open Go.RowKit
abbrev KB (w:World) (g:Nat) (t:TypeId) (cs:List Int):Prop:=K.Blk w g t cs
structure WkAt (w:World) (b off k:Nat) (o:Wk):Prop where
 c0:w.cell? ⟨b,off+k*5,none⟩=some (.int .i64 o.x)
 c1:w.cell? ⟨b,off+k*5+1,none⟩=some (.int .i64 o.z)
 c2:w.cell? ⟨b,off+k*5+2,none⟩=some (.slice o.a o.n o.c)
 c3:w.cell? ⟨b,off+k*5+3,none⟩=some (.int .i64 o.ev)
 c4:w.cell? ⟨b,off+k*5+4,none⟩=some (.int .i64 o.mn)
 l:WkL w o
def WksAt (w:World) (a:Option Addr) (l:List Wk):Prop:=∀ k (h:k<l.length),∃ b off,a=some ⟨b,off,none⟩∧WkAt w b off k l[k]
theorem WksAt.on {w w':World} {a:Option Addr} {l:List Wk} (H:WksAt w a l) (hb:Below w.heap.size w w'):WksAt w' a l:=fun k h=>by
 obtain ⟨b,off,e,h1⟩:=H k h
 exact ⟨b,off,e,cell_below h1.c0 hb,cell_below h1.c1 hb,cell_below h1.c2 hb,cell_below h1.c3 hb,cell_below h1.c4 hb,h1.l.on hb⟩
def ebc (e:Eb):List Value:=[.int .i64 e.x,.int .i64 e.z,.slice e.a e.n e.c]
def ebCells (l:List Eb):List Value:=l.flatMap ebc
theorem ebCells_append (a b:List Eb):ebCells (a++b)=ebCells a++ebCells b:=by simp [ebCells]
theorem ebCells_at:∀ (l:List Eb) (k:Nat) (h:k<l.length) (j:Nat),j<3->(ebCells l)[k*3+j]?=(ebc l[k])[j]?
 | p::l,0,_,j,hj=>by
   show (ebc p++ebCells l)[0*3+j]?=_
   rw [Nat.zero_mul,Nat.zero_add,List.getElem?_append_left (by show j<3;exact hj)]
   rfl
 | p::l,k+1,h,j,hj=>by
   have ih:=ebCells_at l k (by simpa using h) j hj
   show (ebc p++ebCells l)[(k+1)*3+j]?=_
   rw [show (k+1)*3+j=3+(k*3+j) by omega,List.getElem?_append_right (by show 3<=_;omega)]
   simp only [List.getElem_cons_succ]
   rw [<- ih]
   congr 1
   show 3+(k*3+j)-3=_
   omega
structure ERow (B:Nat) (w:World) (av:Option Addr) (cv:Nat) (es:List Eb):Prop where
 row:w.ownsRow B 82 3 (.slice av es.length cv) es.length (ebCells es)
 dat:∀ e∈es,(∃ g,e.a=some ⟨g,0,none⟩∧B<=g∧K.Blk w g 5 e.b)∧e.n=32768∧e.c=32768∧e.ok∧I64 e.x∧I64 e.z
theorem ERow.on {B:Nat} {w w':World} {av:Option Addr} {cv:Nat} {es:List Eb} (h:ERow B w av cv es) (hb:Below w.heap.size w w'):ERow B w' av cv es :=
 ⟨own_keep h.row (fun b cur hb1 _ _=>hb.block b (Array.getElem?_eq_some_iff.1 hb1).1),fun e he=>by
  obtain ⟨⟨g,h1,h2,h3⟩,h4⟩:=h.dat e he
  exact ⟨⟨g,h1,h2,(hb.block g (Array.getElem?_eq_some_iff.1 h3).1).trans h3⟩,h4⟩⟩
theorem ERow.eds {B:Nat} {w:World} {av:Option Addr} {cv:Nat} {es:List Eb} (h:ERow B w av cv es):EdsAt w av es:=fun k hk=>by
 rcases h.row.2 with ⟨_,h0⟩|⟨g,c',cur,e,_⟩
 ·omega
 ·simp only [Value.slice.injEq] at e
  have e1:=e.1
  subst e1
  have hc:=h.row.cells (g:=g) rfl
  have c:∀ j v,j<3->(ebc es[k])[j]?=some v->w.cell? ⟨g,0+k*3+j,none⟩=some v:=fun j v hj hv=>by
   have:=hc (k*3+j) v (by rw [ebCells_at es k hk j hj];exact hv)
   rw [Addr.add_lit,Nat.zero_add] at this
   rw [Nat.zero_add]
   exact this
  obtain ⟨⟨q,h1,_,h3⟩,h4,_,h6,h7,h8⟩:=h.dat _ (List.getElem_mem hk)
  refine ⟨g,0,rfl,c 0 _ (by omega) rfl,c 1 _ (by omega) rfl,c 2 _ (by omega) rfl,?_,h7,h8⟩
  rw [h1,h4]
  exact blk_bytes h3 (fun y hy=>by have:=h6.2 y hy;omega) h6.1
theorem info82:(Tryz.prog.info? 82).map (fun i=>(i.zero,i.size,i.bytes))=some (some (.agg #[.int .i64 0,.int .i64 0,.slice none 0 0]),3,40):=by kernel_rfl
def EbOf (l:List Wk) (es:List Eb):Prop:=es.length=l.length∧∀ k (h:k<l.length) (h':k<es.length),es[k].x=l[k].x∧es[k].z=l[k].z∧es[k].b=cellsW l[k]
structure EL (w:World) (l:List Wk) (k:Nat) (wr:World) (av:Option Addr) (cv:Nat) (es:List Eb):Prop where
 bel:Below w.heap.size w wr
 row:ERow w.heap.size wr av cv es
 of:EbOf (l.take k) es
theorem EL.next {w:World} {l:List Wk} {k:Nat} {wr w1 w3:World} {av:Option Addr} {cv:Nat} {es:List Eb} (h:EL w l k wr av cv es) (hk:k<l.length) (hb:Below wr.heap.size wr w1) {g:Nat} (hg:w.heap.size<=g) (hB:K.Blk w1 g 5 (cellsW l[k])) (hI:I64 l[k].x∧I64 l[k].z) {ga c':Nat} (hr:w3.ownsRow w.heap.size 82 3 (.slice (some ⟨ga,0,none⟩) (es.length+1:Nat) c') (es.length+1) (ebCells es++[.int .i64 l[k].x,.int .i64 l[k].z,.slice (some ⟨g,0,none⟩) 32768 32768])) (hgr:w1.grownBy w3 (Value.ownBlock (.slice av es.length cv))) :
  EL w l (k+1) w3 (some ⟨ga,0,none⟩) c' (es++[(⟨l[k].x,l[k].z,some ⟨g,0,none⟩,32768,32768,cellsW l[k]⟩:Eb)]):=by
 have hrow1:w1.ownsRow w.heap.size 82 3 (.slice av es.length cv) es.length (ebCells es):=own_keep h.row.row (fun b cur hb1 _ _=>hb.block b (Array.getElem?_eq_some_iff.1 hb1).1)
 have hlen:(es++[(⟨l[k].x,l[k].z,some ⟨g,0,none⟩,32768,32768,cellsW l[k]⟩:Eb)]).length=es.length+1:=by simp
 refine ⟨below_grown (h.bel.trans (hb.mono h.bel.size)) hgr (fun b e=>(row_block_of hrow1 e).1) (Nat.le_refl _),⟨?_,fun e he=>?_⟩,?_⟩
 ·rw [hlen,ebCells_append]
  exact hr
 ·rcases List.mem_append.1 he with he | he
  ·obtain ⟨⟨q,h1,h2,h3⟩,h4⟩:=(h.row.on hb).dat e he
   exact ⟨⟨q,h1,h2,(grown_other hrow1 hgr (by decide) h3).trans h3⟩,h4⟩
  ·obtain rfl:=List.mem_singleton.1 he
   exact ⟨⟨g,rfl,hg,(grown_other hrow1 hgr (by decide) hB).trans hB⟩,rfl,rfl,cellsW_ok _,hI.1,hI.2⟩
 ·have htk:l.take (k+1)=l.take k++[l[k]]:=List.take_succ_eq_append_getElem hk
  have hel:=h.of.1
  rw [List.length_take] at hel
  refine ⟨by rw [hlen,htk,List.length_append,<- h.of.1];rfl,fun i hi hi'=>?_⟩
  rw [hlen] at hi'
  by_cases e:i<es.length
  ·have:=h.of.2 i (by rw [List.length_take];omega) e
   rw [List.getElem_append_left e,List.getElem_take]
   rw [List.getElem_take] at this
   exact this
  ·have hik:i=k:=by omega
   subst hik
   rw [List.getElem_append_right (by omega),List.getElem_take]
   simp only [show i-es.length=0 by omega,List.getElem_singleton]
   exact ⟨trivial,trivial,trivial⟩
set_option maxHeartbeats 4000000 in
theorem edits_c (a:Option Addr) (n c:Nat) (l:List Wk) (w:World) (hW:WksAt w a l) (hl:l.length=n) (hn:n<=1000) :
  Calls Tryz.prog 17 #[.slice a n c] w fun e w'=>Below w.heap.size w w'∧∃ ea ec es,e = .returned (.slice ea (es.length:Nat) ec)∧ERow w.heap.size w' ea ec es∧EbOf l es:=by
 obtain ⟨Post,hPost⟩:∃ Post:Ending->World->Prop,Post=fun e w'=>Below w.heap.size w w'∧∃ ea ec es,e = .returned (.slice ea (es.length:Nat) ec)∧ERow w.heap.size w' ea ec es∧EbOf l es:=⟨_,rfl⟩
 rw [<- hPost]
 have HP:Hid (∀ w' ea ec es,ERow w.heap.size w' ea ec es->EbOf l es->Below w.heap.size w w'->Post (.returned (.slice ea (es.length:Nat) ec)) w'):=fun w' ea ec es h1 h2 h3=>by rw [hPost];exact ⟨h3,ea,ec,es,rfl,h1,h2⟩
 clear hPost
 have HW:Hid (WksAt w a l):=hW
 have Hl:Hid (l.length=n):=hl
 have HI0:Hid (EL w l 0 w none 0 []):=⟨Below.refl _ _,⟨World.ownsRow_nil w w.heap.size 82 3,fun e he=>by cases he⟩,rfl,fun i h _=>absurd h (by simp)⟩
 clear hW hl
 go_enter Tryz.func17,Tryz.ntmps17
 go_wp2
 go_loopw [3,4] (fun pv iv wr=>∃ (k:Nat) (av:Option Addr) (cv:Nat) (es:List Eb),pv = .slice av (es.length:Nat) cv∧iv = .int .i64 (k:Int)∧k<=n∧Hid (EL w l k wr av cv es)) (fun _ iv _=>n-(intOf iv).toNat)
 case atStart=>exact ⟨0,none,0,[],rfl,rfl,Nat.zero_le _,HI0.out⟩
 case round =>
  clear HI0
  obtain ⟨k,av,cv,es,rfl,rfl,hk,HI⟩:=hrel
  by_cases hlt:k<n
  ·have hlt':(k:Int)<(n:Int):=by omega
   have hkl:k<l.length:=by rw [Hl.out];exact hlt
   obtain ⟨lb,lo,rfl,_⟩:=HW.out k hkl
   have hat:=(HW.out.on HI.out.bel) k hkl
   have HA:Hid (∀ W,Below w.heap.size w W->WkAt W lb lo k l[k]):=fun W hb=>by
    obtain ⟨b,off,e,h⟩:=(HW.out.on hb) k hkl
    cases e
    exact h
   clear hat
   go_upto_region 5 with fail
   refine Z.region_L (fun u=>Below w.heap.size w u) 99 (by kernel_rfl) ?_
   have hdr:Below wr.heap.size wr wr.drew:=⟨rfl,rfl,rfl,Nat.le_refl _,fun _ _=>rfl⟩
   have h_va:(fun u=>Below w.heap.size w u) wr.drew:=HI.out.bel.trans (hdr.mono HI.out.bel.size)
   have Hdr:Hid _:=hdr
   clear hdr
   generalize wr.drew=va at *
   have hne:Nonempty (Z.Sub (fun u=>Below w.heap.size w u)):=⟨⟨_,h_va⟩⟩
   have q0:∀ s:Z.Sub (fun u=>Below w.heap.size w u),s.w.cell? ⟨lb,lo+k*5,none⟩=some (.int .i64 l[k].x):=fun s=>(HA.out s.w s.ok).c0
   have q1:∀ s:Z.Sub (fun u=>Below w.heap.size w u),s.w.cell? ⟨lb,lo+k*5+1,none⟩=some (.int .i64 l[k].z):=fun s=>(HA.out s.w s.ok).c1
   have q2:∀ s:Z.Sub (fun u=>Below w.heap.size w u),s.w.cell? ⟨lb,lo+k*5+2,none⟩=some (.slice l[k].a l[k].n l[k].c):=fun s=>(HA.out s.w s.ok).c2
   have q3:∀ s:Z.Sub (fun u=>Below w.heap.size w u),s.w.cell? ⟨lb,lo+k*5+3,none⟩=some (.int .i64 l[k].ev):=fun s=>(HA.out s.w s.ok).c3
   have q4:∀ s:Z.Sub (fun u=>Below w.heap.size w u),s.w.cell? ⟨lb,lo+k*5+4,none⟩=some (.int .i64 l[k].mn):=fun s=>(HA.out s.w s.ok).c4
   refine Z.gen_L (by intro d v c a w h;cases d <;> exact h) (fun QX HQP HQX=>?_)
   refine Z.tk 0 rfl HQP h_va fun K hK=>?_;go_simp;refine hK _ ?_;clear hK K
   refine Z.tk 1 rfl HQP h_va fun K hK=>?_;go_simp;refine hK _ ?_;clear hK K
   refine Z.tk 2 rfl HQP h_va fun K hK=>?_;go_simp;refine hK _ ?_;clear hK K
   refine Z.tk 3 rfl HQP h_va fun K hK=>?_;go_simp;refine hK _ ?_;clear hK K
   refine Z.tk 4 rfl HQP h_va fun K hK=>?_;go_simp;refine hK _ ?_;clear hK K
   refine Z.tk 5 rfl HQP h_va fun K hK=>?_;go_simp;refine hK _ ?_;clear hK K
   refine Z.tk 6 rfl HQP h_va fun K hK=>?_;go_simp;refine hK _ ?_;clear hK K
   refine Z.ol 7 rfl fun K hK=>?_
   go_simp
   refine hK.out _ _ (fun _=>h_va) ?_
   clear hK K
   refine Z.ol 8 rfl fun K hK=>?_
   go_simp
   refine hK.out _ _ (fun _=>h_va) ?_
   clear hK K
   refine Z.tk 9 rfl HQP h_va fun K hK=>?_;go_simp;refine hK _ ?_;clear hK K
   refine Z.ol 10 rfl fun K hK=>?_
   go_simp
   refine (lcells_c l[k] _ (HA.out _ h_va).l).mono ?_
   rintro _ v1 ⟨hb1,g,hg,rfl,hBk⟩
   have h_v1:(fun u=>Below w.heap.size w u) v1:=Below.trans h_va (hb1.mono (Below.size h_va))
   have HB1:Hid (Below wr.heap.size wr v1):=Hdr.out.trans (hb1.mono Hdr.out.size)
   have HBk:Hid (w.heap.size<=g∧KB v1 g 5 (cellsW l[k])):=⟨Nat.le_trans (Below.size h_va) hg,hBk⟩
   refine hK.out _ _ (fun _=>h_v1) ?_
   clear hK K hb1 hg hBk Hdr h_va
   refine Z.ol 11 rfl fun K hK=>?_
   go_simp
   refine hK.out _ _ (fun _=>h_v1) ?_
   clear hK K
   refine Z.ol 12 rfl fun K hK=>?_
   go_simp
   have hb2:Below v1.heap.size v1 (v1.alloc (.cells #[.int .i64 l[k].x,.int .i64 l[k].z,.slice (some ⟨g,0,none⟩) 32768 32768] 82)):=(Below.refl _ _).alloc (Nat.le_refl _) _
   have h_v2:(fun u=>Below w.heap.size w u) (v1.alloc (.cells #[.int .i64 l[k].x,.int .i64 l[k].z,.slice (some ⟨g,0,none⟩) 32768 32768] 82)):=Below.trans h_v1 (hb2.mono (Below.size h_v1))
   have HB2:Hid (Below wr.heap.size wr (v1.alloc (.cells #[.int .i64 l[k].x,.int .i64 l[k].z,.slice (some ⟨g,0,none⟩) 32768 32768] 82))):=HB1.out.trans (hb2.mono HB1.out.size)
   have HBk2:Hid (w.heap.size<=g∧KB (v1.alloc (.cells #[.int .i64 l[k].x,.int .i64 l[k].z,.slice (some ⟨g,0,none⟩) 32768 32768] 82)) g 5 (cellsW l[k])):=⟨HBk.out.1,(hb2.block g (Array.getElem?_eq_some_iff.1 HBk.out.2).1).trans HBk.out.2⟩
   have hnw:=heap_alloc_new v1 (.cells #[.int .i64 l[k].x,.int .i64 l[k].z,.slice (some ⟨g,0,none⟩) 32768 32768] 82)
   refine hK.out _ _ (fun _=>h_v2) ?_
   clear hK K HB1 HBk hb2 h_v1
   obtain ⟨nb,hnb⟩:∃ nb,nb=v1.heap.size:=⟨_,rfl⟩
   rw [<- hnb] at hnw ⊢
   generalize v1.alloc (.cells #[.int .i64 l[k].x,.int .i64 l[k].z,.slice (some ⟨g,0,none⟩) 32768 32768] 82)=v2 at *
   clear hnb v1
   refine Z.one_W (i:=13) (by kernel_rfl) rfl (fun K hK=>?_)
   have Hrow:Hid (v2.ownsRow w.heap.size 82 3 (.slice av es.length cv) es.length (ebCells es)):=own_keep HI.out.row.row (fun b cur hb1 _ _=>HB2.out.block b (Array.getElem?_eq_some_iff.1 hb1).1)
   have hes:es.length=k:=by have:=HI.out.of.1;rw [List.length_take] at this;omega
   refine wpList_append_one Tryz.underlying49 info82 rfl (by decide) (by decide) rfl _ _ rfl w.heap.size av cv es.length (ebCells es) rfl Hrow.out nb 1 [.int .i64 l[k].x,.int .i64 l[k].z,.slice (some ⟨g,0,none⟩) 32768 32768] rfl hnw rfl (by intro u hu;simp at hu;rcases hu with rfl | rfl | rfl <;> rfl) (by omega) (Below.size h_v2) ?_
   intro ga cc v3 hrow hgr _ _
   have HN:Hid _:=HI.out.next hkl HB2.out HBk2.out.1 HBk2.out.2 ⟨(HA.out _ h_v2).l.bd.1,(HA.out _ h_v2).l.bd.2.1⟩ hrow hgr
   refine hK.out _ _ (fun _=>HN.out.bel) ?_
   have h_v3:(fun u=>Below w.heap.size w u) v3:=HN.out.bel
   have hsl:(es++[(⟨l[k].x,l[k].z,some ⟨g,0,none⟩,32768,32768,cellsW l[k]⟩:Eb)]).length=es.length+1:=by simp
   clear hK K HB2 HBk2 Hrow hrow hgr hnw h_v2 hes
   refine Z.ol 14 rfl fun K hK=>?_
   go_simp
   refine hK.out _ _ (fun _=>h_v3) ?_
   clear hK K
   refine Z.done_L (by kernel_rfl) ?_ _
   refine HQX.out _ _ ?_
   clear HQX HQP QX
   clear hne q0 q1 q2 q3 q4 h_v3 HA
   go_wp2
   go_roundw
   case rel=>exact ⟨k+1,_,_,_,by rw [hsl],by go_num,by omega,HN.out⟩
   case measure=>simp [intOf];omega
  ·obtain rfl:k=n:=by omega
   have hof:=HI.out.of
   rw [List.take_of_length_le (by rw [Hl.out];omega)] at hof
   have R:=HP.out wr av cv es HI.out.row hof HI.out.bel
   clear HI HP HW Hl hof
   generalize es.length=N at *
   go_wp2
   exact R
end Go.Proofs.YtlllmmceoeihkaaGreat
set_option maxRecDepth 20000
namespace Go.Proofs.YtlllmmceoeihkaaGreat
open Go.RowKit
def Near (o:Wk):Prop:=(-1073741824<=o.x∧o.x<=1073741824)∧(-1073741824<=o.z∧o.z<=1073741824)
set_option maxHeartbeats 2000000 in
theorem inner_c (a:Option Addr) (n c:Nat) (l:List Wk) (w:World) (hW:WksAt w a l) (hl:l.length=n) (hn:n<=maxLen) :
  Calls Tryz.prog 16 #[.slice a n c] w fun e w'=>Below w.heap.size w w'∧((e = .returned (.bool true)∧∀ o∈l,Near o)∨(e = .returned (.bool false)∧¬ ∀ o∈l,Near o)):=by
 obtain ⟨Post,hPost⟩:∃ Post:Ending->World->Prop,Post=fun e w'=>Below w.heap.size w w'∧((e = .returned (.bool true)∧∀ o∈l,Near o)∨(e = .returned (.bool false)∧¬ ∀ o∈l,Near o)):=⟨_,rfl⟩
 rw [<- hPost]
 have HT:Hid (∀ w',(∀ o∈l,Near o)->Below w.heap.size w w'->Post (.returned (.bool true)) w'):=fun w' h1 h2=>by rw [hPost];exact ⟨h2,.inl ⟨rfl,h1⟩⟩
 have HN:Hid (∀ w',(¬ ∀ o∈l,Near o)->Below w.heap.size w w'->Post (.returned (.bool false)) w'):=fun w' h1 h2=>by rw [hPost];exact ⟨h2,.inr ⟨rfl,h1⟩⟩
 clear hPost
 have HW:Hid (WksAt w a l):=hW
 have Hl:Hid (l.length=n):=hl
 have hmx:n<=9223372036854775807:=hn
 clear hW hl hn
 go_enter Tryz.func16,Tryz.ntmps16
 go_wp2
 go_loopw [3] (fun iv wr=>∃ k:Nat,iv = .int .i64 (k:Int)∧k<=n∧Hid (Below w.heap.size w wr∧∀ j (h:j<l.length),j<k->Near l[j])) (fun iv _=>n-(intOf iv).toNat)
 case atStart=>exact ⟨0,rfl,Nat.zero_le _,Below.refl _ _,fun j _ hj=>by omega⟩
 case round =>
  obtain ⟨k,rfl,hk,HI⟩:=hrel
  by_cases hlt:k<n
  ·have hlt':(k:Int)<(n:Int):=by omega
   have hkl:k<l.length:=by rw [Hl.out];exact hlt
   obtain ⟨lb,lo,rfl,hat⟩:=(HW.out.on HI.out.1) k hkl
   have c0:=hat.c0
   have c1:=hat.c1
   have hb1:Below w.heap.size w (wr.alloc (.cells #[.int .i64 l[k].x,.int .i64 l[k].z] 39)):=HI.out.1.alloc HI.out.1.size _
   have HB:Hid _:=hb1
   have HNe:Hid (∀ j (h:j<l.length),j<k->Near l[j]):=HI.out.2
   have HF:Hid ((¬ Near l[k])->¬ ∀ o∈l,Near o):=fun h h2=>h (h2 _ (List.getElem_mem hkl))
   obtain ⟨x,hx⟩:∃ x,x=l[k].x:=⟨_,rfl⟩
   obtain ⟨z,hz⟩:∃ z,z=l[k].z:=⟨_,rfl⟩
   have HNk:Hid (Near l[k]↔(-1073741824<=x∧x<=1073741824)∧(-1073741824<=z∧z<=1073741824)):=by rw [hx,hz];exact Iff.rfl
   rw [<- hx,<- hz] at HB
   rw [<- hx] at c0
   rw [<- hz] at c1
   clear hat hb1 HI hx hz
   by_cases h1:x < -1073741824
   ·have R:=HN.out _ (HF.out (fun h=>by have:=HNk.out.1 h;omega)) HB.out
    clear HNk HF HT HN HNe HB
    go_wp2
    exact R
   ·by_cases h2:1073741824<x
    ·have R:=HN.out _ (HF.out (fun h=>by have:=HNk.out.1 h;omega)) HB.out
     clear HNk HF HT HN HNe HB
     go_wp2
     exact R
    ·by_cases h3:z < -1073741824
     ·have R:=HN.out _ (HF.out (fun h=>by have:=HNk.out.1 h;omega)) HB.out
      clear HNk HF HT HN HNe HB
      go_wp2
      exact R
     ·by_cases h4:1073741824<z
      ·have R:=HN.out _ (HF.out (fun h=>by have:=HNk.out.1 h;omega)) HB.out
       clear HNk HF HT HN HNe HB
       go_wp2
       exact R
      ·have HN2:Hid (∀ j (h:j<l.length),j<k+1->Near l[j]):=fun j hj hjk=>by
        by_cases e:j=k
        ·subst e;exact HNk.out.2 ⟨⟨by omega,by omega⟩,⟨by omega,by omega⟩⟩
        ·exact HNe.out j hj (by omega)
       clear HNk HF HT HN HNe
       go_wp2
       go_roundw
       case rel=>exact ⟨k+1,by go_num,by omega,HB.out,HN2.out⟩
       case measure=>simp [intOf];omega
  ·obtain rfl:k=n:=by omega
   have R:=HT.out wr (fun o ho=>by
    obtain ⟨j,hj,rfl⟩:=List.mem_iff_getElem.1 ho
    exact HI.out.2 j hj (by have:=Hl.out;omega)) HI.out.1
   clear HI HT HN HW Hl
   go_wp2
   exact R
structure LOp where
 kd:Int
 a:Option Addr
 n:Nat
 c:Nat
 l:List Wk
structure LOpAt (w:World) (b off k:Nat) (o:LOp):Prop where
 c0:w.cell? ⟨b,off+k*2,none⟩=some (.int .i64 o.kd)
 c1:w.cell? ⟨b,off+k*2+1,none⟩=some (.slice o.a o.n o.c)
 len:o.l.length=o.n
 sz:o.n<=maxLen
 ws:WksAt w o.a o.l
def OpsAt (w:World) (a:Option Addr) (l:List LOp):Prop:=∀ k (h:k<l.length),∃ b off,a=some ⟨b,off,none⟩∧LOpAt w b off k l[k]
theorem OpsAt.on {w w':World} {a:Option Addr} {l:List LOp} (H:OpsAt w a l) (hb:Below w.heap.size w w'):OpsAt w' a l:=fun k h=>by
 obtain ⟨b,off,e,h1⟩:=H k h
 exact ⟨b,off,e,cell_below h1.c0 hb,cell_below h1.c1 hb,h1.len,h1.sz,h1.ws.on hb⟩
def SmallO (l:List LOp):Prop:=l.length<=40∧∀ o∈l,o.n<=6
set_option maxHeartbeats 2000000 in
theorem small_c (a:Option Addr) (n c:Nat) (l:List LOp) (w:World) (hW:OpsAt w a l) (hl:l.length=n) :
  Calls Tryz.prog 10 #[.slice a n c] w fun e w'=>w'=w∧((e = .returned (.bool true)∧SmallO l)∨(e = .returned (.bool false)∧¬ SmallO l)):=by
 obtain ⟨Post,hPost⟩:∃ Post:Ending->World->Prop,Post=fun e w'=>w'=w∧((e = .returned (.bool true)∧SmallO l)∨(e = .returned (.bool false)∧¬ SmallO l)):=⟨_,rfl⟩
 rw [<- hPost]
 have HT:Hid (SmallO l->Post (.returned (.bool true)) w):=fun h1=>by rw [hPost];exact ⟨rfl,.inl ⟨rfl,h1⟩⟩
 have HN:Hid (¬ SmallO l->Post (.returned (.bool false)) w):=fun h1=>by rw [hPost];exact ⟨rfl,.inr ⟨rfl,h1⟩⟩
 clear hPost
 have HW:Hid (OpsAt w a l):=hW
 have Hl:Hid (l.length=n):=hl
 clear hW hl
 go_enter Tryz.func10,Tryz.ntmps10
 by_cases h40:40<n
 ·have h40':(40:Int)<(n:Int):=by omega
  have R:=HN.out (fun h=>by have:=h.1;have:=Hl.out;omega)
  clear HT HN HW Hl
  go_wp2
  exact R
 have h40':¬ (40:Int)<(n:Int):=by omega
 go_wp2
 go_loopw [3] (fun iv wr=>∃ k:Nat,iv = .int .i64 (k:Int)∧k<=n∧wr=w∧Hid (∀ j (h:j<l.length),j<k->l[j].n<=6)) (fun iv _=>n-(intOf iv).toNat)
 case atStart=>exact ⟨0,rfl,Nat.zero_le _,rfl,fun j _ hj=>by omega⟩
 case round =>
  obtain ⟨k,rfl,hk,hwr,HI⟩:=hrel
  replace hwr:=hwr.symm
  subst hwr
  by_cases hlt:k<n
  ·have hlt':(k:Int)<(n:Int):=by omega
   have hkl:k<l.length:=by rw [Hl.out];exact hlt
   obtain ⟨lb,lo,rfl,hat⟩:=HW.out k hkl
   have c1:=hat.c1
   clear hat
   have Hk:Hid (6<l[k].n->¬ SmallO l):=fun h h2=>by have:=h2.2 _ (List.getElem_mem hkl);omega
   have Hk2:Hid (l[k].n<=6->∀ j (h:j<l.length),j<k+1->l[j].n<=6):=fun h j hj hjk=>by
    by_cases e:j=k
    ·subst e;exact h
    ·exact HI.out j hj (by omega)
   generalize l[k].n=m at *
   generalize l[k].a=sa at *
   generalize l[k].c=sc at *
   by_cases h6:6<m
   ·have h6':(6:Int)<(m:Int):=by omega
    have R:=HN.out (Hk.out h6)
    clear HI HT HN HW Hl Hk Hk2
    go_wp2
    exact R
   ·have h6':¬ (6:Int)<(m:Int):=by omega
    have HI2:Hid _:=Hk2.out (by omega)
    clear HI HT HN Hk Hk2
    go_wp2
    go_roundw
    case rel=>exact ⟨k+1,by go_num,by omega,trivial,HI2.out⟩
    case measure=>simp [intOf];omega
  ·obtain rfl:k=n:=by omega
   have R:=HT.out ⟨by have:=Hl.out;omega,fun o ho=>by
    obtain ⟨j,hj,rfl⟩:=List.mem_iff_getElem.1 ho
    exact HI.out j hj (by have:=Hl.out;omega)⟩
   clear HI HT HN HW Hl
   go_wp2
   exact R
end Go.Proofs.YtlllmmceoeihkaaGreat
set_option maxRecDepth 20000
namespace Go.Proofs.YtlllmmceoeihkaaGreat
open Go.ChangeShapes Go.WideShapes Go.ChangeAt Go.RowKit Go.Joins Go.Deep
theorem cells42:Tryz.prog.cellsOf 42=5:=by kernel_rfl
theorem cells37:Tryz.prog.cellsOf 37=2:=by kernel_rfl
theorem cells80:Tryz.prog.cellsOf 80=2:=by kernel_rfl
theorem cells40:Tryz.prog.cellsOf 40=1:=by kernel_rfl
theorem cells35:Tryz.prog.cellsOf 35=1:=by kernel_rfl
theorem list_in {α:Type} (Q:Nat->α->Prop):∀ n:Nat,(∀ i,i<n->∃ x,Q i x)->∃ l:List α,l.length=n∧∀ i (h:i<l.length),Q i l[i]
 | 0,_=>⟨[],rfl,fun i hi=>absurd hi (Nat.not_lt_zero _)⟩
 | n+1,h=>by
   obtain ⟨l,hl,hq⟩:=list_in Q n fun i hi=>h i (by omega)
   obtain ⟨x,hx⟩:=h n (by omega)
   refine ⟨l++[x],by rw [List.length_append,hl];rfl,fun i hi=>?_⟩
   by_cases e:i<l.length
   ·rw [List.getElem_append_left e]
    exact hq i e
   ·rw [List.length_append,List.length_singleton] at hi
    obtain rfl:i=l.length:=by omega
    rw [List.getElem_append_right (Nat.le_refl _)]
    simp only [Nat.sub_self,List.getElem_singleton]
    rw [hl]
    exact hx
section
variable {H:Type} {enc:TypeId×Value->H} {w:World} {base:Nat} {spare:Nat->Bool} {held:Bool}
theorem one_int {n:Nat} {v:Value} {y:DataW H×List MemPlace} (h:DataW.trod enc Tryz.prog w base spare held n 3 [v]=some y):∃ x,v = .int .i64 x∧I64 x:=by
 obtain ⟨a,e,_,hw⟩:=DataW.trod_int Tryz.underlying3 h
 simp at e
 exact ⟨a,e,bd64 hw⟩
theorem one_at {n:Nat} {cs:List Value} {y:DataW H×List MemPlace} (h:DataW.trod enc Tryz.prog w base spare held n 39 cs=some y):∃ p:Int×Int,cs=[.int .i64 p.1,.int .i64 p.2]∧I64 p.1∧I64 p.2:=by
 obtain ⟨y0,y1,m,_,hl,h0,h1⟩:=trod_struct2 Tryz.underlying39 h
 rw [cells39] at hl
 match cs,hl with
 | [c0,c1],_ =>
   simp only [cells3,List.drop_zero,List.drop_succ_cons,List.take_succ_cons,List.take_zero] at h0 h1
   obtain ⟨d,rfl,b0⟩:=one_int h0
   obtain ⟨a,rfl,b1⟩:=one_int h1
   exact ⟨(d,a),rfl,b0,b1⟩
theorem one_cell2 {n:Nat} {cs:List Value} {y:DataW H×List MemPlace} (h:DataW.trod enc Tryz.prog w base spare held n 80 cs=some y):∃ p:Int×Int,cs=[.int .i64 p.1,.int .i64 p.2]∧I64 p.1∧I64 p.2:=by
 obtain ⟨y0,y1,m,_,hl,h0,h1⟩:=trod_struct2 Tryz.underlying80 h
 rw [cells80] at hl
 match cs,hl with
 | [c0,c1],_ =>
   simp only [cells3,List.drop_zero,List.drop_succ_cons,List.take_succ_cons,List.take_zero] at h0 h1
   obtain ⟨d,rfl,b0⟩:=one_int h0
   obtain ⟨a,rfl,b1⟩:=one_int h1
   exact ⟨(d,a),rfl,b0,b1⟩
theorem in_cells {fuel:Nat} {v:Value} {y:DataW H×List MemPlace} (hf:DataW.trod enc Tryz.prog w base spare held fuel 40 [v]=some y) :
  ∃ a len cap,v = .slice a len cap∧len<=maxLen∧∃ l:List (Int×Int),l.length=len∧∀ k (h:k<l.length),∃ b off,a=some ⟨b,off,none⟩∧w.cell? ⟨b,off+k*2,none⟩=some (.int .i64 l[k].1)∧w.cell? ⟨b,off+k*2+1,none⟩=some (.int .i64 l[k].2):=by
 rcases open_slice Tryz.underlying40 hf with ⟨hcs,_⟩|⟨x,len,cap,m,n,D,Pl,hcs,_,hl,hcap,hm,hy,hx⟩
 ·simp at hcs
  exact ⟨none,0,0,hcs,Nat.zero_le _,[],rfl,fun k hk=>absurd hk (Nat.not_lt_zero _)⟩
 ·simp at hcs
  refine ⟨some x,len,cap,hcs,by omega,?_⟩
  have hlm:len<=m:=by rw [hm];split <;> omega
  obtain ⟨b,off,spot⟩:=x
  have hspot:0<len->spot=none:=fun hp0=>by
   obtain ⟨cs',h1,h2⟩:=hx 0 (by omega)
   obtain ⟨q,rfl,_,_⟩:=one_cell2 h2
   rw [cells80] at h1
   obtain ⟨_,_,hcell⟩:=World.cells?_some h1
   have e0:=hcell 0 (by simp)
   rw [add_add] at e0
   simpa [Addr.add] using World.cell?_spot e0
  have each:∀ i,i<len->∃ q:Int×Int,spot=none∧(w.cell? ⟨b,off+i*2,none⟩=some (.int .i64 q.1)∧w.cell? ⟨b,off+i*2+1,none⟩=some (.int .i64 q.2)):=by
   intro i hi
   obtain ⟨cs',h1,h2⟩:=hx i (by omega)
   obtain ⟨q,rfl,b1,b2⟩:=one_cell2 h2
   rw [cells80] at h1
   obtain ⟨_,_,hcell⟩:=World.cells?_some h1
   have e0:=hcell 0 (by simp)
   have e1:=hcell 1 (by simp)
   rw [add_add] at e0 e1
   have hs:spot=none:=hspot (by omega)
   subst hs
   rw [Addr.add_mid] at e0 e1
   exact ⟨q,rfl,by simpa using e0,by simpa [Nat.add_assoc] using e1⟩
  obtain ⟨l,hl1,hl2⟩:=list_in (fun i (q:Int×Int)=>spot=none∧(w.cell? ⟨b,off+i*2,none⟩=some (.int .i64 q.1)∧w.cell? ⟨b,off+i*2+1,none⟩=some (.int .i64 q.2))) len each
  refine ⟨l,hl1,fun k hk=>?_⟩
  obtain ⟨rfl,h2⟩:=hl2 k hk
  exact ⟨b,off,rfl,h2⟩
theorem one_work {n:Nat} {cs:List Value} {y:DataW H×List MemPlace} (h:DataW.trod enc Tryz.prog w base spare held n 42 cs=some y):∃ o:Wk,cs=[.int .i64 o.x,.int .i64 o.z,.slice o.a o.n o.c,.int .i64 o.ev,.int .i64 o.mn]∧WkL w o:=by
 obtain ⟨y0,y1,y2,y3,m,_,hl,h0,h1,h2,h3⟩:=trod_struct4 Tryz.underlying42 h
 rw [cells42] at hl
 match cs,hl with
 | [c0,c1,c2,c3,c4],_ =>
   simp only [cells3,cells39,cells40,List.drop_zero,List.drop_succ_cons,List.take_succ_cons,List.take_zero] at h0 h1 h2 h3
   obtain ⟨p,e,b0,b1⟩:=one_at h0
   simp only [List.cons.injEq,and_true] at e
   obtain ⟨rfl,rfl⟩:=e
   obtain ⟨a,len,cap,rfl,hle,l,hll,hc⟩:=in_cells h1
   obtain ⟨z3,rfl,b3⟩:=one_int h2
   obtain ⟨z4,rfl,b4⟩:=one_int h3
   exact ⟨⟨p.1,p.2,a,len,cap,l,z3,z4⟩,rfl,hll,hc,⟨b0,b1,b3,b4⟩,hle⟩
theorem in_works {fuel:Nat} {v:Value} {y:DataW H×List MemPlace} (hf:DataW.trod enc Tryz.prog w base spare held fuel 35 [v]=some y) :
  ∃ a len cap,v = .slice a len cap∧len<=maxLen∧∃ l:List Wk,l.length=len∧WksAt w a l:=by
 rcases open_slice Tryz.underlying35 hf with ⟨hcs,_⟩|⟨x,len,cap,m,n,D,Pl,hcs,_,hl,hcap,hm,hy,hx⟩
 ·simp at hcs
  exact ⟨none,0,0,hcs,Nat.zero_le _,[],rfl,fun k hk=>absurd hk (Nat.not_lt_zero _)⟩
 ·simp at hcs
  refine ⟨some x,len,cap,hcs,by omega,?_⟩
  have hlm:len<=m:=by rw [hm];split <;> omega
  obtain ⟨b,off,spot⟩:=x
  have hspot:0<len->spot=none:=fun hp0=>by
   obtain ⟨cs',h1,h2⟩:=hx 0 (by omega)
   obtain ⟨o,rfl,_⟩:=one_work h2
   rw [cells42] at h1
   obtain ⟨_,_,hcell⟩:=World.cells?_some h1
   have e0:=hcell 0 (by simp)
   rw [add_add] at e0
   simpa [Addr.add] using World.cell?_spot e0
  have each:∀ i,i<len->∃ o:Wk,spot=none∧WkAt w b off i o:=by
   intro i hi
   obtain ⟨cs',h1,h2⟩:=hx i (by omega)
   obtain ⟨o,rfl,ho⟩:=one_work h2
   rw [cells42] at h1
   obtain ⟨_,_,hcell⟩:=World.cells?_some h1
   have e0:=hcell 0 (by simp)
   have e1:=hcell 1 (by simp)
   have e2:=hcell 2 (by simp)
   have e3:=hcell 3 (by simp)
   have e4:=hcell 4 (by simp)
   rw [add_add] at e0 e1 e2 e3 e4
   have hs:spot=none:=hspot (by omega)
   subst hs
   rw [Addr.add_mid] at e0 e1 e2 e3 e4
   exact ⟨o,rfl,by simpa using e0,by simpa [Nat.add_assoc] using e1,by simpa [Nat.add_assoc] using e2,by simpa [Nat.add_assoc] using e3,by simpa [Nat.add_assoc] using e4,ho⟩
  obtain ⟨l,hl1,hl2⟩:=list_in (fun i (o:Wk)=>spot=none∧WkAt w b off i o) len each
  refine ⟨l,hl1,fun k hk=>?_⟩
  obtain ⟨rfl,h2⟩:=hl2 k hk
  exact ⟨b,off,rfl,h2⟩
theorem one_op {n:Nat} {cs:List Value} {y:DataW H×List MemPlace} (h:DataW.trod enc Tryz.prog w base spare held n 37 cs=some y):∃ o:LOp,cs=[.int .i64 o.kd,.slice o.a o.n o.c]∧I64 o.kd∧o.l.length=o.n∧o.n<=maxLen∧WksAt w o.a o.l:=by
 obtain ⟨y0,y1,m,_,hl,h0,h1⟩:=trod_struct2 Tryz.underlying37 h
 rw [cells37] at hl
 match cs,hl with
 | [c0,c1],_ =>
   simp only [cells3,cells35,List.drop_zero,List.drop_succ_cons,List.take_succ_cons,List.take_zero] at h0 h1
   obtain ⟨kd,rfl,b0⟩:=one_int h0
   obtain ⟨a,len,cap,rfl,hle,l,hll,hw⟩:=in_works h1
   exact ⟨⟨kd,a,len,cap,l⟩,rfl,b0,hll,hle,hw⟩
theorem open_ops {a:Option Addr} {len cap:Nat} {d:DataW H} {p:List MemPlace} (h:DataW.Trod enc Tryz.prog w base spare held 22 (.slice a len cap) d p):∃ l:List LOp,l.length=len∧OpsAt w a l:=by
 obtain ⟨fuel,hf⟩:=h
 rcases open_slice Tryz.underlying22 hf with ⟨hcs,_⟩|⟨x,len',cap',m,n,D,Pl,hcs,_,hl,_,hm,_,hx⟩
 ·simp [Value.cells] at hcs
  obtain ⟨rfl,rfl,rfl⟩:=hcs
  exact ⟨[],rfl,fun k hk=>absurd hk (Nat.not_lt_zero _)⟩
 ·simp [Value.cells] at hcs
  obtain ⟨rfl,rfl,rfl⟩:=hcs
  have hlm:len<=m:=by rw [hm];split <;> omega
  obtain ⟨b,off,spot⟩:=x
  have hspot:0<len->spot=none:=fun hp0=>by
   obtain ⟨cs',h1,h2⟩:=hx 0 (by omega)
   obtain ⟨o,rfl,_⟩:=one_op h2
   rw [cells37] at h1
   obtain ⟨_,_,hcell⟩:=World.cells?_some h1
   have e0:=hcell 0 (by simp)
   rw [add_add] at e0
   simpa [Addr.add] using World.cell?_spot e0
  have each:∀ i,i<len->∃ o:LOp,spot=none∧LOpAt w b off i o:=by
   intro i hi
   obtain ⟨cs',h1,h2⟩:=hx i (by omega)
   obtain ⟨o,rfl,_,h3,h4,h5⟩:=one_op h2
   rw [cells37] at h1
   obtain ⟨_,_,hcell⟩:=World.cells?_some h1
   have e0:=hcell 0 (by simp)
   have e1:=hcell 1 (by simp)
   rw [add_add] at e0 e1
   have hs:spot=none:=hspot (by omega)
   subst hs
   rw [Addr.add_mid] at e0 e1
   exact ⟨o,rfl,by simpa using e0,by simpa [Nat.add_assoc] using e1,h3,h4,h5⟩
  obtain ⟨l,hl1,hl2⟩:=list_in (fun i (o:LOp)=>spot=none∧LOpAt w b off i o) len each
  refine ⟨l,hl1,fun k hk=>?_⟩
  obtain ⟨rfl,h2⟩:=hl2 k hk
  exact ⟨b,off,rfl,h2⟩
end
end Go.Proofs.YtlllmmceoeihkaaGreat
set_option maxRecDepth 20000
namespace Go.Proofs.YtlllmmceoeihkaaGreat.Z
open Go.RowKit K
theorem needK_le (b:List Int):needK b<=1025:=by
 unfold needK
 split
 ·exact Nat.zero_le _
 ·have:=enc_len b
  unfold secs
  omega
theorem sneed_c {w:World} {a:Option Addr} {c:Nat} {b:List Int} (h:Cz w a c b):Calls Tryz.prog 44 #[.slice a b.length c] w fun e w'=>e = .returned (.int .i64 (needK b:Int))∧Below w.heap.size w w':=by
 obtain ⟨Post,hPost⟩:∃ Post:Ending->World->Prop,Post=fun e w'=>e = .returned (.int .i64 (needK b:Int))∧Below w.heap.size w w':=⟨_,rfl⟩
 rw [<- hPost]
 have HP:Hid (∀ w' v,needK b=v->Below w.heap.size w w'->Post (.returned (.int .i64 (v:Int))) w'):=fun w' v h0 h1=>by rw [hPost,<- h0];exact ⟨rfl,h1⟩
 clear hPost
 have hbl:b.length<=1000000:=by
  rcases h with ⟨rfl,_⟩|⟨_,_,hl,_⟩
  ·simp
  ·omega
 have hno:=rnone_c (c:=c) h.bytes hbl
 have HC:Hid (Cz w a c b):=h
 clear h
 cases hn:noneB b with
 | true =>
   have R:=HP.out w 0 (by unfold needK;rw [hn];rfl) (Below.refl _ _)
   rw [hn] at hno
   generalize b.length=N at *
   clear HP HC hn
   go_enter Tryz.func44,Tryz.ntmps44
   go_wp2_with (go_at_call 28;refine hno.mono ?_;clear hno;rintro _ _ ⟨rfl,rfl⟩)
   exact R
 | false =>
   rw [hn] at hno
   rcases HC.out with ⟨rfl,_⟩|⟨g,rfl,hl,hc,_,hk,hp⟩
   ·cases hn
   have hen:=rencode_p c g b w hp hl hk
   have HL:Hid ((encL b).length<=32788):=enc_len b
   have HN:Hid (needK b=secs (encL b).length):=by unfold needK;rw [hn];rfl
   rw [<- hl] at hen
   have h0:((b.length:Nat):Int)=32768:=by rw [hl];rfl
   clear hn HC hl hc hk hp
   generalize b.length=N at *
   generalize (encL b).length=M at *
   go_enter Tryz.func44,Tryz.ntmps44
   go_wp2_with fail
   refine hno.mono ?_
   clear hno
   rintro _ w1 ⟨rfl,hwe⟩
   replace hwe:=hwe.symm
   subst hwe
   go_wp2_with fail
   refine hen.mono ?_
   clear hen
   rintro _ w1 ⟨a',c',rfl,_,hb⟩
   have hnd:=rneed_c (M:Int) ⟨by omega,by have:=HL.out;omega⟩ w1
   have R:=HP.out w1 (secs M) HN.out hb
   rw [needI_nat] at hnd
   clear HP HN hb HL
   go_wp2_with fail
   refine hnd.mono ?_
   clear hnd
   rintro _ w2 ⟨rfl,hwe⟩
   replace hwe:=hwe.symm
   subst hwe
   have hs:(needS M:Int)=(secs M:Int):=rfl
   rw [hs]
   clear hs
   generalize secs M=q at *
   go_wp2
   exact R
end Go.Proofs.YtlllmmceoeihkaaGreat.Z
set_option maxRecDepth 20000
namespace Go.Proofs.YtlllmmceoeihkaaGreat.Z
open Go.RowKit K
theorem kcells_set:∀ (l:List Km) (k:Nat) (q:Km),k<l.length->((((kcells l).set (k*4) (.int .i64 q.x)).set (k*4+1) (.int .i64 q.z)).set (k*4+2) (.slice q.a q.b.length q.c)).set (k*4+3) (.int .i64 (q.m:Int))=kcells (l.set k q)
 | [],k,_,h=>absurd h (Nat.not_lt_zero _)
 | a::r,0,q,_=>rfl
 | a::r,k+1,q,h=>by
   have ih:=kcells_set r k q (by simpa using h)
   have hk:(kcell a).length=4:=rfl
   show (((((kcell a++kcells r).set ((k+1)*4) _).set ((k+1)*4+1) _).set ((k+1)*4+2) _).set ((k+1)*4+3) _)=kcell a++kcells (r.set k q)
   rw [List.set_append_right _ _ (by omega),List.set_append_right _ _ (by omega),List.set_append_right _ _ (by omega),List.set_append_right _ _ (by omega),show (k+1)*4-(kcell a).length=k*4 by omega,show (k+1)*4+1-(kcell a).length=k*4+1 by omega,show (k+1)*4+2-(kcell a).length=k*4+2 by omega,show (k+1)*4+3-(kcell a).length=k*4+3 by omega,ih]
theorem kcells_setm (l:List Km) (k:Nat) (h:k<l.length) (m:Nat):(kcells l).set (k*4+3) (.int .i64 (m:Int))=kcells (l.set k { l[k] with m:=m }):=by
 rw [<- kcells_set l k _ h]
 have c:∀ j v,j<4->(kcell l[k])[j]?=some v->(kcells l)[k*4+j]?=some v:=fun j v hj hv=>by rw [kcells_at l k h j hj];exact hv
 have e:∀ (xs:List Value) (i:Nat) (v:Value),xs[i]?=some v->xs.set i v=xs:=fun xs i v hv=>by
  apply List.ext_getElem?
  intro j
  by_cases hj:i=j
  ·subst hj
   rw [List.getElem?_set_self (List.getElem?_eq_some_iff.1 hv).1,hv]
  ·rw [List.getElem?_set_ne hj]
 have h0:=e _ _ _ (c 0 _ (by omega) rfl)
 have h1:=e _ _ _ (c 1 _ (by omega) rfl)
 have h2:=e _ _ _ (c 2 _ (by omega) rfl)
 simp only [Nat.add_zero] at h0
 rw [h0,h1,h2]
section
variable {G:Nat->Prop} {B:Nat} {w w':World} {r g:Nat} {L:List Km} {av:Option Addr} {cv:Nat}
theorem RSt.row_block (h:RSt G B w r L (some ⟨g,0,none⟩) cv):∃ cur,w.heap[g]?=some (.cells cur 103 (0,0))∧B<=g:=by
 obtain ⟨cur,h1,h2,_⟩:=h.row.blk
 exact ⟨cur,h1,h2⟩
theorem RSt.ne_row (h:RSt G B w r L (some ⟨g,0,none⟩) cv):r≠g:=fun e=>by
 obtain ⟨cur,h1,_⟩:=h.row_block
 have:=h.hd
 rw [e,h1] at this
 simp at this
theorem Cz.ne_row {g:Nat} {cur:Array Value} (hg:w.heap[g]?=some (.cells cur 103 (0,0))) {a:Option Addr} {c:Nat} {b:List Int} (h:Cz w a c b) {p:Nat} (e:a=some ⟨p,0,none⟩):p≠g:=fun e2=>by
 rcases h with ⟨_,h,_⟩|⟨q,hq,_,_,_,_,⟨cur',h5,_⟩⟩
 ·rw [h] at e;cases e
 ·rw [hq] at e
  cases e
  rw [e2,hg] at h5
  simp at h5
theorem RSt.turn (h:RSt G B w r L (some ⟨g,0,none⟩) cv) {L':List Km} (hr:KRow B w' (some ⟨g,0,none⟩) cv L') (hl:L'.length=L.length) (hb:∀ k,k≠g->w'.heap[k]?=w.heap[k]?) (hz:w.heap.size<=w'.heap.size) (hby:∀ k∈L',Cz w k.a k.c k.b) (hgb:∀ k∈L',∀ g,k.a=some ⟨g,0,none⟩->G g) (hmb:∀ k∈L',k.m<=100000) (hky:∀ k∈L',I64 k.x∧I64 k.z):RSt G B w' r L' (some ⟨g,0,none⟩) cv:=by
 obtain ⟨cur,hcur,_⟩:=h.row_block
 refine ⟨by rw [hb r h.ne_row,h.hd,hl],hr,fun k hk=>(hby k hk).same (fun p e=>hb p (Cz.ne_row hcur (hby k hk) e)),h.gr,h.gv,hgb,fun k hk=>Nat.lt_of_lt_of_le (h.lt k hk) hz,by rw [hl];exact h.sz,hmb,hky⟩
theorem RSt.setm (h:RSt G B w r L (some ⟨g,0,none⟩) cv) {k:Nat} (hk:k<L.length) {m:Nat} (hm:m<=100000):RSt G B (w.setCell ⟨g,k*4+3,none⟩ (.int .i64 (m:Int))) r (L.set k { L[k] with m:=m }) (some ⟨g,0,none⟩) cv:=by
 have hs:=(World.ownsRow.stored h.row (k*4+3) (.int .i64 (m:Int))).1
 rw [kcells_setm L k hk m] at hs
 have hmem:∀ q∈L.set k { L[k] with m:=m },∃ p∈L,q.x=p.x∧q.z=p.z∧q.a=p.a∧q.b=p.b∧q.c=p.c∧q.m<=100000:=fun q hq=>by
  rcases List.mem_or_eq_of_mem_set hq with hq | rfl
  ·exact ⟨q,hq,rfl,rfl,rfl,rfl,rfl,h.mb q hq⟩
  ·exact ⟨L[k],List.getElem_mem hk,rfl,rfl,rfl,rfl,rfl,hm⟩
 have hlen:(L.set k { L[k] with m:=m }).length=L.length:=List.length_set
 refine h.turn (by unfold KRow;rw [hlen];exact hs) hlen (fun j hj=>Below.heap_setCell w ⟨g,k*4+3,none⟩ _ j hj) (by simp) (fun q hq=>?_) (fun q hq p e=>?_) (fun q hq=>?_) (fun q hq=>?_)
 ·obtain ⟨p,hp,_,_,e3,e4,e5,_⟩:=hmem q hq
  rw [e3,e4,e5]
  exact h.by_ p hp
 ·obtain ⟨p',hp,_,_,e3,_⟩:=hmem q hq
  exact h.gb p' hp p (e3▸e)
 ·obtain ⟨_,_,_,_,_,_,_,e⟩:=hmem q hq
  exact e
 ·obtain ⟨p,hp,e1,e2,_⟩:=hmem q hq
  rw [e1,e2]
  exact h.ky p hp
def put4 (w:World) (g k:Nat) (q:Km):World:=(((w.setCell ⟨g,k*4,none⟩ (.int .i64 q.x)).setCell ⟨g,k*4+1,none⟩ (.int .i64 q.z)).setCell ⟨g,k*4+2,none⟩ (.slice q.a q.b.length q.c)).setCell ⟨g,k*4+3,none⟩ (.int .i64 (q.m:Int))
theorem put4_block (w:World) (g k:Nat) (q:Km) {j:Nat} (hj:j≠g):(put4 w g k q).heap[j]?=w.heap[j]?:=by
 unfold put4
 rw [Below.heap_setCell _ _ _ j hj,Below.heap_setCell _ _ _ j hj,Below.heap_setCell _ _ _ j hj,Below.heap_setCell _ _ _ j hj]
theorem put4_size (w:World) (g k:Nat) (q:Km):(put4 w g k q).heap.size=w.heap.size:=by simp [put4]
theorem RSt.setk (h:RSt G B w r L (some ⟨g,0,none⟩) cv) {k:Nat} (hk:k<L.length) {q:Km} (hq:Cz w q.a q.c q.b) (hqg:∀ p,q.a=some ⟨p,0,none⟩->G p) (hm:q.m<=100000) (hky:I64 q.x∧I64 q.z):RSt G B (put4 w g k q) r (L.set k q) (some ⟨g,0,none⟩) cv:=by
 have hs1:=(World.ownsRow.stored h.row (k*4) (.int .i64 q.x)).1
 have hs2:=(World.ownsRow.stored hs1 (k*4+1) (.int .i64 q.z)).1
 have hs3:=(World.ownsRow.stored hs2 (k*4+2) (.slice q.a q.b.length q.c)).1
 have hs4:=(World.ownsRow.stored hs3 (k*4+3) (.int .i64 (q.m:Int))).1
 rw [kcells_set L k q hk] at hs4
 have hlen:(L.set k q).length=L.length:=List.length_set
 refine h.turn (by unfold KRow;rw [hlen];exact hs4) hlen (fun j hj=>put4_block w g k q hj) (by rw [put4_size];exact Nat.le_refl _) (fun p hp=>?_) (fun p hp j e=>?_) (fun p hp=>?_) (fun p hp=>?_) <;> rcases List.mem_or_eq_of_mem_set hp with hp | rfl
 ·exact h.by_ p hp
 ·exact hq
 ·exact h.gb p hp j e
 ·exact hqg j e
 ·exact h.mb p hp
 ·exact hm
 ·exact h.ky p hp
 ·exact hky
theorem RSt.more {G':Nat->Prop} (h:RSt G B w r L av cv) (hG:∀ k,G k->G' k) (hl:∀ k,G' k->k<w.heap.size):RSt G' B w r L av cv :=
 ⟨h.hd,h.row,h.by_,hG _ h.gr,fun g e=>hG _ (h.gv g e),fun k hk g e=>hG _ (h.gb k hk g e),hl,h.sz,h.mb,h.ky⟩
end
end Go.Proofs.YtlllmmceoeihkaaGreat.Z
set_option maxRecDepth 20000
namespace Go.Proofs.YtlllmmceoeihkaaGreat
open Go.RowKit
theorem setE_ok {E:Ed} (hE:EdOk E):∀ {l:List Eb},(∀ e∈l,e.ok)->EdOk (setE E l)
 | [],_=>hE
 | e::r,h=>by
   refine setE_ok (E:=E.put e.x e.z e.cells) (fun x z=>?_) (fun q hq=>h q (List.mem_cons_of_mem _ hq))
   unfold Ed.put
   by_cases hx:x=e.x∧z=e.z
   ·rw [if_pos hx]
    unfold Eb.cells
    have ho:=h e (by simp)
    cases hn:Z.noneB e.b with
    | true=>exact .inl rfl
    | false=>exact .inr ⟨ho.1,ho.2,by simpa using hn⟩
   ·rw [if_neg hx]
    exact hE x z
structure LD (B:Nat) (w:World) (d:Nat) (S:St) (E:Ed):Prop where
 it:∃ F V,PDisk F w d S∧(∀ k,F k->k<w.heap.size)∧(∀ k,F k->B<=k)∧RecL S.l V∧Has V E
structure LS (B:Nat) (w:World) (s d:Nat) (S:St) (E:Ed) (R:Rf) (N:Nat):Prop where
 it:∃ F V m n,SO F w s d m n S V R∧Has V E∧(∀ k,F k->B<=k)∧B<=s∧B<=m∧n<=N
theorem LS.on {B:Nat} {w w':World} {s d:Nat} {S:St} {E:Ed} {R:Rf} {N:Nat} (h:LS B w s d S E R N) (hb:Below w.heap.size w w'):LS B w' s d S E R N:=by
 obtain ⟨F,V,m,n,h1,h2⟩:=h.it
 exact ⟨F,V,m,n,h1.on hb,h2⟩
theorem ld_new {B:Nat} {w':World} {g:Nat} {F:Nat->Prop} (hD:PDisk F w' g St.new) (hF:∀ k,F k->B<=k) (hl:∀ k,F k->k<w'.heap.size):LD B w' g St.new E0:=⟨F,[],hD,hl,hF,RecL.new,has_new⟩
theorem chg_below {F:Nat->Prop} {B:Nat} {w w':World} (h:Chg F w w') (hF:∀ k,F k->B<=k) (hB:B<=w.heap.size):Below B w w' :=
 ⟨h.os,h.tape,h.output,h.size,fun k hk=>h.block k (by omega) (fun hf=>by have:=hF k hf;omega)⟩
theorem lopen_c {B:Nat} {w:World} {d:Nat} {S:St} {E:Ed} (h:LD B w d S E) (hB:B<=w.heap.size) (hf:S.free) (hw:S.writes<=900000) :
  Calls Tryz.prog 12 #[.pointer (some ⟨d,0,none⟩)] w fun e w'=>Below B w w'∧∃ s S',e = .returned (.tuple #[.pointer (some ⟨s,0,none⟩),.int .i64 0])∧LS B w' s d S' E R0 0∧S'.free∧S'.writes<=S.writes+2000:=by
 obtain ⟨F,V,h1,h2,h3,h4,h5⟩:=h.it
 refine (open_st F d S V w h1 h2 h4 hw).mono ?_
 rintro e w' ⟨S',sv,Er,rfl,hC,hwr,hst,⟨rfl,s,m,F',rfl,hS,hF',hs,hm⟩|⟨_,_,hnf,_⟩⟩
 ·refine ⟨chg_below hC h3 hB,s,S',rfl,⟨F',V,m,0,hS,h5,fun k hk=>(hF' k hk).elim (h3 k) (fun h=>Nat.le_trans hB h.1),Nat.le_trans hB hs,Nat.le_trans hB hm,Nat.le_refl _⟩,hst.free hf,hwr⟩
 ·exact absurd hf hnf
def LSaveSay (B:Nat) (w:World) (s d:Nat) (S:St) (E:Ed) (R:Rf) (N:Nat) (l:List Eb) (e:Ending) (w':World):Prop:=Below B w w' ∧
 ((∃ Er:Int,e = .returned (.int .i64 Er)∧(Er=1∨Er=11)∧(Er=1↔¬ Once l)∧¬ (Once l∧fits E l)∧LS B w' s d S E R N) ∨
  (Once l∧fits E l∧e = .returned (.int .i64 0)∧∃ S',LS B w' s d S' (setE E l) R0 0∧S'.free∧S'.writes<=S.writes+2000))
theorem chg_of_below {G:Nat->Prop} {w w':World} (h:Below w.heap.size w w'):Chg G w w':=⟨h.os,h.tape,h.output,h.size,fun k hk _=>h.block k hk⟩
theorem lsaveg_c {B:Nat} {w0:World} {s d:Nat} {S:St} {E:Ed} {R:Rf} {N:Nat} (h:LS B w0 s d S E R N) (hB0:B<=w0.heap.size) (hf:S.free) (hw:S.writes<=900000):∃ G:Nat->Prop,(∀ k,G k->k<w0.heap.size) ∧
  ∀ w,Below w0.heap.size w0 w->∀ (a:Option Addr) (c:Nat) (l:List Eb),EdsAt w a l->l.length<=6->(∀ e∈l,e.ok)->(∀ e∈l,I64 e.x∧I64 e.z) ->
  Calls Tryz.prog 20 #[.pointer (some ⟨s,0,none⟩),.slice a (l.length:Nat) c] w (fun e w'=>LSaveSay B w s d S E R N l e w'∧Chg G w w'):=by
 obtain ⟨F,V,m,n,h1,h2,h3,h4,h5,h6⟩:=h.it
 refine ⟨fun k=>F k∨k=m,fun k hk=>hk.elim (h1.lt k) (fun e=>e▸h1.mp.lt),fun w hb a c l hE hn hok hI=>?_⟩
 have hB:B<=w.heap.size:=Nat.le_trans hB0 hb.size
 refine (save_c (h1.on hb) h2 hE rfl hn hok hI hw).mono ?_
 rintro e w' ⟨Er,rfl,⟨k1,rfl,k2⟩|⟨_,k2,_⟩|⟨k1,_,k2,rfl,k3⟩|⟨k1,k2,S',V',k3,k4,k5,⟨rfl,_,k6,k7⟩|⟨_,k6,_⟩⟩⟩
 ·exact ⟨⟨k2.mono hB,.inl ⟨1,rfl,.inl rfl,⟨fun _=>k1,fun _=>rfl⟩,fun h=>k1 h.1,(h.on hb).on k2⟩⟩,chg_of_below k2⟩
 ·rw [hf.1] at k2;cases k2
 ·exact ⟨⟨k3.mono hB,.inl ⟨11,rfl,.inr rfl,⟨fun h=>(by omega),fun h=>absurd k1 h⟩,fun h=>k2 h.2,(h.on hb).on k3⟩⟩,chg_of_below k3⟩
 ·exact ⟨⟨chg_below k6 (fun k hk=>hk.elim (h3 k) (fun e=>e▸h5)) hB,.inr ⟨k1,k2,rfl,S',⟨Gr F w w',V',m,0,k7,k3,fun k hk=>hk.elim (h3 k) (fun h=>Nat.le_trans hB h.1),h4,h5,Nat.le_refl _⟩,k5.free hf,k4⟩⟩,k6⟩
 ·exact absurd hf k6
theorem lload_c {B:Nat} {w:World} {s d:Nat} {S:St} {E:Ed} {R:Rf} {N:Nat} (h:LS B w s d S E R N) (hO:EdOk E) (hf:S.free) (x z:Int) (hx:I64 x) (hz:I64 z) :
  Calls Tryz.prog 27 #[.pointer (some ⟨s,0,none⟩),valA x z] w (LoadSay (E x z) w):=by
 obtain ⟨F,V,m,n,h1,h2,_⟩:=h.it
 exact load_c h1 h2 hO hf.1 x z hx hz
end Go.Proofs.YtlllmmceoeihkaaGreat
set_option maxRecDepth 20000
namespace Go.Proofs.YtlllmmceoeihkaaGreat
open Go.RowKit
def manyR (R:Rf) (E:Ed) (x z:Int):Nat:=match R x z with
 | some v=>v.toNat
 | none=>needS (encK (E x z)).length
def othN (R:Rf) (E:Ed) (X Y:Int) (slot:Nat) (n:Nat):Nat:=sumN (fun i=>if i=slot then 0 else manyR R E (ownX X i) (ownZ Y i)) n
def RfOk (R:Rf):Prop:=∀ x z v,R x z=some v->0<=v∧v<=1000
theorem rfok0:RfOk R0:=fun _ _ _ h=>by cases h
theorem encK_len (b:List Int):(encK b).length<=32788:=by
 unfold encK
 split
 ·exact Nat.zero_le _
 ·exact K.enc_len _
theorem manyR_le {R:Rf} (h:RfOk R) (E:Ed) (x z:Int):manyR R E x z<=1100:=by
 unfold manyR
 split
 ·rename_i v e
  have:=h x z v e
  omega
 ·have:=encK_len (E x z)
  unfold needS
  omega
theorem othN_le {R:Rf} (h:RfOk R) (E:Ed) (X Y:Int) (slot:Nat):∀ n,othN R E X Y slot n<=n*1100
 | 0=>Nat.le_refl _
 | n+1=>by
   have h1:=othN_le h E X Y slot n
   have h2:=manyR_le h E (ownX X n) (ownZ Y n)
   show othN R E X Y slot n+(if n=slot then 0 else _)<=_
   split <;> omega
theorem othN_skip (R:Rf) (E:Ed) (X Y:Int) (slot:Nat):othN R E X Y slot (slot+1)=othN R E X Y slot slot:=by
 show othN R E X Y slot slot+(if slot=slot then 0 else _)=_
 rw [if_pos rfl]
 rfl
theorem othN_next (R:Rf) (E:Ed) (X Y:Int) (slot n:Nat) (h:n≠slot):othN R E X Y slot (n+1)=othN R E X Y slot n+manyR R E (ownX X n) (ownZ Y n):=by
 show othN R E X Y slot n+(if n=slot then 0 else _)=_
 rw [if_neg h]
theorem rgs_many {F:Nat->Prop} {w:World} {g:Nat} {X Y:Int} {sp:List Sp} {d:List (List Int)} (h:RGs F w g ⟨X,Y,sp,d⟩) {k:Nat} (hk:k<sp.length) (hk':k<d.length):sp[k].1<256∧sp[k].2<256∧sp[k].2=needS d[k].length:=by
 have:=slotOk_fit (h.good.ok k hk hk')
 exact ⟨this.1,this.2.1,this.2.2.2.1⟩
set_option maxHeartbeats 4000000 in
theorem others_c {F:Nat->Prop} {w:World} {s d m n:Nat} {S:St} {V:List Bk} {R:Rf} (h:SO F w s d m n S V R) (hR:RfOk R) {E:Ed} {X Y:Int} (hX : -1099511627776<=X∧X<=1099511627776) (hY : -1099511627776<=Y∧Y<=1099511627776) {FR:Nat->Prop} {g:Nat} {sp:List Sp} (hG:RGs FR w g ⟨X,Y,sp,regD E X Y⟩) (slot:Nat) (hs:slot<16) :
  Calls Tryz.prog 59 #[.pointer (some ⟨s,0,none⟩),valA X Y,.int .i64 (slot:Int),.pointer (some ⟨g,0,none⟩)] w fun e w'=>Below w.heap.size w w'∧e = .returned (.int .i64 (othN R E X Y slot 16:Int)):=by
 obtain ⟨Post,hPost⟩:∃ Post:Ending->World->Prop,Post=fun e w'=>Below w.heap.size w w'∧e = .returned (.int .i64 (othN R E X Y slot 16:Int)):=⟨_,rfl⟩
 rw [<- hPost]
 have HP:Hid (∀ w',Below w.heap.size w w'->Post (.returned (.int .i64 (othN R E X Y slot 16:Int))) w'):=fun w' h=>by rw [hPost];exact ⟨h,rfl⟩
 clear hPost
 obtain ⟨hb0,k0⟩:=box_a w X Y
 have hG1:=hG.keep (fun k hk=>hb0.block k (hG.lt k hk)) hb0.size
 have HGd:Hid (∀ k (hk:k<sp.length),sp[k].1<256∧sp[k].2<256∧sp[k].2=needS (encK (E (ownX X k) (ownZ Y k))).length):=fun k hk=>by
  have h16:=hG.good.n
  have hkd:k<(regD E X Y).length:=by rw [regD_len];simp only at h16;omega
  have h1:=rgs_many hG hk hkd
  have h2:=regD_at E X Y (i:=k) (by simp only at h16;omega)
  rw [List.getD_eq_getElem?_getD,List.getElem?_eq_getElem hkd,Option.getD_some] at h2
  rw [<- h2]
  exact h1
 have HSl:Hid (sp.length=16):=hG.good.n
 obtain ⟨sl,hRB,_,hsp,_⟩:=hG1.it
 simp only at hsp
 have hlv:=live_c g X Y sl _ hRB
 rw [hsp] at hlv
 have HS:Hid (SO F w s d m n S V R):=h
 have HR:Hid (RfOk R):=hR
 clear h hG hG1 hRB hsp hR
 go_enter Tryz.func59,Tryz.ntmps59
 go_wp2_with fail
 refine hlv.mono ?_
 clear hlv
 rintro _ w1 ⟨hb1,rfl,hrow⟩
 have HB1:Hid (Below w.heap.size w w1):=hb0.trans (hb1.mono hb0.size)
 have HBx:Hid (w1.heap[w.heap.size]?=some (.cells #[.int .i64 X,.int .i64 Y] 39 (0,0))):=(hb1.block _ (Array.getElem?_eq_some_iff.1 k0).1).trans k0
 have HRow:Hid (SRow w1 (w.alloc (.cells #[.int .i64 X,.int .i64 Y] 39)).heap.size sp):=hrow
 clear hb0 hb1 k0 hrow
 generalize (w.alloc (.cells #[.int .i64 X,.int .i64 Y] 39)).heap.size=lv at *
 go_wp2
 go_loopw [9,17] (fun va vi wr=>∃ k:Nat,va = .int .i64 (othN R E X Y slot k:Int)∧vi = .int .i64 (k:Int)∧k<=16∧Hid (Below w1.heap.size w1 wr)) (fun _ vi _=>16-(intOf vi).toNat)
 case atStart=>exact ⟨0,rfl,rfl,Nat.zero_le _,Below.refl _ _⟩
 case round =>
  obtain ⟨k,rfl,rfl,hk,HI⟩:=hrel
  have hsb:=othN_le HR.out E X Y slot k
  by_cases hlt:k<16
  ·have hlt':(k:Int)<16:=by omega
   have hkl:k<sp.length:=by rw [HSl.out];exact hlt
   obtain ⟨c0,c1⟩:=(HRow.out.on HI.out).cells hkl
   have HM:=HGd.out k hkl
   generalize sp[k].1=f at *
   generalize sp[k].2=q at *
   have Hal:Hid (Below wr.heap.size wr (wr.alloc (.cells #[.int .i64 (f:Int),.int .i64 (q:Int)] 97))):=(Below.refl _ _).alloc (Nat.le_refl _) _
   have HA:Hid (Below w1.heap.size w1 (wr.alloc (.cells #[.int .i64 (f:Int),.int .i64 (q:Int)] 97))):=HI.out.trans (Hal.out.mono HI.out.size)
   have HN:Hid _:=heap_alloc_new wr (.cells #[.int .i64 (f:Int),.int .i64 (q:Int)] 97)
   by_cases hks:k=slot
   ·subst hks
    have hsk:=othN_skip R E X Y k
    clear HN Hal HM HI
    go_wp2
    go_roundw
    case rel=>exact ⟨k+1,by rw [hsk],by go_num,by omega,HA.out⟩
    case measure=>simp [intOf];omega
   ·have hks':¬ (k:Int)=(slot:Int):=by omega
    have hsk:=othN_next R E X Y slot k hks
    have hml:=manyR_le HR.out E (ownX X k) (ownZ Y k)
    have HMy:Hid (∀ r,R (ownX X k) (ownZ Y k)=r->manyR R E (ownX X k) (ownZ Y k)=match r with | some v=>v.toNat | none=>q):=fun r hr=>by
     unfold manyR
     rw [hr]
     cases r with
     | some v=>rfl
     | none=>exact HM.2.2.symm
    have HRv:Hid (∀ v,R (ownX X k) (ownZ Y k)=some v->0<=v∧v<=1000):=HR.out _ _
    have hq:q<256:=HM.2.1
    clear HM
    go_upto_region 6 with fail
    obtain ⟨xb,hxb⟩:∃ xb,xb=wr.heap.size:=⟨_,rfl⟩
    rw [<- hxb] at HN ⊢
    generalize wr.alloc (.cells #[.int .i64 (f:Int),.int .i64 (q:Int)] 97)=w2 at *
    clear c0 c1 HI hxb Hal
    have HO:=owner_c X Y k hX hY hlt
    have HOw:Hid _:=HO
    have Hio:Hid (I64 (ownX X k)∧I64 (ownZ Y k)):=⟨⟨by unfold ownX;omega,by unfold ownX;omega⟩,⟨by unfold ownZ;omega,by unfold ownZ;omega⟩⟩
    clear HO
    generalize ownX X k=ox at *
    generalize ownZ Y k=oz at *
    refine Z.region_L (fun u=>Below w2.heap.size w2 u) 99 (by kernel_rfl) ?_
    have h_va:(fun u=>Below w2.heap.size w2 u) w2.drew:=(⟨rfl,rfl,rfl,Nat.le_refl _,fun _ _=>rfl⟩:Below w2.heap.size w2 w2.drew)
    have hne:Nonempty (Z.Sub (fun u=>Below w2.heap.size w2 u)):=⟨⟨_,h_va⟩⟩
    generalize w2.drew=va at *
    have HS2:Hid (∀ u,Below w2.heap.size w2 u->SO F u s d m n S V R):=fun u hu=>HS.out.on (HB1.out.trans ((HA.out.trans (hu.mono HA.out.size)).mono HB1.out.size))
    have q0:∀ s':Z.Sub (fun u=>Below w2.heap.size w2 u),s'.w.cell? ⟨s,2,none⟩=some (.map (some m)):=fun s'=>by
     obtain ⟨j,hj,_⟩:=(HS2.out _ s'.ok).hd
     rw [cell_of_row _ s 2 _ 92 (0,0) hj];rfl
    have HX2:Hid (∀ u,Below w2.heap.size w2 u->u.heap[w.heap.size]?=some (.cells #[.int .i64 X,.int .i64 Y] 39 (0,0))):=fun u hu=>((HA.out.trans (Below.mono hu HA.out.size)).block _ (Array.getElem?_eq_some_iff.1 HBx.out).1).trans HBx.out
    have q1:∀ s':Z.Sub (fun u=>Below w2.heap.size w2 u),s'.w.cell? ⟨w.heap.size,0,none⟩=some (.int .i64 X):=fun s'=>by rw [cell_of_row _ _ 0 _ 39 (0,0) (HX2.out _ s'.ok)];rfl
    have q2:∀ s':Z.Sub (fun u=>Below w2.heap.size w2 u),s'.w.cell? ⟨w.heap.size,1,none⟩=some (.int .i64 Y):=fun s'=>by rw [cell_of_row _ _ 1 _ 39 (0,0) (HX2.out _ s'.ok)];rfl
    obtain ⟨r,hr⟩:∃ r,R ox oz=r:=⟨_,rfl⟩
    have HMr:Hid _:=HMy.out r hr
    have HRv2:Hid (∀ v,r=some v->0<=v∧v<=1000):=fun v hv=>HRv.out v (hr.trans hv)
    have Hr:Hid (R ox oz=r):=hr
    clear hr HMy HRv
    refine Z.gen_L (by intro d v c a w h;cases d <;> exact h) (fun QX HQP HQX=>?_)
    refine Z.tk 0 rfl HQP h_va fun K hK=>?_;go_simp;refine hK _ ?_;clear hK K
    refine Z.tk 1 rfl HQP h_va fun K hK=>?_;go_simp;refine hK _ ?_;clear hK K
    refine Z.tk 2 rfl HQP h_va fun K hK=>?_;go_simp;refine hK _ ?_;clear hK K
    refine Z.tk 3 rfl HQP h_va fun K hK=>?_;go_simp;refine hK _ ?_;clear hK K
    refine Z.tk 4 rfl HQP h_va fun K hK=>?_;go_simp;refine hK _ ?_;clear hK K
    refine Z.ol 5 rfl fun K hK=>?_
    go_simp
    refine hK.out _ _ (fun _=>h_va) ?_
    clear hK K
    refine Z.ol 6 rfl fun K hK=>?_
    go_simp
    go_simp
    refine (HOw.out _).mono ?_
    rintro _ v1 ⟨rfl,hb1⟩
    have h_v1:(fun u=>Below w2.heap.size w2 u) v1:=Below.trans h_va (hb1.mono (Below.size h_va))
    have hlk:=(HS2.out v1 h_v1).mp.look Hio.out.1 Hio.out.2
    rw [Hr.out] at hlk
    refine hK.out _ _ (fun _=>h_v1) ?_
    clear hK K hb1
    refine Z.ol 7 rfl fun K hK=>?_
    go_simp
    refine hK.out _ _ (fun _=>h_v1) ?_
    clear hK K
    refine Z.ol 8 rfl fun K hK=>?_
    go_simp
    refine hK.out _ _ (fun _=>h_v1) ?_
    clear hK K
    refine Z.tk 9 rfl HQP h_v1 fun K hK=>?_;go_simp;refine hK _ ?_;clear hK K
    refine Z.tk 10 rfl HQP h_v1 fun K hK=>?_;go_simp;refine hK _ ?_;clear hK K
    refine Z.ol 11 rfl fun K hK=>?_
    go_simp
    refine hK.out _ _ (fun _=>h_v1) ?_
    clear hK K
    refine Z.ol 12 rfl fun K hK=>?_
    go_simp
    refine hK.out _ _ (fun _=>h_v1) ?_
    clear hK K
    refine Z.done_L (by kernel_rfl) ?_ _
    refine HQX.out _ _ ?_
    clear HQX HQP QX
    have HA2:Hid (Below w1.heap.size w1 v1):=HA.out.trans (Below.mono h_v1 HA.out.size)
    have hN:v1.heap[xb]?=_:=(Below.block h_v1 xb (Array.getElem?_eq_some_iff.1 HN.out).1).trans HN.out
    have hx1:v1.cell? ⟨xb,1,none⟩=some (.int .i64 (q:Int)):=by rw [cell_of_row _ _ 1 _ 97 (0,0) hN];rfl
    clear hlk q0 q1 q2 hne HX2 HS2 h_v1 hN HN HA HOw Hio Hr
    go_simp
    cases r with
    | none =>
      have hmv:=HMr.out
      simp only at hmv
      rw [hmv] at hsk hml
      clear HRv2 HMr hmv
      go_wp2
      go_roundw
      case rel=>exact ⟨k+1,by rw [hsk];go_num,by go_num,by omega,HA2.out⟩
      case measure=>simp [intOf];omega
    | some v =>
      have hmv:=HMr.out
      simp only at hmv
      have hv:=HRv2.out v rfl
      obtain ⟨v',rfl⟩:=Int.eq_ofNat_of_zero_le hv.1
      rw [Int.toNat_natCast] at hmv
      rw [hmv] at hsk hml
      clear HRv2 HMr hmv
      simp only [Option.getD_some,Option.isSome_some]
      go_wp2
      go_roundw
      case rel=>exact ⟨k+1,by rw [hsk];go_num,by go_num,by omega,HA2.out⟩
      case measure=>simp [intOf];omega
  ·obtain rfl:k=16:=by omega
   have R:=HP.out wr (HB1.out.trans (HI.out.mono HB1.out.size))
   clear HP HI HS HR HGd HSl HB1 HBx HRow
   go_wp2
   exact R
end Go.Proofs.YtlllmmceoeihkaaGreat
