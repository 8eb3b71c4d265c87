/-
  The program's region: place.
  The program's region: read.
  The program's region: Open.
  The program's region: Plan.
  The landed region is one: an RSpec.
-/
import Derived.Test.YtlllmmceoeihkaaGreatNhdr
import Derived.BigQuiet
import Derived.Deep.QuietTactic
set_option maxRecDepth 20000
namespace Go.Proofs.YtlllmmceoeihkaaGreat
open Go.RowKit
def zS:Sm:=⟨0,0,none,0,[]⟩
def mkS (h:En):Sm:=⟨h.1.1,h.1.2,none,0,[]⟩
theorem results_row_tmp {P:Program} {fn:Func} {p u:Tmp} {ty:TypeId} (h:fn.results = #[.cell p ty,.tmp u]) (tmps:Array Value) (w:World) (g:Nat) (t:TypeId) (cs:Array Value) (fr:Nat×Nat) (d:TypeDesc)
  (hp:tmps.getD p undef = .pointer (some ⟨g,0,none⟩)) (hg:w.heap[g]?=some (.cells cs t fr))
  (hu:P.underlying ty=some d) (hd:(match d with | .struct _ | .array _ _=>true | _=>false)=true) (hi:(P.info? ty).map (·.size)=some cs.size) :
  (results fn tmps).run P w = .ok (.tuple #[.agg cs,tmps.getD u undef]) w:=by
 rw [results_cell_tmp h,hp]
 simp [asAddr,run_loadVar_row w g t ty cs fr d hg hu hd hi,Result.andThen]
def PlaceSay (g:Nat) (x z:Int) (hs:List En) (w:World) (e:Ending) (w':World):Prop:=Chg (fun k=>k=g) w w' ∧
 ((¬ HdOk hs∧e = .returned (.tuple #[.agg (lvals (List.replicate 16 0)).toArray,.int .i64 4]))∨(HdOk hs∧e = .returned (.tuple #[.agg (lvals (hs.map (·.2))).toArray,.int .i64 0])∧RB w' g x z (hs.map mkS)))
structure Pli (w:World) (g:Nat) (x z:Int) (hs:List En) (lb sg tb j:Nat) (wr:World):Prop where
 rg:RB wr g x z ((hs.map mkS).take j++List.replicate (16-j) zS)
 ln:LRow wr lb ((hs.map (·.2)).take j++List.replicate (16-j) 0)
 rs:LRow wr w.heap.size (List.replicate 16 0)
 sp:Q.PS wr sg tb 2 (tkR ((hs.take j).map (·.1)))
 ok:HdOk (hs.take j)
 chg:Chg (fun k=>k=g) w wr
structure Ap (w:World) (g lb sg tb:Nat):Prop where
 g:g<w.heap.size
 l:w.heap.size<lb
 s:lb<sg
 t:lb<tb
theorem Pli.on {w:World} {g:Nat} {x z:Int} {hs:List En} {lb sg tb j:Nat} {wr w':World} (h:Pli w g x z hs lb sg tb j wr) (hb:Below wr.heap.size wr w'):Pli w g x z hs lb sg tb j w' :=
 ⟨h.rg.on hb,h.ln.on hb,h.rs.on hb,h.sp.on hb,h.ok,h.chg.trans (Chg.of_below (F:=fun k=>k=g) hb) (fun _ hj=>.inl hj)⟩
theorem pad_same {α:Type} {L:List α} {z:α} {j:Nat} (hn:L.length=16) (e:L[j]?=some z):L.take j++List.replicate (16-j) z=L.take (j+1)++List.replicate (16-(j+1)) z:=by
 have hlt:j<L.length:=(List.getElem?_eq_some_iff.1 e).1
 rw [<- pad_set hn e]
 apply List.ext_getElem?
 intro i
 rw [List.getElem?_set]
 split
 ·rename_i h
  subst h
  rw [if_pos (by rw [List.length_append,List.length_take,List.length_replicate];omega),List.getElem?_append_right (by rw [List.length_take];omega),List.getElem?_replicate,if_pos (by rw [List.length_take];omega)]
 ·rfl
set_option maxHeartbeats 1000000 in
theorem place_c (g:Nat) (x z:Int) (a:Option Addr) (c:Nat) (hb:List Int) (w:World) (H:RB w g x z (List.replicate 16 zS)) (hB:Bytes w a 64 hb) (hc:64<=c) :
  Calls Tryz.prog 89 #[.pointer (some ⟨g,0,none⟩),.slice a 64 c] w (PlaceSay g x z (entS hb) w):=by
 obtain ⟨Post,hPost⟩:∃ Post:Ending->World->Prop,Post=PlaceSay g x z (entS hb) w:=⟨_,rfl⟩
 rw [<- hPost]
 obtain ⟨hs,hhs⟩:∃ hs,hs=entS hb:=⟨_,rfl⟩
 have HPn:Hid (∀ w',¬ HdOk hs->Chg (fun k=>k=g) w w'->Post (.returned (.tuple #[.agg (lvals (List.replicate 16 0)).toArray,.int .i64 4])) w'):=fun w' h1 h2=>by rw [hPost,<- hhs];exact ⟨h2,.inl ⟨h1,rfl⟩⟩
 have HPy:Hid (∀ w',HdOk hs->Chg (fun k=>k=g) w w'->RB w' g x z (hs.map mkS)->Post (.returned (.tuple #[.agg (lvals (hs.map (·.2))).toArray,.int .i64 0])) w'):=fun w' h1 h2 h3=>by rw [hPost,<- hhs];exact ⟨h2,.inr ⟨h1,rfl,h3⟩⟩
 have Hhl:Hid (hs.length=16):=by show _=_;rw [hhs];exact entN_len hb
 have Hhe:Hid (∀ k (h:k<hs.length),hs[k]=(((hb.getD (4*k) 0).toNat,(hb.getD (4*k+1) 0).toNat),(hb.getD (4*k+2) 0).toNat+256*(hb.getD (4*k+3) 0).toNat)):=fun k h=>by
  subst hhs
  exact entN_at hb k (by rw [entN_len] at h;exact h)
 clear hPost hhs
 have HB:Hid (RB w g x z (List.replicate 16 zS)):=H
 have HY:Hid (Bytes w a 64 hb):=hB
 have hgl:=H.lt
 obtain ⟨ag,ao,_,rfl,_⟩:=hB.get 0 (by omega)
 clear H hB
 have e16:(lvals (List.replicate 16 0)).toArray = #[.int .i64 0,.int .i64 0,.int .i64 0,.int .i64 0,.int .i64 0,.int .i64 0,.int .i64 0,.int .i64 0,.int .i64 0,.int .i64 0,.int .i64 0,.int .i64 0,.int .i64 0,.int .i64 0,.int .i64 0,.int .i64 0]:=by rfl
 obtain ⟨Z16,hZ16⟩:∃ Z16:Array Value,Z16 = #[.int .i64 0,.int .i64 0,.int .i64 0,.int .i64 0,.int .i64 0,.int .i64 0,.int .i64 0,.int .i64 0,.int .i64 0,.int .i64 0,.int .i64 0,.int .i64 0,.int .i64 0,.int .i64 0,.int .i64 0,.int .i64 0]:=⟨_,rfl⟩
 go_enter Tryz.func89,Tryz.ntmps89
 go_wp2_with fail
 rw [<- hZ16] at e16 ⊢
 have HZ:Hid ((lvals (List.replicate 16 0)).toArray=Z16):=e16
 clear e16
 have hb1:Below w.heap.size w (w.alloc (.cells Z16 162)):=(Below.refl _ _).alloc (Nat.le_refl _) _
 have hr1:LRow (w.alloc (.cells Z16 162)) w.heap.size (List.replicate 16 0):=by show _=_;rw [HZ.out];exact heap_alloc_new w _
 have hs1:(w.alloc (.cells Z16 162)).heap.size=w.heap.size+1:=by simp
 generalize w.alloc (.cells Z16 162)=w1 at *
 have hb2:Below w1.heap.size w1 (w1.alloc (.cells Z16 162)):=(Below.refl _ _).alloc (Nat.le_refl _) _
 have hr2:LRow (w1.alloc (.cells Z16 162)) w1.heap.size (List.replicate 16 0):=by show _=_;rw [HZ.out];exact heap_alloc_new w1 _
 have hs2:(w1.alloc (.cells Z16 162)).heap.size=w1.heap.size+1:=by simp
 generalize w1.alloc (.cells Z16 162)=w2 at *
 have hb12:Below w.heap.size w w2:=hb1.trans (hb2.mono hb1.size)
 have HB2:Hid (RB w2 g x z (List.replicate 16 zS)):=HB.out.on hb12
 refine (room_c g x z (List.replicate 16 zS) w2 HB2.out (fun s hs=>by rw [List.eq_of_mem_replicate hs];exact ⟨by decide,by decide⟩)).mono ?_
 rintro _ w3 ⟨hb3,sg,tb,rfl,hsg,htb,hS⟩
 have emk:marks (List.replicate 40 false) ((List.replicate 16 zS).map Sm.sp)=tkR ((hs.take 0).map (·.1)):=by
  rw [marks_is ⟨fun s hs=>by rw [List.map_replicate] at hs;rw [List.eq_of_mem_replicate hs];exact .inl rfl,fun i=>by
   rw [cnt_zero (fun s hs h2=>by rw [List.map_replicate] at hs;rw [List.eq_of_mem_replicate hs] at h2;simp only [zS,Sm.sp] at h2;omega)];omega⟩]
  apply List.ext_getElem?
  intro i
  rw [tkR_get,tkR_get,cnt_zero (fun s hs h2=>by rw [List.map_replicate] at hs;rw [List.eq_of_mem_replicate hs] at h2;simp only [zS,Sm.sp] at h2;omega)]
  rfl
 rw [emk] at hS
 have HP0:Hid (Pli w g x z hs w1.heap.size sg tb 0 w3):=⟨HB2.out.on hb3,hr2.on hb3,(hr1.on hb2).on hb3,hS,⟨fun e he=>by simp at he,fun i=>by simp [cnt]⟩,Chg.of_below (hb12.trans (hb3.mono hb12.size))⟩
 have HA:Hid (Ap w g w1.heap.size sg tb):=⟨hgl,by omega,by omega,by omega⟩
 rw [hs1] at HP0 HA
 obtain ⟨lb,hlb⟩:∃ lb,lb=w.heap.size+1:=⟨_,rfl⟩
 rw [<- hlb] at HP0 HA ⊢
 clear hb1 hr1 hs1 hb2 hr2 hs2 hb12 hb3 hsg htb hS emk HB2 hlb
 go_wp2_with fail
 go_loopw [14] (fun v wr=>∃ (j:Nat),j<=16∧v = .int .i64 (j:Int)∧Hid (Pli w g x z hs lb sg tb j wr)) (fun v _=>16-(intOf v).toNat)
 case atStart=>exact ⟨0,Nat.zero_le _,by go_num,HP0⟩
 case round =>
  clear HP0
  obtain ⟨j,hj,rfl,HI⟩:=hrel
  by_cases hlt:j<16
  ·have hlt':(j:Int)<16:=by omega
   have hjl:j<hs.length:=by rw [Hhl.out];exact hlt
   have hbl:=HY.out.n
   have hfit:∀ i,i<4->∃ b:Nat,b<256∧hb.getD (4*j+i) 0=(b:Int):=fun i hi=>by
    have hlen:4*j+i<hb.length:=by omega
    have:=HY.out.fit hb[4*j+i] (List.getElem_mem hlen)
    refine ⟨hb[4*j+i].toNat,by omega,?_⟩
    rw [List.getD_eq_getElem?_getD,List.getElem?_eq_getElem hlen]
    simp only [Option.getD_some]
    omega
   obtain ⟨B0,hB0,g0⟩:=hfit 0 (by omega)
   obtain ⟨B1,hB1,g1⟩:=hfit 1 (by omega)
   obtain ⟨B2,hB2,g2⟩:=hfit 2 (by omega)
   obtain ⟨B3,hB3,g3⟩:=hfit 3 (by omega)
   have He:Hid (hs[j]=((B0,B1),B2+256*B3)):=by
    show _=_
    rw [Hhe.out j hjl,show hb.getD (4*j) 0=(B0:Int) from g0,g1,g2,g3]
    simp
   have Hx4:Hid ((hb.drop (4*j)).take 4=[(B0:Int),(B1:Int),(B2:Int),(B3:Int)]):=by
    show _=_
    apply List.ext_getElem?
    intro i
    rw [List.getElem?_take]
    have key:∀ i,i<4->hb[4*j+i]?=some (hb.getD (4*j+i) 0):=fun i hi=>by
     rw [List.getD_eq_getElem?_getD,List.getElem?_eq_getElem (show 4*j+i<hb.length by omega)]
     rfl
    by_cases hi:i<4
    ·rw [if_pos hi,List.getElem?_drop,key i hi]
     match i,hi with
     | 0,_=>rw [g0];rfl
     | 1,_=>rw [g1];rfl
     | 2,_=>rw [g2];rfl
     | 3,_=>rw [g3];rfl
    ·rw [if_neg hi,List.getElem?_eq_none (by simp;omega)]
   clear g0 g1 g2 g3 hfit
   have HYw:Hid (Bytes wr (some ⟨ag,ao,none⟩) 64 hb):=bytes_chg HB.out HY.out HI.out.chg
   have hbA:Below wr.heap.size wr (wr.alloc (.cells #[.int .u8 0,.int .u8 0,.int .u8 0,.int .u8 0] 198)):=(Below.refl _ _).alloc (Nat.le_refl _) _
   have HbA:Hid (Below wr.heap.size wr ((wr.alloc (.cells #[.int .u8 0,.int .u8 0,.int .u8 0,.int .u8 0] 198)).drewN 1)):=⟨hbA.os,hbA.tape,hbA.output,hbA.size,hbA.block⟩
   have HrA:Hid (((wr.alloc (.cells #[.int .u8 0,.int .u8 0,.int .u8 0,.int .u8 0] 198)).drewN 1).heap[wr.heap.size]?=some (.cells (vals [0,0,0,0]) 198 (0,0))):=heap_alloc_new wr _
   have hcut:=cut_tail ag ao 64 c (4*j) (by omega) (by omega)
   obtain ⟨I4,hI4⟩:∃ I4:Int,I4=((4*j:Nat):Int):=⟨_,rfl⟩
   rw [<- hI4] at hcut
   have hmul:IntKind.i64.wrap ((j:Int)*4)=I4:=by rw [IntKind.wrap_i64];omega
   clear hI4
   have hcut2:∀ w',(Instr.sliceAt 198 (.pointer (some ⟨wr.heap.size,0,none⟩)) none none none).run Tryz.prog w' = .ok (.slice (some ⟨wr.heap.size,0,none⟩) 4 4) w':=fun w'=>by kernel_rfl
   clear hbA
   go_wp2_with fail
   generalize wr.alloc (.cells #[.int .u8 0,.int .u8 0,.int .u8 0,.int .u8 0] 198)=wa at *
   refine wp_region_tail 5 (by kernel_rfl) (by kernel_rfl) ?_
   simp only [List.take_succ_cons,List.take_zero,List.drop_succ_cons,List.drop_zero]
   repeat still_step
   refine wpStill_nil ?_
   generalize wa.drewN 1=wb at *
   refine wpList_copy_most rfl (.tmp 17) (.tmp 21) rfl wr.heap.size 4 4 _ _ _ rfl rfl [0,0,0,0] _ 198 HrA.out rfl (bytes_tail (HYw.out.later HbA.out) (show 4*j<=64 by omega)) wr.heap.size wr HbA.out (Nat.le_refl _) ?_
   intro w2 y HR2 hb2
   rw [Hx4.out,List.drop_of_length_le (show ([0,0,0,0]:List Int).length<=64-4*j by simp;omega),List.append_nil] at HR2
   have HI2:Hid (Pli w g x z hs lb sg tb j w2):=HI.out.on hb2
   have hbk:lb<wr.heap.size:=HI.out.ln.lt
   have HtbW:Hid (tb<wr.heap.size):=(Array.getElem?_eq_some_iff.1 HI.out.sp.row).1
   have x0:w2.cell? ⟨wr.heap.size,0,none⟩=some (.int .u8 (B0:Int)):=by rw [cell_of_row _ _ _ _ 198 (0,0) HR2.out];rfl
   have x1:w2.cell? ⟨wr.heap.size,1,none⟩=some (.int .u8 (B1:Int)):=by rw [cell_of_row _ _ _ _ 198 (0,0) HR2.out];rfl
   have x2:w2.cell? ⟨wr.heap.size,2,none⟩=some (.int .u8 (B2:Int)):=by rw [cell_of_row _ _ _ _ 198 (0,0) HR2.out];rfl
   have x3:w2.cell? ⟨wr.heap.size,3,none⟩=some (.int .u8 (B3:Int)):=by rw [cell_of_row _ _ _ _ 198 (0,0) HR2.out];rfl
   have heq:=four_eq (B0:Int) (B1:Int) (B2:Int) (B3:Int)
   clear HR2 hb2 HI HYw HbA HrA Hx4 hcut hcut2 hmul
   by_cases hz:B0=0∧B1=0∧B2=0∧B3=0
   ·obtain ⟨rfl,rfl,rfl,rfl⟩:=hz
    have hbt:([((0:Nat):Int),((0:Nat):Int),((0:Nat):Int),((0:Nat):Int)] == ([0,0,0,0]:List Int))=true:=by decide
    obtain ⟨hok,htk⟩:=place_zero hjl HI2.out.ok He.out
    have HI3:Hid (Pli w g x z hs lb sg tb (j+1) w2):=by
     have hz1:(hs.map mkS)[j]?=some zS:=by rw [List.getElem?_map,List.getElem?_eq_getElem hjl,He.out];rfl
     have hz2:(hs.map (fun (h:En)=>h.2))[j]?=some 0:=by rw [List.getElem?_map,List.getElem?_eq_getElem hjl,He.out];rfl
     refine ⟨?_,?_,HI2.out.rs,by rw [htk];exact HI2.out.sp,hok,HI2.out.chg⟩
     ·have:=HI2.out.rg
      rwa [pad_same (by rw [List.length_map];exact Hhl.out) hz1] at this
     ·have:=HI2.out.ln
      rwa [pad_same (by rw [List.length_map];exact Hhl.out) hz2] at this
    have heq0:=four_eq 0 0 0 0
    have hbt0:(([0,0,0,0]:List Int) == [0,0,0,0])=true:=by decide
    clear HI2 hok htk HPn HPy heq hbt
    go_wp2
    go_roundw
    case rel=>exact ⟨j+1,by omega,by go_num,HI3⟩
    case measure=>simp [intOf];omega
   ·have hbt:([(B0:Int),(B1:Int),(B2:Int),(B3:Int)] == ([0,0,0,0]:List Int))=false:=by
     simp only [beq_eq_false_iff_ne,ne_eq,List.cons.injEq,and_true]
     omega
    have hb3:Below w2.heap.size w2 (w2.alloc (.cells #[.int .i64 (B0:Int),.int .i64 (B1:Int)] 97)):=(Below.refl _ _).alloc (Nat.le_refl _) _
    have y2:=cell_below x2 hb3
    have y3:=cell_below x3 hb3
    have hwn:wr.heap.size≠w2.heap.size:=by have:=World.block_lt_of_cell? w2 _ x0;simp only at this;omega
    obtain ⟨NN,hNN⟩:∃ NN,NN=B2+256*B3:=⟨_,rfl⟩
    have hor:bits .or .i64 (B2:Int) ((B3:Int)*256)=(NN:Int):=by
     have:=or_two B2 B3 hB2 hB3
     rw [<- hNN,show ((B3*256:Nat):Int)=(B3:Int)*256 by omega] at this
     exact this
    rw [<- hNN] at He
    have hNb:NN<65536:=by omega
    have Hz:Hid (((B0,B1),NN)≠((0,0),0)):=fun h=>hz (by
     simp only [Prod.mk.injEq] at h
     omega)
    have Hgen:Hid (∀ k,Pli w g x z hs lb sg tb j ((w2.alloc (.cells #[.int .i64 (B0:Int),.int .i64 (B1:Int)] 97)).drewN k)):=fun k=>by
     have h:=HI2.out.on hb3
     exact ⟨h.rg.keep rfl,h.ln,h.rs,⟨h.sp.head,h.sp.row,h.sp.ne,h.sp.le,h.sp.few⟩,h.ok,⟨h.chg.os,h.chg.tape,h.chg.output,h.chg.size,h.chg.block⟩⟩
    have HI3:Hid (Pli w g x z hs lb sg tb j (w2.alloc (.cells #[.int .i64 (B0:Int),.int .i64 (B1:Int)] 97)).drew):=Hgen.out 1
    have hnb:=heap_alloc_new w2 (.cells #[.int .i64 (B0:Int),.int .i64 (B1:Int)] 97)
    have Hbx:Hid ((w2.alloc (.cells #[.int .i64 (B0:Int),.int .i64 (B1:Int)] 97)).drew.cell? ⟨w2.heap.size,0,none⟩=some (.int .i64 (B0:Int))∧(w2.alloc (.cells #[.int .i64 (B0:Int),.int .i64 (B1:Int)] 97)).drew.cell? ⟨w2.heap.size,1,none⟩=some (.int .i64 (B1:Int))):=⟨by show (w2.alloc _).cell? _=_;rw [cell_of_row _ _ _ _ 97 (0,0) hnb];rfl,by show (w2.alloc _).cell? _=_;rw [cell_of_row _ _ _ _ 97 (0,0) hnb];rfl⟩
    have HtbL:Hid (tb<wr.heap.size):=HtbW
    have hbxl:wr.heap.size<w2.heap.size:=by have:=World.block_lt_of_cell? w2 _ x0;simp only at this;omega
    clear hNN hz Hgen hnb HI2 hb3
    by_cases hn1:1<=NN
    ·have hn1':¬ (NN:Int)<1:=by omega
     by_cases hm:B1=needS NN
     ·cases hmay:Q.mayB 2 (tkR ((hs.take j).map (·.1))) (B0:Int) (B1:Int) false with
      | true =>
        obtain ⟨hok,hdo⟩:=place_ok hjl HI3.out.ok He.out hn1 hm hmay
        have Her:Hid (Q.erS 2 (tkR ((hs.take j).map (·.1))) (B0:Int) (B1:Int) false=0):=by show _=_;unfold Q.erS;rw [hmay];rfl
        have Hok:Hid (HdOk (hs.take (j+1))):=hok
        have Hdo:Hid (Q.doS 2 (tkR ((hs.take j).map (·.1))) (B0:Int) (B1:Int) false true=tkR ((hs.take (j+1)).map (·.1))):=hdo
        have Hm:Hid (B1=needS NN):=hm
        clear hok hdo hmay hm HPn HPy
        go_wp2_with fail
        clear x0 x1 x2 x3 y2 y3 hor
        generalize (w2.alloc (.cells #[.int .i64 (B0:Int),.int .i64 (B1:Int)] 97))=w3 at *
        obtain ⟨bx,hbx⟩:∃ bx,bx=w2.heap.size:=⟨_,rfl⟩
        rw [<- hbx] at Hbx hbxl ⊢
        clear hbx
        have Htb:Hid (tb<bx):=Nat.lt_of_lt_of_le HtbL.out (Nat.le_of_lt hbxl)
        refine region_L (fun w':World=>w'.cell? ⟨bx,0,none⟩=some (.int .i64 (B0:Int))∧w'.cell? ⟨bx,1,none⟩=some (.int .i64 (B1:Int))) 15 (by kernel_rfl) ?_
        generalize w3.drew=va at *
        have hHeld:(fun w':World=>w'.cell? ⟨bx,0,none⟩=some (.int .i64 (B0:Int))∧w'.cell? ⟨bx,1,none⟩=some (.int .i64 (B1:Int))) _:=Hbx.out
        have hne:Nonempty (Sub (fun w':World=>w'.cell? ⟨bx,0,none⟩=some (.int .i64 (B0:Int))∧w'.cell? ⟨bx,1,none⟩=some (.int .i64 (B1:Int)))):=⟨⟨_,hHeld⟩⟩
        have k0:∀ s:Sub (fun w':World=>w'.cell? ⟨bx,0,none⟩=some (.int .i64 (B0:Int))∧w'.cell? ⟨bx,1,none⟩=some (.int .i64 (B1:Int))),s.w.cell? ⟨bx,0,none⟩=some (.int .i64 (B0:Int)):=fun s=>s.ok.1
        have k1:∀ s:Sub (fun w':World=>w'.cell? ⟨bx,0,none⟩=some (.int .i64 (B0:Int))∧w'.cell? ⟨bx,1,none⟩=some (.int .i64 (B1:Int))),s.w.cell? ⟨bx,1,none⟩=some (.int .i64 (B1:Int)):=fun s=>s.ok.2
        refine tn 0 rfl (fun _ _ _ _ h=>h) hHeld fun K hK=>?_;go_simp;refine hK _ ?_;clear hK K
        refine tn 1 rfl (fun _ _ _ _ h=>h) hHeld fun K hK=>?_;go_simp;refine hK _ ?_;clear hK K
        refine tn 2 rfl (fun _ _ _ _ h=>h) hHeld fun K hK=>?_;go_simp;refine hK _ ?_;clear hK K
        refine tn 3 rfl (fun _ _ _ _ h=>h) hHeld fun K hK=>?_;go_simp;refine hK _ ?_;clear hK K
        refine tn 4 rfl (fun _ _ _ _ h=>h) hHeld fun K hK=>?_;go_simp;refine hK _ ?_;clear hK K
        refine tn 5 rfl (fun _ _ _ _ h=>h) hHeld fun K hK=>?_;go_simp;refine hK _ ?_;clear hK K
        refine ol 6 rfl fun K hK=>?_
        go_simp
        refine (need_n NN (by omega) va).mono ?_
        rintro _ vq ⟨rfl,hw⟩
        replace hw:=hw.symm
        subst hw
        rw [<- Hm.out]
        replace hHeld:(fun w':World=>w'.cell? ⟨bx,0,none⟩=some (.int .i64 (B0:Int))∧w'.cell? ⟨bx,1,none⟩=some (.int .i64 (B1:Int))) _:=hHeld
        refine hK.out _ _ (fun _=>hHeld) ?_
        clear hK K
        refine tn 7 rfl (fun _ _ _ _ h=>h) hHeld fun K hK=>?_;go_simp;refine hK _ ?_;clear hK K
        refine tn 8 rfl (fun _ _ _ _ h=>h) hHeld fun K hK=>?_;go_simp;refine hK _ ?_;clear hK K
        refine tn 9 rfl (fun _ _ _ _ h=>h) hHeld fun K hK=>?_;go_simp;refine hK _ ?_;clear hK K
        refine tn 10 rfl (fun _ _ _ _ h=>h) hHeld fun K hK=>?_;go_simp;refine hK _ ?_;clear hK K
        refine tn 11 rfl (fun _ _ _ _ h=>h) hHeld fun K hK=>?_;go_simp;refine hK _ ?_;clear hK K
        refine ol 12 rfl fun K hK=>?_
        go_simp
        refine (Q.mark_c sg tb 2 _ (B0:Int) (B1:Int) ⟨by omega,by omega⟩ ⟨by omega,by omega⟩ va HI3.out.sp).mono ?_
        rintro _ vc ⟨rfl,hSm,hCm⟩
        rw [Her.out]
        replace hHeld:(fun w':World=>w'.cell? ⟨bx,0,none⟩=some (.int .i64 (B0:Int))∧w'.cell? ⟨bx,1,none⟩=some (.int .i64 (B1:Int))) _:=⟨(World.cell?_of_block (a:=⟨bx,0,none⟩) (hCm.block bx (World.block_lt_of_cell? va _ hHeld.1) (by have:=HI3.out.ln.lt;have:=Htb.out;omega))).trans hHeld.1,(World.cell?_of_block (a:=⟨bx,1,none⟩) (hCm.block bx (World.block_lt_of_cell? va _ hHeld.2) (by have:=Htb.out;omega))).trans hHeld.2⟩
        refine hK.out _ _ (fun _=>hHeld) ?_
        clear hK K
        refine tn 13 rfl (fun _ _ _ _ h=>h) hHeld fun K hK=>?_;go_simp;refine hK _ ?_;clear hK K
        refine tn 14 rfl (fun _ _ _ _ h=>h) hHeld fun K hK=>?_;go_simp;refine hK _ ?_;clear hK K
        refine done_L (by kernel_rfl) ?_ _
        go_simp
        have hgt:g≠tb:=by have:=HA.out.g;have:=HA.out.l;have:=HA.out.t;omega
        have hlt2:lb≠tb:=by have:=HA.out.t;omega
        have hrt:w.heap.size≠tb:=by have:=HA.out.l;have:=HA.out.t;omega
        have Hrg:Hid (RB vc g x z ((hs.map mkS).take j++List.replicate (16-j) zS)):=HI3.out.rg.keep (hCm.block g HI3.out.rg.lt hgt)
        have Hln:Hid (LRow vc lb ((hs.map (·.2)).take j++List.replicate (16-j) 0)):=(hCm.block lb HI3.out.ln.lt hlt2).trans HI3.out.ln
        have Hrs:Hid (LRow vc w.heap.size (List.replicate 16 0)):=(hCm.block w.heap.size HI3.out.rs.lt hrt).trans HI3.out.rs
        have Hsp:Hid (Q.PS vc sg tb 2 (tkR ((hs.take (j+1)).map (·.1)))):=by show Q.PS _ _ _ _ _;rw [<- Hdo.out];exact hSm
        have Hch:Hid (Chg (fun k=>k=g) w vc):=HI3.out.chg.trans (Chg.ofQ hCm) (fun k hk=>.inr (by rw [hk];have:=HA.out.l;have:=HA.out.t;omega))
        have hH2:=hHeld
        clear hHeld hSm hCm HI3 Her Hdo Hm Hbx k0 k1 hne
        go_wp2_with fail
        have hjg:j<((hs.map mkS).take j++List.replicate (16-j) zS).length:=by rw [Hrg.out.n];exact hlt
        have hjb:j<((hs.map (fun (h:En)=>h.2)).take j++List.replicate (16-j) 0).length:=by rw [List.length_append,List.length_take,List.length_map,Hhl.out,List.length_replicate];omega
        have Hfin:Hid (∀ vd:World,RB vd g x z ((hs.map mkS).take j++List.replicate (16-j) zS)->LRow vd lb ((hs.map (·.2)).take j++List.replicate (16-j) 0)->LRow vd w.heap.size (List.replicate 16 0)->Q.PS vd sg tb 2 (tkR ((hs.take (j+1)).map (·.1)))->Chg (fun k=>k=g) w vd->Pli w g x z hs lb sg tb (j+1) ((vd.setCells g (2+j*3) [.int .i64 (B0:Int),.int .i64 (B1:Int)]).setCell ⟨lb,j,none⟩ (.int .i64 (NN:Int)))):=fun vd h1 h2 h3 h4 h5=>by
         have hOa:Only g vd (vd.setCells g (2+j*3) [.int .i64 (B0:Int),.int .i64 (B1:Int)]):=((Only.refl g vd).set _ _).set _ _
         have hOb:∀ v:World,Only lb v (v.setCell ⟨lb,j,none⟩ (.int .i64 (NN:Int))):=fun v=>(Only.refl lb v).set _ _
         have hA:=HA.out
         have a1:=hA.g
         have a2:=hA.l
         have a3:=hA.s
         have a4:=hA.t
         have hgj:((hs.map mkS).take j++List.replicate (16-j) zS)[j]=zS:=by rw [List.getElem_append_right (by rw [List.length_take,List.length_map];omega),List.getElem_replicate]
         have hset:RB (vd.setCells g (2+j*3) [.int .i64 (B0:Int),.int .i64 (B1:Int)]) g x z ((hs.map mkS).take (j+1)++List.replicate (16-(j+1)) zS):=by
          have hb:=h1.setAt j B0 B1 hjg
          rw [hgj] at hb
          have hz1:(hs.map mkS)[j]?=some ⟨B0,B1,none,0,[]⟩:=by rw [List.getElem?_map,List.getElem?_eq_getElem hjl,He.out];rfl
          rw [<- pad_set (by rw [List.length_map];exact Hhl.out) hz1]
          exact hb
         have hln:LRow ((vd.setCells g (2+j*3) [.int .i64 (B0:Int),.int .i64 (B1:Int)]).setCell ⟨lb,j,none⟩ (.int .i64 (NN:Int))) lb ((hs.map (·.2)).take (j+1)++List.replicate (16-(j+1)) 0):=by
          have hb:=(show LRow (vd.setCells g (2+j*3) [.int .i64 (B0:Int),.int .i64 (B1:Int)]) lb _ from (hOa.block lb (by omega)).trans h2).set j NN
          have hz2:(hs.map (fun (h:En)=>h.2))[j]?=some NN:=by rw [List.getElem?_map,List.getElem?_eq_getElem hjl,He.out];rfl
          rw [pad_set (by rw [List.length_map];exact Hhl.out) hz2] at hb
          exact hb
         refine ⟨hset.keep ((hOb _).block g (by omega)),hln,((hOb _).block _ (by omega)).trans ((hOa.block _ (by omega)).trans h3),h4.keep (((hOb _).block sg (by omega)).trans (hOa.block sg (by omega))) (((hOb _).block tb (by omega)).trans (hOa.block tb (by omega))),Hok.out,?_⟩
         exact (h5.trans (Chg.only hOa) (fun k hk=>.inl hk)).trans (Chg.only (hOb _)) (fun k hk=>.inr (by rw [hk];omega))
        refine region_L (fun w':World=>w'.cell? ⟨bx,0,none⟩=some (.int .i64 (B0:Int))∧w'.cell? ⟨bx,1,none⟩=some (.int .i64 (B1:Int))) 11 (by kernel_rfl) ?_
        have Hrgd:Hid (RB vc.drew g x z ((hs.map mkS).take j++List.replicate (16-j) zS)):=Hrg.out.keep rfl
        have Hlnd:Hid (LRow vc.drew lb ((hs.map (·.2)).take j++List.replicate (16-j) 0)):=Hln.out
        have Hrsd:Hid (LRow vc.drew w.heap.size (List.replicate 16 0)):=Hrs.out
        have Hspd:Hid (Q.PS vc.drew sg tb 2 (tkR ((hs.take (j+1)).map (·.1)))):=⟨Hsp.out.head,Hsp.out.row,Hsp.out.ne,Hsp.out.le,Hsp.out.few⟩
        have Hchd:Hid (Chg (fun k=>k=g) w vc.drew):=⟨Hch.out.os,Hch.out.tape,Hch.out.output,Hch.out.size,Hch.out.block⟩
        have hcd:vc.drew.cell? ⟨bx,0,none⟩=some (.int .i64 (B0:Int))∧vc.drew.cell? ⟨bx,1,none⟩=some (.int .i64 (B1:Int)):=hH2
        clear Hrg Hln Hrs Hsp Hch hH2
        generalize vc.drew=vd at *
        have hHeld:(fun w':World=>w'.cell? ⟨bx,0,none⟩=some (.int .i64 (B0:Int))∧w'.cell? ⟨bx,1,none⟩=some (.int .i64 (B1:Int))) _:=hcd
        have hne:Nonempty (Sub (fun w':World=>w'.cell? ⟨bx,0,none⟩=some (.int .i64 (B0:Int))∧w'.cell? ⟨bx,1,none⟩=some (.int .i64 (B1:Int)))):=⟨⟨_,hHeld⟩⟩
        have k0:∀ s:Sub (fun w':World=>w'.cell? ⟨bx,0,none⟩=some (.int .i64 (B0:Int))∧w'.cell? ⟨bx,1,none⟩=some (.int .i64 (B1:Int))),s.w.cell? ⟨bx,0,none⟩=some (.int .i64 (B0:Int)):=fun s=>s.ok.1
        have k1:∀ s:Sub (fun w':World=>w'.cell? ⟨bx,0,none⟩=some (.int .i64 (B0:Int))∧w'.cell? ⟨bx,1,none⟩=some (.int .i64 (B1:Int))),s.w.cell? ⟨bx,1,none⟩=some (.int .i64 (B1:Int)):=fun s=>s.ok.2
        refine tk0 0 rfl (fun _ _ _ _ h=>h) hHeld fun K hK=>?_;go_simp;refine hK _ ?_;clear hK K
        refine tk0 1 rfl (fun _ _ _ _ h=>h) hHeld fun K hK=>?_;go_simp;refine hK _ ?_;clear hK K
        refine tk0 2 rfl (fun _ _ _ _ h=>h) hHeld fun K hK=>?_;go_simp;refine hK _ ?_;clear hK K
        refine tk0 3 rfl (fun _ _ _ _ h=>h) hHeld fun K hK=>?_;go_simp;refine hK _ ?_;clear hK K
        refine tk0 4 rfl (fun _ _ _ _ h=>h) hHeld fun K hK=>?_;go_simp;refine hK _ ?_;clear hK K
        refine tk0 5 rfl (fun _ _ _ _ h=>h) hHeld fun K hK=>?_;go_simp;refine hK _ ?_;clear hK K
        refine tk0 6 rfl (fun _ _ _ _ h=>h) hHeld fun K hK=>?_;go_simp;refine hK _ ?_;clear hK K
        refine tk0 7 rfl (fun _ _ _ _ h=>h) hHeld fun K hK=>?_;go_simp;refine hK _ ?_;clear hK K
        refine tk0 8 rfl (fun _ _ _ _ h=>h) hHeld fun K hK=>?_;go_simp;refine hK _ ?_;clear hK K
        refine ol 9 rfl fun K hK=>?_
        refine step_plain rfl (wp_store_mid 97 (.tmp 65) (.tmp 60) rfl g (2+j*3) #[.int .i64 (B0:Int),.int .i64 (B1:Int)] rfl rfl ?_ (by kernel_rfl) (by simp [Value.oneCell']) ?_)
        ·intro i hi
         have hi2:i<2:=hi
         refine ⟨?_,Hrgd.out.free _⟩
         rw [Hrgd.out.cell j i hjg (by omega)]
         match i,hi2 with
         | 0,_=>rfl
         | 1,_=>rfl
        have hOa:Only g vd (vd.setCells g (2+j*3) [.int .i64 (B0:Int),.int .i64 (B1:Int)]):=((Only.refl g vd).set _ _).set _ _
        have hbxg:bx≠g:=by have h1:=Hrgd.out.lt;have h2:=HA.out.g;have h3:=HA.out.l;have h4:=hbk;omega
        have hSe:(fun w':World=>w'.cell? ⟨bx,0,none⟩=some (.int .i64 (B0:Int))∧w'.cell? ⟨bx,1,none⟩=some (.int .i64 (B1:Int))) (vd.setCells g (2+j*3) [.int .i64 (B0:Int),.int .i64 (B1:Int)]):=⟨(World.cell?_of_block (a:=⟨bx,0,none⟩) (hOa.block bx hbxg)).trans hHeld.1,(World.cell?_of_block (a:=⟨bx,1,none⟩) (hOa.block bx hbxg)).trans hHeld.2⟩
        have hle:LRow (vd.setCells g (2+j*3) [.int .i64 (B0:Int),.int .i64 (B1:Int)]) lb ((hs.map (·.2)).take j++List.replicate (16-j) 0):=(hOa.block lb (by have:=HA.out.g;have:=HA.out.l;omega)).trans Hlnd.out
        have hq:=hle.at (i:=j) hjb
        have hfq:=hle.free j
        obtain ⟨ve,hve⟩:∃ ve,ve=vd.setCells g (2+j*3) [.int .i64 (B0:Int),.int .i64 (B1:Int)]:=⟨_,rfl⟩
        have Hve:Hid (vd.setCells g (2+j*3) [.int .i64 (B0:Int),.int .i64 (B1:Int)]=ve):=hve.symm
        rw [Hve.out] at hSe hq hfq
        have hsc:vd.setCells g (2+j*3) (#[Value.int .i64 (B0:Int),.int .i64 (B1:Int)]).toList=ve:=Hve.out
        rw [hsc]
        generalize ((hs.map (fun (h:En)=>h.2)).take j++List.replicate (16-j) 0)[j]=o0 at hq
        clear hsc hve hle hOa
        replace hHeld:(fun w':World=>w'.cell? ⟨bx,0,none⟩=some (.int .i64 (B0:Int))∧w'.cell? ⟨bx,1,none⟩=some (.int .i64 (B1:Int))) _:=hSe
        refine hK.out _ _ (fun _=>hHeld) ?_
        clear hK K
        refine tk0 10 rfl (fun _ _ _ _ h=>h) hHeld fun K hK=>?_;go_simp;refine hK _ ?_;clear hK K
        refine ol 11 rfl fun K hK=>?_
        go_simp
        refine hK.out _ _ (fun h=>absurd rfl h) ?_
        clear hK K
        refine done_L (by kernel_rfl) ?_ _
        have HI5:Hid (Pli w g x z hs lb sg tb (j+1) ((vd.setCells g (2+j*3) [.int .i64 (B0:Int),.int .i64 (B1:Int)]).setCell ⟨lb,j,none⟩ (.int .i64 (NN:Int)))):=Hfin.out vd Hrgd.out Hlnd.out Hrsd.out Hspd.out Hchd.out
        rw [Hve.out] at HI5
        clear Hfin Hrgd Hlnd Hrsd Hspd Hchd Hve
        go_simp
        go_wp2
        go_roundw
        case rel=>exact ⟨j+1,by omega,by go_num,HI5⟩
        case measure=>simp [intOf];omega
      | false =>
        have hbad:=place_bad2 hjl He.out Hz.out hmay
        have Her:Hid (Q.erS 2 (tkR ((hs.take j).map (·.1))) (B0:Int) (B1:Int) false=1):=by show _=_;unfold Q.erS;rw [hmay];rfl
        have Hm:Hid (B1=needS NN):=hm
        clear hmay hm HPy
        go_wp2_with fail
        clear x0 x1 x2 x3 y2 y3 hor
        generalize (w2.alloc (.cells #[.int .i64 (B0:Int),.int .i64 (B1:Int)] 97))=w3 at *
        obtain ⟨bx,hbx⟩:∃ bx,bx=w2.heap.size:=⟨_,rfl⟩
        rw [<- hbx] at Hbx hbxl ⊢
        clear hbx
        have Htb:Hid (tb<bx):=Nat.lt_of_lt_of_le HtbL.out (Nat.le_of_lt hbxl)
        refine region_L (fun w':World=>w'.cell? ⟨bx,0,none⟩=some (.int .i64 (B0:Int))∧w'.cell? ⟨bx,1,none⟩=some (.int .i64 (B1:Int))) 15 (by kernel_rfl) ?_
        generalize w3.drew=va at *
        have hHeld:(fun w':World=>w'.cell? ⟨bx,0,none⟩=some (.int .i64 (B0:Int))∧w'.cell? ⟨bx,1,none⟩=some (.int .i64 (B1:Int))) _:=Hbx.out
        have hne:Nonempty (Sub (fun w':World=>w'.cell? ⟨bx,0,none⟩=some (.int .i64 (B0:Int))∧w'.cell? ⟨bx,1,none⟩=some (.int .i64 (B1:Int)))):=⟨⟨_,hHeld⟩⟩
        have k0:∀ s:Sub (fun w':World=>w'.cell? ⟨bx,0,none⟩=some (.int .i64 (B0:Int))∧w'.cell? ⟨bx,1,none⟩=some (.int .i64 (B1:Int))),s.w.cell? ⟨bx,0,none⟩=some (.int .i64 (B0:Int)):=fun s=>s.ok.1
        have k1:∀ s:Sub (fun w':World=>w'.cell? ⟨bx,0,none⟩=some (.int .i64 (B0:Int))∧w'.cell? ⟨bx,1,none⟩=some (.int .i64 (B1:Int))),s.w.cell? ⟨bx,1,none⟩=some (.int .i64 (B1:Int)):=fun s=>s.ok.2
        refine tn 0 rfl (fun _ _ _ _ h=>h) hHeld fun K hK=>?_;go_simp;refine hK _ ?_;clear hK K
        refine tn 1 rfl (fun _ _ _ _ h=>h) hHeld fun K hK=>?_;go_simp;refine hK _ ?_;clear hK K
        refine tn 2 rfl (fun _ _ _ _ h=>h) hHeld fun K hK=>?_;go_simp;refine hK _ ?_;clear hK K
        refine tn 3 rfl (fun _ _ _ _ h=>h) hHeld fun K hK=>?_;go_simp;refine hK _ ?_;clear hK K
        refine tn 4 rfl (fun _ _ _ _ h=>h) hHeld fun K hK=>?_;go_simp;refine hK _ ?_;clear hK K
        refine tn 5 rfl (fun _ _ _ _ h=>h) hHeld fun K hK=>?_;go_simp;refine hK _ ?_;clear hK K
        refine ol 6 rfl fun K hK=>?_
        go_simp
        refine (need_n NN (by omega) va).mono ?_
        rintro _ vq ⟨rfl,hw⟩
        replace hw:=hw.symm
        subst hw
        rw [<- Hm.out]
        replace hHeld:(fun w':World=>w'.cell? ⟨bx,0,none⟩=some (.int .i64 (B0:Int))∧w'.cell? ⟨bx,1,none⟩=some (.int .i64 (B1:Int))) _:=hHeld
        refine hK.out _ _ (fun _=>hHeld) ?_
        clear hK K
        refine tn 7 rfl (fun _ _ _ _ h=>h) hHeld fun K hK=>?_;go_simp;refine hK _ ?_;clear hK K
        refine tn 8 rfl (fun _ _ _ _ h=>h) hHeld fun K hK=>?_;go_simp;refine hK _ ?_;clear hK K
        refine tn 9 rfl (fun _ _ _ _ h=>h) hHeld fun K hK=>?_;go_simp;refine hK _ ?_;clear hK K
        refine tn 10 rfl (fun _ _ _ _ h=>h) hHeld fun K hK=>?_;go_simp;refine hK _ ?_;clear hK K
        refine tn 11 rfl (fun _ _ _ _ h=>h) hHeld fun K hK=>?_;go_simp;refine hK _ ?_;clear hK K
        refine ol 12 rfl fun K hK=>?_
        go_simp
        refine (Q.mark_c sg tb 2 _ (B0:Int) (B1:Int) ⟨by omega,by omega⟩ ⟨by omega,by omega⟩ va HI3.out.sp).mono ?_
        rintro _ vc ⟨rfl,hSm,hCm⟩
        rw [Her.out]
        replace hHeld:(fun w':World=>w'.cell? ⟨bx,0,none⟩=some (.int .i64 (B0:Int))∧w'.cell? ⟨bx,1,none⟩=some (.int .i64 (B1:Int))) _:=⟨(World.cell?_of_block (a:=⟨bx,0,none⟩) (hCm.block bx (World.block_lt_of_cell? va _ hHeld.1) (by have:=HI3.out.ln.lt;have:=Htb.out;omega))).trans hHeld.1,(World.cell?_of_block (a:=⟨bx,1,none⟩) (hCm.block bx (World.block_lt_of_cell? va _ hHeld.2) (by have:=Htb.out;omega))).trans hHeld.2⟩
        refine hK.out _ _ (fun _=>hHeld) ?_
        clear hK K
        refine tn 13 rfl (fun _ _ _ _ h=>h) hHeld fun K hK=>?_;go_simp;refine hK _ ?_;clear hK K
        refine tn 14 rfl (fun _ _ _ _ h=>h) hHeld fun K hK=>?_;go_simp;refine hK _ ?_;clear hK K
        refine done_L (by kernel_rfl) ?_ _
        go_simp
        have hrs:LRow vc w.heap.size (List.replicate 16 0):=by
         have h1:w.heap.size≠tb:=by have:=HA.out.l;have:=HA.out.t;omega
         exact (hCm.block w.heap.size HI3.out.rs.lt h1).trans HI3.out.rs
        have hch:Chg (fun k=>k=g) w vc:=HI3.out.chg.trans (Chg.ofQ hCm) (fun k hk=>.inr (by rw [hk];have:=HA.out.l;have:=HA.out.t;omega))
        go_wp2_with (refine wpList_store_row rfl 162 (.tmp 4) (.tmp 56) rfl w.heap.size _ rfl rfl 162 _ hrs (by kernel_rfl) (by simp [lvals]) (by simp [Value.oneCell']) ?_)
        have hch2:Chg (fun k=>k=g) w (vc.setRow w.heap.size (lvals (List.replicate 16 0)).toArray):=hch.trans (Chg.only (only_setRow w.heap.size vc _)) (fun k hk=>.inr (by rw [hk];exact Nat.le_refl _))
        exact bodyPost_ret (results_row_tmp (p:=4) (u:=5) (ty:=162) rfl _ _ w.heap.size 162 _ (0,0) _ rfl (setRow_heap vc w.heap.size _ (lvals (List.replicate 16 0)).toArray 162 (0,0) hrs) Tryz.underlying162 rfl (by kernel_rfl)) rfl (HPn.out _ hbad hch2)
     ·have hbad:=place_bad1 hjl He.out Hz.out (fun h=>hm h.2)
      have hmb:¬ (B1:Int)=(needS NN:Int):=fun h=>hm (by omega)
      clear HPy
      go_wp2_with fail
      clear x0 x1 x2 x3 y2 y3 hor
      generalize (w2.alloc (.cells #[.int .i64 (B0:Int),.int .i64 (B1:Int)] 97))=w3 at *
      obtain ⟨bx,hbx⟩:∃ bx,bx=w2.heap.size:=⟨_,rfl⟩
      rw [<- hbx] at Hbx hbxl ⊢
      clear hbx
      refine region_L (fun w':World=>w'.cell? ⟨bx,0,none⟩=some (.int .i64 (B0:Int))∧w'.cell? ⟨bx,1,none⟩=some (.int .i64 (B1:Int))) 15 (by kernel_rfl) ?_
      generalize w3.drew=vc at *
      have hHeld:(fun w':World=>w'.cell? ⟨bx,0,none⟩=some (.int .i64 (B0:Int))∧w'.cell? ⟨bx,1,none⟩=some (.int .i64 (B1:Int))) _:=Hbx.out
      have hne:Nonempty (Sub (fun w':World=>w'.cell? ⟨bx,0,none⟩=some (.int .i64 (B0:Int))∧w'.cell? ⟨bx,1,none⟩=some (.int .i64 (B1:Int)))):=⟨⟨_,hHeld⟩⟩
      have k0:∀ s:Sub (fun w':World=>w'.cell? ⟨bx,0,none⟩=some (.int .i64 (B0:Int))∧w'.cell? ⟨bx,1,none⟩=some (.int .i64 (B1:Int))),s.w.cell? ⟨bx,0,none⟩=some (.int .i64 (B0:Int)):=fun s=>s.ok.1
      have k1:∀ s:Sub (fun w':World=>w'.cell? ⟨bx,0,none⟩=some (.int .i64 (B0:Int))∧w'.cell? ⟨bx,1,none⟩=some (.int .i64 (B1:Int))),s.w.cell? ⟨bx,1,none⟩=some (.int .i64 (B1:Int)):=fun s=>s.ok.2
      refine tn 0 rfl (fun _ _ _ _ h=>h) hHeld fun K hK=>?_;go_simp;refine hK _ ?_;clear hK K
      refine tn 1 rfl (fun _ _ _ _ h=>h) hHeld fun K hK=>?_;go_simp;refine hK _ ?_;clear hK K
      refine tn 2 rfl (fun _ _ _ _ h=>h) hHeld fun K hK=>?_;go_simp;refine hK _ ?_;clear hK K
      refine tn 3 rfl (fun _ _ _ _ h=>h) hHeld fun K hK=>?_;go_simp;refine hK _ ?_;clear hK K
      refine tn 4 rfl (fun _ _ _ _ h=>h) hHeld fun K hK=>?_;go_simp;refine hK _ ?_;clear hK K
      refine tn 5 rfl (fun _ _ _ _ h=>h) hHeld fun K hK=>?_;go_simp;refine hK _ ?_;clear hK K
      refine ol 6 rfl fun K hK=>?_
      go_simp
      refine (need_n NN (by omega) vc).mono ?_
      rintro _ vq ⟨rfl,hw⟩
      replace hw:=hw.symm
      subst hw
      replace hHeld:(fun w':World=>w'.cell? ⟨bx,0,none⟩=some (.int .i64 (B0:Int))∧w'.cell? ⟨bx,1,none⟩=some (.int .i64 (B1:Int))) _:=hHeld
      refine hK.out _ _ (fun _=>hHeld) ?_
      clear hK K
      refine tn 7 rfl (fun _ _ _ _ h=>h) hHeld fun K hK=>?_;go_simp;refine hK _ ?_;clear hK K
      refine tn 8 rfl (fun _ _ _ _ h=>h) hHeld fun K hK=>?_;go_simp;refine hK _ ?_;clear hK K
      refine tn 9 rfl (fun _ _ _ _ h=>h) hHeld fun K hK=>?_;go_simp;refine hK _ ?_;clear hK K
      refine tn 10 rfl (fun _ _ _ _ h=>h) hHeld fun K hK=>?_;go_simp;refine hK _ ?_;clear hK K
      refine tn 11 rfl (fun _ _ _ _ h=>h) hHeld fun K hK=>?_;go_simp;refine hK _ ?_;clear hK K
      refine tn 12 rfl (fun _ _ _ _ h=>h) hHeld fun K hK=>?_;go_simp;refine hK _ ?_;clear hK K
      refine tn 13 rfl (fun _ _ _ _ h=>h) hHeld fun K hK=>?_;go_simp;refine hK _ ?_;clear hK K
      refine tn 14 rfl (fun _ _ _ _ h=>h) hHeld fun K hK=>?_;go_simp;refine hK _ ?_;clear hK K
      refine done_L (by kernel_rfl) ?_ _
      go_simp
      have hrs:LRow vc w.heap.size (List.replicate 16 0):=HI3.out.rs
      have hch:Chg (fun k=>k=g) w vc:=HI3.out.chg
      go_wp2_with (refine wpList_store_row rfl 162 (.tmp 4) (.tmp 56) rfl w.heap.size _ rfl rfl 162 _ hrs (by kernel_rfl) (by simp [lvals]) (by simp [Value.oneCell']) ?_)
      have hch2:Chg (fun k=>k=g) w (vc.setRow w.heap.size (lvals (List.replicate 16 0)).toArray):=hch.trans (Chg.only (only_setRow w.heap.size vc _)) (fun k hk=>.inr (by rw [hk];exact Nat.le_refl _))
      exact bodyPost_ret (results_row_tmp (p:=4) (u:=5) (ty:=162) rfl _ _ w.heap.size 162 _ (0,0) _ rfl (setRow_heap vc w.heap.size _ (lvals (List.replicate 16 0)).toArray 162 (0,0) hrs) Tryz.underlying162 rfl (by kernel_rfl)) rfl (HPn.out _ hbad hch2)
    ·have hbad:=place_bad1 hjl He.out Hz.out (fun h=>hn1 h.1)
     have hn1':(NN:Int)<1:=by omega
     clear HPy
     go_wp2_with fail
     clear x0 x1 x2 x3 y2 y3 hor
     generalize (w2.alloc (.cells #[.int .i64 (B0:Int),.int .i64 (B1:Int)] 97))=w3 at *
     obtain ⟨bx,hbx⟩:∃ bx,bx=w2.heap.size:=⟨_,rfl⟩
     rw [<- hbx] at Hbx hbxl ⊢
     clear hbx
     refine region_L (fun w':World=>w'.cell? ⟨bx,0,none⟩=some (.int .i64 (B0:Int))∧w'.cell? ⟨bx,1,none⟩=some (.int .i64 (B1:Int))) 15 (by kernel_rfl) ?_
     generalize w3.drew=vc at *
     have hHeld:(fun w':World=>w'.cell? ⟨bx,0,none⟩=some (.int .i64 (B0:Int))∧w'.cell? ⟨bx,1,none⟩=some (.int .i64 (B1:Int))) _:=Hbx.out
     have hne:Nonempty (Sub (fun w':World=>w'.cell? ⟨bx,0,none⟩=some (.int .i64 (B0:Int))∧w'.cell? ⟨bx,1,none⟩=some (.int .i64 (B1:Int)))):=⟨⟨_,hHeld⟩⟩
     have k0:∀ s:Sub (fun w':World=>w'.cell? ⟨bx,0,none⟩=some (.int .i64 (B0:Int))∧w'.cell? ⟨bx,1,none⟩=some (.int .i64 (B1:Int))),s.w.cell? ⟨bx,0,none⟩=some (.int .i64 (B0:Int)):=fun s=>s.ok.1
     have k1:∀ s:Sub (fun w':World=>w'.cell? ⟨bx,0,none⟩=some (.int .i64 (B0:Int))∧w'.cell? ⟨bx,1,none⟩=some (.int .i64 (B1:Int))),s.w.cell? ⟨bx,1,none⟩=some (.int .i64 (B1:Int)):=fun s=>s.ok.2
     refine tn 0 rfl (fun _ _ _ _ h=>h) hHeld fun K hK=>?_;go_simp;refine hK _ ?_;clear hK K
     refine tn 1 rfl (fun _ _ _ _ h=>h) hHeld fun K hK=>?_;go_simp;refine hK _ ?_;clear hK K
     refine tn 2 rfl (fun _ _ _ _ h=>h) hHeld fun K hK=>?_;go_simp;refine hK _ ?_;clear hK K
     refine tn 3 rfl (fun _ _ _ _ h=>h) hHeld fun K hK=>?_;go_simp;refine hK _ ?_;clear hK K
     refine tn 4 rfl (fun _ _ _ _ h=>h) hHeld fun K hK=>?_;go_simp;refine hK _ ?_;clear hK K
     refine tn 5 rfl (fun _ _ _ _ h=>h) hHeld fun K hK=>?_;go_simp;refine hK _ ?_;clear hK K
     refine tn 6 rfl (fun _ _ _ _ h=>h) hHeld fun K hK=>?_;go_simp;refine hK _ ?_;clear hK K
     refine tn 7 rfl (fun _ _ _ _ h=>h) hHeld fun K hK=>?_;go_simp;refine hK _ ?_;clear hK K
     refine tn 8 rfl (fun _ _ _ _ h=>h) hHeld fun K hK=>?_;go_simp;refine hK _ ?_;clear hK K
     refine tn 9 rfl (fun _ _ _ _ h=>h) hHeld fun K hK=>?_;go_simp;refine hK _ ?_;clear hK K
     refine tn 10 rfl (fun _ _ _ _ h=>h) hHeld fun K hK=>?_;go_simp;refine hK _ ?_;clear hK K
     refine tn 11 rfl (fun _ _ _ _ h=>h) hHeld fun K hK=>?_;go_simp;refine hK _ ?_;clear hK K
     refine tn 12 rfl (fun _ _ _ _ h=>h) hHeld fun K hK=>?_;go_simp;refine hK _ ?_;clear hK K
     refine tn 13 rfl (fun _ _ _ _ h=>h) hHeld fun K hK=>?_;go_simp;refine hK _ ?_;clear hK K
     refine tn 14 rfl (fun _ _ _ _ h=>h) hHeld fun K hK=>?_;go_simp;refine hK _ ?_;clear hK K
     refine done_L (by kernel_rfl) ?_ _
     go_simp
     have hrs:LRow vc w.heap.size (List.replicate 16 0):=HI3.out.rs
     have hch:Chg (fun k=>k=g) w vc:=HI3.out.chg
     go_wp2_with (refine wpList_store_row rfl 162 (.tmp 4) (.tmp 56) rfl w.heap.size _ rfl rfl 162 _ hrs (by kernel_rfl) (by simp [lvals]) (by simp [Value.oneCell']) ?_)
     have hch2:Chg (fun k=>k=g) w (vc.setRow w.heap.size (lvals (List.replicate 16 0)).toArray):=hch.trans (Chg.only (only_setRow w.heap.size vc _)) (fun k hk=>.inr (by rw [hk];exact Nat.le_refl _))
     exact bodyPost_ret (results_row_tmp (p:=4) (u:=5) (ty:=162) rfl _ _ w.heap.size 162 _ (0,0) _ rfl (setRow_heap vc w.heap.size _ (lvals (List.replicate 16 0)).toArray 162 (0,0) hrs) Tryz.underlying162 rfl (by kernel_rfl)) rfl (HPn.out _ hbad hch2)
  ·obtain rfl:j=16:=by omega
   have hge:¬ ((16:Nat):Int)<16:=by omega
   have hok:HdOk hs:=by have:=HI.out.ok;rwa [List.take_of_length_le (by rw [Hhl.out];exact Nat.le_refl _)] at this
   have hrg:RB wr g x z (hs.map mkS):=by have:=HI.out.rg;rwa [Nat.sub_self,List.replicate_zero,List.append_nil,List.take_of_length_le (by rw [List.length_map,Hhl.out];exact Nat.le_refl _)] at this
   have hln:LRow wr lb (hs.map (·.2)):=by have:=HI.out.ln;rwa [Nat.sub_self,List.replicate_zero,List.append_nil,List.take_of_length_le (by rw [List.length_map,Hhl.out];exact Nat.le_refl _)] at this
   obtain ⟨Y,hY⟩:∃ Y,Y=(lvals (hs.map (·.2))).toArray:=⟨_,rfl⟩
   have HLw:Hid (wr.heap[lb]?=some (.cells Y 162 (0,0))):=by show _=_;rw [hY];exact hln
   have Hys:Hid (Y.size=16):=by show _=_;rw [hY];simp [lvals];exact Hhl.out
   have Hyo:Hid (Y.all (·.oneCell')=true):=by show _=_;rw [hY];simp [lvals,Value.oneCell']
   have Hrs:Hid (LRow wr w.heap.size (List.replicate 16 0)):=HI.out.rs
   have hch2:Chg (fun k=>k=g) w (wr.setRow w.heap.size Y):=HI.out.chg.trans (Chg.only (only_setRow w.heap.size wr _)) (fun k hk=>.inr (by rw [hk];exact Nat.le_refl _))
   have R:=HPy.out (wr.setRow w.heap.size Y) hok hch2 (hrg.keep ((only_setRow w.heap.size wr Y).block g (by omega)))
   rw [<- hY] at R
   clear HPn HPy HI hok hrg hln hch2 hY
   go_wp2_with (first
    | (refine wpList_load_row rfl 162 (.tmp 6) rfl lb rfl 162 Y (0,0) _ HLw.out Tryz.underlying162 rfl (by rw [Hys.out];exact size162) ?_)
    | (refine wpList_store_row rfl 162 (.tmp 4) (.tmp 68) rfl w.heap.size Y rfl rfl 162 _ Hrs.out (by rw [Hys.out];exact size162) (by rw [Hys.out];simp [lvals]) Hyo.out ?_))
   exact bodyPost_ret (results_row_tmp (p:=4) (u:=5) (ty:=162) rfl _ _ w.heap.size 162 _ (0,0) _ rfl (setRow_heap wr w.heap.size _ Y 162 (0,0) Hrs.out) Tryz.underlying162 rfl (by rw [Hys.out];exact size162)) rfl R
end Go.Proofs.YtlllmmceoeihkaaGreat
set_option maxRecDepth 20000
namespace Go.Proofs.YtlllmmceoeihkaaGreat
open Go.RowKit
theorem blks_snoc (l:List Bk) (f:Fl) (i j:Nat):blks l f i (j+1)=blks l f i j++blk l f (i+j):=by
 unfold blks
 rw [List.range'_1_concat,List.map_append,List.flatten_append]
 simp
theorem blk_bytes {w:World} {p:Nat} {t:TypeId} {cs:List Int} {n:Nat} (h:Blk w p t cs) (hf:∀ y∈cs,0<=y∧y<=255) (hl:cs.length=n):Bytes w (some ⟨p,0,none⟩) n cs :=
 ⟨hl,.inr ⟨p,0,rfl,fun k hk=>by rw [Nat.zero_add,h.cell hk,List.getD_eq_getElem?_getD,List.getElem?_eq_getElem hk];rfl⟩,hf⟩
set_option maxHeartbeats 1000000 in
theorem rread_c (Fd:Nat->Prop) (d g:Nat) (S:St) (x z:Int) (l:List Sm) (f m:Nat) (w:World) (H:RB w g x z l) (hD:PDisk Fd w d S) (hFl:∀ k,Fd k->k<w.heap.size) (hx:I64 x) (hz:I64 z) (hf:f<1000) (hm:m<1000) :
  Calls Tryz.prog 88 #[.pointer (some ⟨g,0,none⟩),.pointer (some ⟨d,0,none⟩),.agg #[.int .i64 (f:Int),.int .i64 (m:Int)]] w fun e w'=>Below w.heap.size w w' ∧
   ((S.out=true∧0<m∧e = .returned (.tuple #[.slice none 0 0,.int .i64 8]))∨((S.out=false∨m=0)∧∃ a c,e = .returned (.tuple #[.slice a (32*m) c,.int .i64 0])∧Own w' w.heap.size a c (blks S.l (2,x,z) f m))):=by
 obtain ⟨Post,hPost⟩:∃ Post:Ending->World->Prop,Post=fun e w'=>Below w.heap.size w w' ∧
   ((S.out=true∧0<m∧e = .returned (.tuple #[.slice none 0 0,.int .i64 8]))∨((S.out=false∨m=0)∧∃ a c,e = .returned (.tuple #[.slice a (32*m) c,.int .i64 0])∧Own w' w.heap.size a c (blks S.l (2,x,z) f m))):=⟨_,rfl⟩
 rw [<- hPost]
 have HPd:Hid (S.out=true->0<m->∀ w',Below w.heap.size w w'->Post (.returned (.tuple #[.slice none 0 0,.int .i64 8])) w'):=fun h1 h2 w' h3=>by rw [hPost];exact ⟨h3,.inl ⟨h1,h2,rfl⟩⟩
 have HPo:Hid ((S.out=false∨m=0)->∀ w' a c,Below w.heap.size w w'->Own w' w.heap.size a c (blks S.l (2,x,z) f m)->Post (.returned (.tuple #[.slice a (32*m) c,.int .i64 0])) w'):=fun h1 w' a c h2 h3=>by rw [hPost];exact ⟨h2,.inr ⟨h1,a,c,rfl,h3⟩⟩
 clear hPost
 obtain ⟨mb,ml,hD0⟩:=hD
 have Hbk:Hid (∀ i:Nat,(blk S.l (2,x,z) i).length=32∧∀ y∈blk S.l (2,x,z) i,0<=y∧y<=255):=fun i=>has_fit hD0 (2,x,z) (i:Int)
 have HD:Hid (PDisk Fd w d S):=⟨mb,ml,hD0⟩
 have HB:Hid (RB w g x z l):=H
 have HF:Hid (∀ k,Fd k->k<w.heap.size):=hFl
 have Hx:Hid (I64 x):=hx
 have Hz:Hid (I64 z):=hz
 clear hD0 H hFl hx hz
 go_enter Tryz.func88,Tryz.ntmps88
 go_wp2_with fail
 have Hb0:Hid (Below w.heap.size w (w.alloc (.cells #[.int .i64 (f:Int),.int .i64 (m:Int)] 97))):=(Below.refl _ _).alloc (Nat.le_refl _) _
 have hbox:=heap_alloc_new w (.cells #[.int .i64 (f:Int),.int .i64 (m:Int)] 97)
 have hsz:(w.alloc (.cells #[.int .i64 (f:Int),.int .i64 (m:Int)] 97)).heap.size=w.heap.size+1:=by simp
 have Hsz:Hid (w.heap.size<(w.alloc (.cells #[.int .i64 (f:Int),.int .i64 (m:Int)] 97)).heap.size):=by show _<_;rw [hsz];omega
 clear hsz
 generalize w.alloc (.cells #[.int .i64 (f:Int),.int .i64 (m:Int)] 97)=w0 at *
 have b0:w0.cell? ⟨w.heap.size,0,none⟩=some (.int .i64 (f:Int)):=by rw [cell_of_row w0 _ _ _ 97 (0,0) hbox];rfl
 have b1:w0.cell? ⟨w.heap.size,1,none⟩=some (.int .i64 (m:Int)):=by rw [cell_of_row w0 _ _ _ 97 (0,0) hbox];rfl
 have HB0:Hid (RB w0 g x z l):=HB.out.on Hb0.out
 have HD0:Hid (PDisk Fd w0 d S):=HD.out.keep (fun k hk=>Hb0.out.block k (HF.out k hk))
 have HF0:Hid (∀ k,Fd k->k<w0.heap.size):=fun k hk=>Nat.lt_of_lt_of_le (HF.out k hk) Hb0.out.size
 clear hbox HB HD HF
 go_wp2_with fail
 go_loopw [8,14] (fun s v wr=>∃ (j:Nat) (av:Option Addr) (cv:Nat),j<=m∧v = .int .i64 (j:Int)∧s = .slice av (32*j) cv∧Hid (Own wr w0.heap.size av cv (blks S.l (2,x,z) f j))∧Hid (Below w0.heap.size w0 wr)∧Hid (S.out=false∨j=0)) (fun _ v _=>m-(intOf v).toNat)
 case atStart=>exact ⟨0,none,0,Nat.zero_le _,by go_num,rfl,Own.nil _ _,Below.refl _ _,.inr rfl⟩
 case round =>
  obtain ⟨j,av,cv,hj,rfl,rfl,HO,HBe,HSo⟩:=hrel
  by_cases hlt:j<m
  ·have hlt':(j:Int)<(m:Int):=by omega
   have hcw:wr.cell? ⟨w.heap.size,0,none⟩=some (.int .i64 (f:Int)):=(HBe.out.cell (p:=⟨w.heap.size,0,none⟩) Hsz.out).trans b0
   have HBw:Hid (RB wr g x z l):=HB0.out.keep (HBe.out.block g HB0.out.lt)
   have HDw:Hid (PDisk Fd wr d S):=HD0.out.keep (fun k hk=>HBe.out.block k (HF0.out k hk))
   have HFw:Hid (∀ k,Fd k->k<wr.heap.size):=fun k hk=>Nat.lt_of_lt_of_le (HF0.out k hk) HBe.out.size
   have Hbl:Hid ((blk S.l (2,x,z) (f+j)).length=32∧∀ y∈blk S.l (2,x,z) (f+j),0<=y∧y<=255):=Hbk.out (f+j)
   have Hnext:Hid (blks S.l (2,x,z) f (j+1)=blks S.l (2,x,z) f j++blk S.l (2,x,z) (f+j)):=blks_snoc _ _ _ _
   have Hol:Hid ((blks S.l (2,x,z) f j).length=32*j):=by
    show _=_
    clear HO HBe HSo hcw HBw HDw HFw Hbl Hnext hlt hlt' hj
    induction j with
    | zero=>rfl
    | succ j ih=>rw [blks_snoc,List.length_append,ih,(Hbk.out (f+j)).1];omega
   obtain ⟨bx,hbx⟩:∃ bx,bx=w.heap.size:=⟨_,rfl⟩
   rw [<- hbx] at hcw b0 b1 ⊢
   have Hbx:Hid (bx=w.heap.size):=hbx
   clear hbx b0 b1
   obtain ⟨I0,hI0⟩:∃ I0:Int,I0=(f:Int)+(j:Int):=⟨_,rfl⟩
   have hI1:0<=I0∧I0<2000:=by omega
   have hwrap:IntKind.i64.wrap ((f:Int)+(j:Int))=I0:=by rw [IntKind.wrap_i64];omega
   have HI0:Hid (I0=((f+j:Nat):Int)):=by show _=_;omega
   clear hI0
   cases hso:S.out with
   | true =>
     have Hrd:Hid (S.read (2,x,z) I0=(8,[])):=by show _=_;unfold St.read;rw [if_pos ⟨by omega,by omega⟩,hso,HI0.out];rfl
     have HR:Hid (∀ w',Below w0.heap.size w0 w'->Post (.returned (.tuple #[.slice none 0 0,.int .i64 8])) w'):=fun w' h=>HPd.out hso (by omega) w' (Hb0.out.trans (h.mono Hb0.out.size))
     clear HPd HPo HSo
     go_wp2_with fail
     refine region_L (fun w':World=>w'.cell? ⟨bx,0,none⟩=some (.int .i64 (f:Int))) 12 (by kernel_rfl) ?_
     have HBa:Hid (RB wr.drew g x z l):=HBw.out.keep rfl
     have HDa:Hid (PDisk Fd wr.drew d S):=HDw.out.keep (fun _ _=>rfl)
     have HFa:Hid (∀ k,Fd k->k<wr.drew.heap.size):=HFw.out
     have Hba:Hid (Below w0.heap.size w0 wr.drew):=⟨HBe.out.os,HBe.out.tape,HBe.out.output,HBe.out.size,HBe.out.block⟩
     have HOa:Hid (Own wr.drew w0.heap.size av cv (blks S.l (2,x,z) f j)):=HO.out
     have hca:wr.drew.cell? ⟨bx,0,none⟩=some (.int .i64 (f:Int)):=hcw
     clear HBw HDw HFw HBe HO hcw
     generalize wr.drew=va at *
     have hHeld:(fun w':World=>w'.cell? ⟨bx,0,none⟩=some (.int .i64 (f:Int))) _:=hca
     have hne:Nonempty (Sub (fun w':World=>w'.cell? ⟨bx,0,none⟩=some (.int .i64 (f:Int)))):=⟨⟨_,hHeld⟩⟩
     have k0:∀ s:Sub (fun w':World=>w'.cell? ⟨bx,0,none⟩=some (.int .i64 (f:Int))),s.w.cell? ⟨bx,0,none⟩=some (.int .i64 (f:Int)):=fun s=>s.ok
     refine tk0 0 rfl (fun _ _ _ _ h=>h) hHeld fun K hK=>?_;go_simp;refine hK _ ?_;clear hK K
     refine tk0 1 rfl (fun _ _ _ _ h=>h) hHeld fun K hK=>?_;go_simp;refine hK _ ?_;clear hK K
     refine tk0 3 rfl (fun _ _ _ _ h=>h) hHeld fun K hK=>?_;go_simp;refine hK _ ?_;clear hK K
     refine tk0 4 rfl (fun _ _ _ _ h=>h) hHeld fun K hK=>?_;go_simp;refine hK _ ?_;clear hK K
     refine tk0 5 rfl (fun _ _ _ _ h=>h) hHeld fun K hK=>?_;go_simp;refine hK _ ?_;clear hK K
     refine tk0 6 rfl (fun _ _ _ _ h=>h) hHeld fun K hK=>?_;go_simp;refine hK _ ?_;clear hK K
     refine ol 2 rfl fun K hK=>?_
     go_simp
     refine (file_c g x z l va HBa.out).mono ?_
     rintro _ vb ⟨rfl,hbv⟩
     have HDb:Hid (PDisk Fd vb d S):=HDa.out.keep (fun k hk=>hbv.block k (HFa.out k hk))
     have Hbb:Hid (Below w0.heap.size w0 vb):=Hba.out.trans (hbv.mono Hba.out.size)
     have HOb:Hid (Own vb w0.heap.size av cv (blks S.l (2,x,z) f j)):=HOa.out.later hbv
     clear HDa HBa HOa
     replace hHeld:(fun w':World=>w'.cell? ⟨bx,0,none⟩=some (.int .i64 (f:Int))) _:=cell_below hHeld hbv
     refine hK.out _ _ (fun _=>hHeld) ?_
     clear hK K
     refine ol 7 rfl fun K hK=>?_
     go_simp
     refine (read_c Fd d S 2 x z I0 ⟨⟨show (-9223372036854775808:Int)<=2 by decide,show (2:Int)<=9223372036854775807 by decide⟩,Hx.out,Hz.out⟩ ⟨by omega,by omega⟩ vb HDb.out).mono ?_
     rintro _ vc ⟨hbc,hRc⟩
     have Hbc:Hid (Below w0.heap.size w0 vc):=Hbb.out.trans (hbc.mono Hbb.out.size)
     have HOc:Hid (Own vc w0.heap.size av cv (blks S.l (2,x,z) f j)):=HOb.out.later hbc
     rw [Hrd.out] at hRc
     rcases hRc with ⟨_,rfl⟩|⟨p,hp,rfl,hB,hl,hft⟩
     all_goals first | (exfalso;simp at hl;done) | skip
     replace hHeld:(fun w':World=>w'.cell? ⟨bx,0,none⟩=some (.int .i64 (f:Int))) _:=cell_below hHeld hbc
     refine hK.out _ _ (fun _=>hHeld) ?_
     clear hK K
     refine tk0 8 rfl (fun _ _ _ _ h=>h) hHeld fun K hK=>?_;go_simp;refine hK _ ?_;clear hK K
     refine tk0 9 rfl (fun _ _ _ _ h=>h) hHeld fun K hK=>?_;go_simp;refine hK _ ?_;clear hK K
     refine tk0 10 rfl (fun _ _ _ _ h=>h) hHeld fun K hK=>?_;go_simp;refine hK _ ?_;clear hK K
     refine tk0 11 rfl (fun _ _ _ _ h=>h) hHeld fun K hK=>?_;go_simp;refine hK _ ?_;clear hK K
     refine ol 12 rfl fun K hK=>?_
     go_simp
     refine hK.out _ _ (fun h=>absurd rfl h) ?_
     clear hK K
     refine done_L (by kernel_rfl) ?_ _
     go_simp
     have R:=HR.out _ Hbc.out
     clear HR
     go_wp2
     exact R
   | false =>
     have Hrd:Hid (S.read (2,x,z) I0=(0,blk S.l (2,x,z) (f+j))):=by show _=_;unfold St.read;rw [if_pos ⟨by omega,by omega⟩,hso,HI0.out];rfl
     clear HPd HPo HSo
     go_wp2_with fail
     refine region_L (fun w':World=>w'.cell? ⟨bx,0,none⟩=some (.int .i64 (f:Int))) 12 (by kernel_rfl) ?_
     have HBa:Hid (RB wr.drew g x z l):=HBw.out.keep rfl
     have HDa:Hid (PDisk Fd wr.drew d S):=HDw.out.keep (fun _ _=>rfl)
     have HFa:Hid (∀ k,Fd k->k<wr.drew.heap.size):=HFw.out
     have Hba:Hid (Below w0.heap.size w0 wr.drew):=⟨HBe.out.os,HBe.out.tape,HBe.out.output,HBe.out.size,HBe.out.block⟩
     have HOa:Hid (Own wr.drew w0.heap.size av cv (blks S.l (2,x,z) f j)):=HO.out
     have hca:wr.drew.cell? ⟨bx,0,none⟩=some (.int .i64 (f:Int)):=hcw
     clear HBw HDw HFw HBe HO hcw
     generalize wr.drew=va at *
     have hHeld:(fun w':World=>w'.cell? ⟨bx,0,none⟩=some (.int .i64 (f:Int))) _:=hca
     have hne:Nonempty (Sub (fun w':World=>w'.cell? ⟨bx,0,none⟩=some (.int .i64 (f:Int)))):=⟨⟨_,hHeld⟩⟩
     have k0:∀ s:Sub (fun w':World=>w'.cell? ⟨bx,0,none⟩=some (.int .i64 (f:Int))),s.w.cell? ⟨bx,0,none⟩=some (.int .i64 (f:Int)):=fun s=>s.ok
     refine tk0 0 rfl (fun _ _ _ _ h=>h) hHeld fun K hK=>?_;go_simp;refine hK _ ?_;clear hK K
     refine tk0 1 rfl (fun _ _ _ _ h=>h) hHeld fun K hK=>?_;go_simp;refine hK _ ?_;clear hK K
     refine tk0 3 rfl (fun _ _ _ _ h=>h) hHeld fun K hK=>?_;go_simp;refine hK _ ?_;clear hK K
     refine tk0 4 rfl (fun _ _ _ _ h=>h) hHeld fun K hK=>?_;go_simp;refine hK _ ?_;clear hK K
     refine tk0 5 rfl (fun _ _ _ _ h=>h) hHeld fun K hK=>?_;go_simp;refine hK _ ?_;clear hK K
     refine tk0 6 rfl (fun _ _ _ _ h=>h) hHeld fun K hK=>?_;go_simp;refine hK _ ?_;clear hK K
     refine ol 2 rfl fun K hK=>?_
     go_simp
     refine (file_c g x z l va HBa.out).mono ?_
     rintro _ vb ⟨rfl,hbv⟩
     have HDb:Hid (PDisk Fd vb d S):=HDa.out.keep (fun k hk=>hbv.block k (HFa.out k hk))
     have Hbb:Hid (Below w0.heap.size w0 vb):=Hba.out.trans (hbv.mono Hba.out.size)
     have HOb:Hid (Own vb w0.heap.size av cv (blks S.l (2,x,z) f j)):=HOa.out.later hbv
     clear HDa HBa HOa
     replace hHeld:(fun w':World=>w'.cell? ⟨bx,0,none⟩=some (.int .i64 (f:Int))) _:=cell_below hHeld hbv
     refine hK.out _ _ (fun _=>hHeld) ?_
     clear hK K
     refine ol 7 rfl fun K hK=>?_
     go_simp
     refine (read_c Fd d S 2 x z I0 ⟨⟨show (-9223372036854775808:Int)<=2 by decide,show (2:Int)<=9223372036854775807 by decide⟩,Hx.out,Hz.out⟩ ⟨by omega,by omega⟩ vb HDb.out).mono ?_
     rintro _ vc ⟨hbc,hRc⟩
     have Hbc:Hid (Below w0.heap.size w0 vc):=Hbb.out.trans (hbc.mono Hbb.out.size)
     have HOc:Hid (Own vc w0.heap.size av cv (blks S.l (2,x,z) f j)):=HOb.out.later hbc
     rw [Hrd.out] at hRc
     rcases hRc with ⟨hr2,rfl⟩|⟨p,hp,rfl,hB,hl,hft⟩
     ·exact absurd Hbl.out.1 (fun e=>by rw [show blk S.l (2,x,z) (f+j)=[] from hr2] at e;simp at e)
     replace hHeld:(fun w':World=>w'.cell? ⟨bx,0,none⟩=some (.int .i64 (f:Int))) _:=cell_below hHeld hbc
     refine hK.out _ _ (fun _=>hHeld) ?_
     clear hK K
     refine tk0 8 rfl (fun _ _ _ _ h=>h) hHeld fun K hK=>?_;go_simp;refine hK _ ?_;clear hK K
     refine tk0 9 rfl (fun _ _ _ _ h=>h) hHeld fun K hK=>?_;go_simp;refine hK _ ?_;clear hK K
     refine tk0 10 rfl (fun _ _ _ _ h=>h) hHeld fun K hK=>?_;go_simp;refine hK _ ?_;clear hK K
     refine tk0 11 rfl (fun _ _ _ _ h=>h) hHeld fun K hK=>?_;go_simp;refine hK _ ?_;clear hK K
     refine ol 12 rfl fun K hK=>?_
     go_simp
     refine hK.out _ _ (fun h=>absurd rfl h) ?_
     clear hK K
     refine done_L (by kernel_rfl) ?_ _
     go_simp
     have HBy:Hid (Bytes vc (some ⟨p,0,none⟩) 32 (blk S.l (2,x,z) (f+j))):=blk_bytes hB Hbl.out.2 hl
     have Hbd:32*j+32<=140737488355328:=by omega
     clear hB hl hft Hbl
     go_wp2_with (at_builtin;refine wpList_append_bytes rfl _ _ rfl w0.heap.size av (32*j) cv (blks S.l (2,x,z) f j) Hol.out rfl HOc.out (some ⟨p,0,none⟩) 32 32 _ rfl HBy.out (fun h=>by cases h) Hbd w0 Hbc.out Hbc.out.size ?_;intro a' c' w' HO' Hb' _)
     go_roundw
     case rel=>exact ⟨j+1,a',c',by omega,by go_num,by rw [Nat.mul_add],by rw [Hnext.out];exact HO'.out,Hb',.inl (by first | exact hso | trivial)⟩
     case measure=>simp [intOf];omega
  ·obtain rfl:j=m:=by omega
   have hge:¬ (j:Int)<(j:Int):=by omega
   have R:=HPo.out HSo.out wr av cv (Hb0.out.trans (HBe.out.mono Hb0.out.size)) (HO.out.base Hb0.out.size)
   clear HPd HPo HSo HO HBe
   go_wp2
   exact R
end Go.Proofs.YtlllmmceoeihkaaGreat
set_option maxRecDepth 20000
namespace Go.Proofs.YtlllmmceoeihkaaGreat
open Go.RowKit
theorem cut_to (a:Option Addr) (N c n:Nat) (hn:n<=c) (ha:a=none->c=0) (hz:∀ ad,a=some ad->∃ p,ad=⟨p,0,none⟩) (w:World):(Instr.sliceAt 61 (.slice a N c) none (some (.int .i64 (n:Int))) none).run Tryz.prog w = .ok (.slice a n c) w:=by
 rw [run_sliceAt_slice w 61 _ _ _ _ (by kernel_rfl),run_slice_h w 61 a N c (by kernel_rfl) .i64 n (by omega) (by omega),show Tryz.prog.elem 61=5 by kernel_rfl,size5N,Result.andThen_ok,Int.toNat_natCast]
 unfold sliced
 by_cases hc:c=0
 ·rw [if_pos hc];simp
 ·rw [if_neg hc]
  cases a with
  | none=>exact absurd (ha rfl) hc
  | some ad =>
    obtain ⟨p,rfl⟩:=hz ad rfl
    show Result.ok (Value.slice (some ((⟨p,0,none⟩:Addr).add (0*1))) _ _) w=_
    rw [Addr.add_mid]
    simp
theorem bytes_head {w:World} {a:Option Addr} {n m:Nat} {xs:List Int} (h:Bytes w a n xs) (hm:m<=n):Bytes w a m (xs.take m):=by
 have hn:=h.n
 refine ⟨by rw [List.length_take];omega,?_,fun z hz=>h.fit z (List.mem_of_mem_take hz)⟩
 rcases h.cells with e | ⟨b,off,e,hc⟩
 ·exact .inl (by rw [e];simp)
 ·refine .inr ⟨b,off,e,fun k hk=>?_⟩
  rw [List.length_take] at hk
  rw [List.getElem_take]
  exact hc k (by omega)
def opS (L:List Bk) (x z:Int) (h:En):Sp×List Int:=(h.1,(blks L (2,x,z) h.1.1 h.1.2).take h.2)
structure Oi (w:World) (g:Nat) (x z:Int) (L:List Bk) (hs:List En) (lb k:Nat) (wr:World):Prop where
 it:∃ sl:List Sm,RB wr g x z (sl++(hs.map mkS).drop k)∧sl.map (fun s=>(s.sp,s.b))=(hs.take k).map (opS L x z)∧∀ s∈sl,Dt wr s∧∀ ad,s.a=some ad->w.heap.size<=ad.block
 ln:LRow wr lb (hs.map (·.2))
 bel:Below w.heap.size w wr
def OpenSay (S:St) (x z:Int) (w:World) (e:Ending) (w':World):Prop:=Below w.heap.size w w' ∧
 ((S.out=true∧e = .returned (.tuple #[.pointer none,.int .i64 8]))∨(S.out=false∧¬ HdOk (headS S.l x z)∧e = .returned (.tuple #[.pointer none,.int .i64 4])) ∨
  (S.out=false∧HdOk (headS S.l x z)∧∃ g F,e = .returned (.tuple #[.pointer (some ⟨g,0,none⟩),.int .i64 0])∧RGs F w' g (rhoS S.l x z)∧∀ k,F k->w.heap.size<=k))
set_option maxHeartbeats 1000000 in
theorem open_c (Fd:Nat->Prop) (d:Nat) (S:St) (x z:Int) (w:World) (hx:I64 x) (hz:I64 z) (hD:PDisk Fd w d S) (hF:∀ k,Fd k->k<w.heap.size) :
  Calls Tryz.prog 61 #[.pointer (some ⟨d,0,none⟩),.int .i64 x,.int .i64 z] w (OpenSay S x z w):=by
 obtain ⟨Post,hPost⟩:∃ Post:Ending->World->Prop,Post=OpenSay S x z w:=⟨_,rfl⟩
 rw [<- hPost]
 have HP8:Hid (∀ w',S.out=true->Below w.heap.size w w'->Post (.returned (.tuple #[.pointer none,.int .i64 8])) w'):=fun w' h1 h2=>by rw [hPost];exact ⟨h2,.inl ⟨h1,rfl⟩⟩
 have HP4:Hid (∀ w',S.out=false->¬ HdOk (headS S.l x z)->Below w.heap.size w w'->Post (.returned (.tuple #[.pointer none,.int .i64 4])) w'):=fun w' h1 h2 h3=>by rw [hPost];exact ⟨h3,.inr (.inl ⟨h1,h2,rfl⟩)⟩
 have HP0:Hid (∀ w' g F,S.out=false->HdOk (headS S.l x z)->RGs F w' g (rhoS S.l x z)->(∀ k,F k->w.heap.size<=k)->Below w.heap.size w w'->Post (.returned (.tuple #[.pointer (some ⟨g,0,none⟩),.int .i64 0])) w'):=fun w' g F h1 h2 h3 h4 h5=>by rw [hPost];exact ⟨h5,.inr (.inr ⟨h1,h2,g,F,rfl,h3,h4⟩)⟩
 clear hPost
 obtain ⟨mb,ml,hD0⟩:=hD
 have Hgd:Hid (Good S.l∧∀ b∈S.l,∀ y∈b.b,0<=y∧y<=255):=⟨hD0.ok,hD0.fit⟩
 have HD:Hid (PDisk Fd w d S):=⟨mb,ml,hD0⟩
 have HF:Hid (∀ k,Fd k->k<w.heap.size):=hF
 have Hx:Hid (I64 x):=hx
 have Hz:Hid (I64 z):=hz
 clear hD0 hF hx hz
 go_enter Tryz.func61,Tryz.ntmps61
 go_wp2_with fail
 generalize hw1:w.alloc _=w1
 have hal:w1.heap[w.heap.size]?=some (.cells (rgv x z (List.replicate 16 zS)).toArray 134 (0,0)):=by rw [<- hw1];exact heap_alloc_new w _
 have hb1:Below w.heap.size w w1:=by rw [<- hw1];exact (Below.refl _ _).alloc (Nat.le_refl _) _
 have HB1:Hid (RB w1 w.heap.size x z (List.replicate 16 zS)):=⟨hal,by simp⟩
 have Hb1:Hid (Below w.heap.size w w1):=hb1
 have HD1:Hid (PDisk Fd w1 d S):=HD.out.keep (fun k hk=>hb1.block k (HF.out k hk))
 have HF1:Hid (∀ k,Fd k->k<w1.heap.size):=fun k hk=>Nat.lt_of_lt_of_le (HF.out k hk) hb1.size
 clear hw1 hal hb1
 refine (rread_c Fd d w.heap.size S x z (List.replicate 16 zS) 0 2 w1 HB1.out HD1.out HF1.out Hx.out Hz.out (by omega) (by omega)).mono ?_
 rintro _ w2 ⟨hb2,⟨ho,_,rfl⟩|⟨ho,a,c,rfl,hO⟩⟩
 ·have R:=HP8.out w2 ho (Hb1.out.trans (hb2.mono Hb1.out.size))
  clear HP8 HP4 HP0 hb2
  go_wp2
  exact R
 ·have hso:S.out=false:=ho.elim id (fun h=>by omega)
  have hbok:=blks_ok Hgd.out.1 Hgd.out.2 (2,x,z) 2 0
  have hlen:(blks S.l (2,x,z) 0 2).length=64:=by rw [hbok.1]
  have hby:Bytes w2 a 64 (blks S.l (2,x,z) 0 2):=hO.bytes hbok.2 64 hlen
  have hcap:64<=c:=by
   rcases hO.parts with ⟨_,_,e⟩|⟨_,_,_,_,_,_,h⟩
   ·rw [e] at hlen;simp at hlen
   ·omega
  have HB2:Hid (RB w2 w.heap.size x z (List.replicate 16 zS)):=HB1.out.on hb2
  have Hb2:Hid (Below w.heap.size w w2):=Hb1.out.trans (hb2.mono Hb1.out.size)
  have HY2:Hid (Bytes w2 a 64 (blks S.l (2,x,z) 0 2)):=hby
  have Hcap:Hid (64<=c):=hcap
  have Hso:Hid (S.out=false):=hso
  clear hby hcap hO hlen hbok hb2 ho HP8 HB1 Hb1 hso HD1 HF1
  go_wp2_with fail
  refine (place_c w.heap.size x z a c (blks S.l (2,x,z) 0 2) w2 HB2.out HY2.out Hcap.out).mono ?_
  rintro _ w3 ⟨hC3,⟨hbad,rfl⟩|⟨hok,rfl,hB3⟩⟩
  ·have hb3:Below w.heap.size w w3:=Hb2.out.trans (hC3.below (fun k hk=>by rw [hk];exact Nat.le_refl _) Hb2.out.size)
   have hb4:Below w.heap.size w (w3.alloc (.cells (lvals (List.replicate 16 0)).toArray 162)):=hb3.alloc hb3.size _
   have R:=HP4.out _ Hso.out hbad hb4
   have e16:(lvals (List.replicate 16 0)).toArray = #[.int .i64 0,.int .i64 0,.int .i64 0,.int .i64 0,.int .i64 0,.int .i64 0,.int .i64 0,.int .i64 0,.int .i64 0,.int .i64 0,.int .i64 0,.int .i64 0,.int .i64 0,.int .i64 0,.int .i64 0,.int .i64 0]:=by rfl
   rw [e16] at R ⊢
   clear HP4 HP0 hb3 hb4 hC3 e16 HB2 HY2
   go_wp2
   exact R
  ·have hb3:Below w.heap.size w w3:=Hb2.out.trans (hC3.below (fun k hk=>by rw [hk];exact Nat.le_refl _) Hb2.out.size)
   obtain ⟨hs,hhs⟩:∃ hs,hs=headS S.l x z:=⟨_,rfl⟩
   have ehs:entS (blks S.l (2,x,z) 0 2)=hs:=hhs.symm
   rw [ehs] at hok hB3 ⊢
   have Hhl:Hid (hs.length=16):=by show _=_;rw [<- ehs];exact entN_len _
   have Hok:Hid (HdOk hs):=hok
   have Hhs:Hid (hs=headS S.l x z):=hhs
   obtain ⟨Y,hY⟩:∃ Y,Y=(lvals (hs.map (·.2))).toArray:=⟨_,rfl⟩
   have HYe:Hid (Y=(lvals (hs.map (·.2))).toArray):=hY
   rw [<- hY]
   have Hys:Hid (Y.size=16):=by show _=_;rw [hY];simp [lvals];exact Hhl.out
   have Hyo:Hid (Y.all (·.oneCell')=true):=by show _=_;rw [hY];simp [lvals,Value.oneCell']
   have HB3:Hid (RB w3 w.heap.size x z (hs.map mkS)):=hB3
   have Hb3:Hid (Below w.heap.size w w3):=hb3
   clear hhs ehs hok hB3 hb3 hC3 hY HP4 HB2 HY2 Hb2
   go_wp2_with (refine wpList_store_row rfl 162 (.tmp 11) (.tmp 33) rfl w3.heap.size Y rfl rfl 162 _ (heap_alloc_new w3 _) (by rw [Hys.out];exact size162) (by rw [Hys.out];rfl) Hyo.out ?_)
   generalize hw4:(w3.alloc _).setRow w3.heap.size Y=w4
   have hln:LRow w4 w3.heap.size (hs.map (·.2)):=by show _=_;rw [<- HYe.out,<- hw4];exact setRow_heap _ w3.heap.size _ Y 162 (0,0) (heap_alloc_new w3 _)
   have hb4:Below w3.heap.size w3 w4:=by rw [<- hw4];exact below_setRow ((Below.refl _ _).alloc (Nat.le_refl _) _) (Nat.le_refl _)
   have HO0:Hid (Oi w w.heap.size x z S.l hs w3.heap.size 0 w4):=⟨⟨[],HB3.out.on hb4,rfl,fun s hs=>by simp at hs⟩,hln,Hb3.out.trans (hb4.mono Hb3.out.size)⟩
   obtain ⟨lb,hlb⟩:∃ lb,lb=w3.heap.size:=⟨_,rfl⟩
   rw [<- hlb] at HO0 ⊢
   have Hlb:Hid (w.heap.size<lb):=by show _<_;rw [hlb];exact HB3.out.lt
   clear hw4 hln hb4 HB3 Hb3 Hys Hyo HYe hlb
   go_loopw [38] (fun v wr=>∃ (k:Nat),k<=16∧v = .int .i64 (k:Int)∧Hid (Oi w w.heap.size x z S.l hs lb k wr)) (fun v _=>16-(intOf v).toNat)
   case atStart=>exact ⟨0,Nat.zero_le _,by go_num,HO0⟩
   case round =>
    clear HO0
    obtain ⟨k,hk,rfl,HI⟩:=hrel
    obtain ⟨sl,hR,hmap,hDt⟩:=HI.out.it
    have hsll:sl.length=k:=by
     have:=congrArg List.length hmap
     rw [List.length_map,List.length_map,List.length_take,Hhl.out] at this
     omega
    by_cases hlt:k<16
    ·have hlt':(k:Int)<16:=by omega
     have hkl:k<hs.length:=by rw [Hhl.out];exact hlt
     have hkr:k<(sl++(hs.map mkS).drop k).length:=by rw [hR.n];exact hlt
     have hgk:(sl++(hs.map mkS).drop k)[k]=mkS hs[k]:=by
      rw [List.getElem_append_right (by omega),List.getElem_drop,List.getElem_map]
      congr 2
      omega
     obtain ⟨⟨⟨f,m⟩,n⟩,he⟩:∃ h,hs[k]=h:=⟨_,rfl⟩
     have q0:=(hR.cells k hkr).1
     have q1:=(hR.cells k hkr).2.1
     have q2:=(hR.cells k hkr).2.2
     rw [hgk,he] at q0 q1 q2
     simp only [mkS,List.length_nil] at q0 q1 q2
     have hent:=Hok.out.ok hs[k] (List.getElem_mem hkl)
     rw [he] at hent
     have hnm:n<=32*m∧f<1000∧m<1000:=by
      rcases hent with h | ⟨h1,h2,h3,h4⟩
      ·simp only [Prod.mk.injEq] at h
       omega
      ·simp only at h1 h2 h3 h4
       unfold needS at h2
       omega
     obtain ⟨hnm1,hf1,hm1⟩:=hnm
     have HR:Hid (RB wr w.heap.size x z (sl++(hs.map mkS).drop k)):=hR
     have HD:Hid (PDisk Fd wr d S):=HD.out.keep (fun k hk=>HI.out.bel.block k (HF.out k hk))
     have HFw:Hid (∀ k,Fd k->k<wr.heap.size):=fun k hk=>Nat.lt_of_lt_of_le (HF.out k hk) HI.out.bel.size
     have Hmap:Hid (sl.map (fun s=>(s.sp,s.b))=(hs.take k).map (opS S.l x z)):=hmap
     have HDt:Hid (∀ s∈sl,Dt wr s∧∀ ad,s.a=some ad->w.heap.size<=ad.block):=hDt
     have He:Hid (hs[k]=((f,m),n)):=he
     have Hbe:Hid (Below w.heap.size w wr):=HI.out.bel
     have Hln:Hid (LRow wr lb (hs.map (·.2))):=HI.out.ln
     have Hgk:Hid ((sl++(hs.map mkS).drop k)[k]=⟨f,m,none,0,[]⟩):=by show _=_;rw [hgk,he];rfl
     clear hR hmap hDt he hgk hent HI HP0
     go_wp2_with fail
     refine (rread_c Fd d w.heap.size S x z _ f m wr HR.out HD.out HFw.out Hx.out Hz.out hf1 hm1).mono ?_
     rintro _ w5 ⟨hb5,⟨ho,_,_⟩|⟨_,a5,c5,rfl,hO5⟩⟩
     ·rw [Hso.out] at ho;cases ho
     have hbok:=blks_ok Hgd.out.1 Hgd.out.2 (2,x,z) m f
     have hby5:Bytes w5 a5 (32*m) (blks S.l (2,x,z) f m):=hO5.bytes hbok.2 _ hbok.1
     have hc5:32*m<=c5∧(a5=none->c5=0)∧∀ ad,a5=some ad->∃ p,ad=⟨p,0,none⟩∧wr.heap.size<=p:=by
      rcases hO5.parts with ⟨e1,e2,e3⟩|⟨p,e1,e2,_,_,_,h⟩
      ·have:32*m=0:=by rw [<- hbok.1,e3];rfl
       exact ⟨by omega,(fun _=>e2),(fun ad had=>by rw [e1] at had;cases had)⟩
      ·exact ⟨by rw [<- hbok.1];exact h,(fun h0=>by rw [e1] at h0;cases h0),(fun ad had=>by rw [e1] at had;cases had;exact ⟨p,rfl,e2⟩)⟩
     obtain ⟨hc5a,hc5b,hc5c⟩:=hc5
     have hcut:=cut_to a5 (32*m) c5 n (by omega) hc5b (fun ad had=>(hc5c ad had).imp (fun p hp=>hp.1))
     have HR5:Hid (RB w5 w.heap.size x z (sl++(hs.map mkS).drop k)):=HR.out.on hb5
     have hq5:w5.cell? ⟨lb,k,none⟩=some (.int .i64 (n:Int)):=by
      have:=(Hln.out.on hb5).at (i:=k) (by rw [List.length_map];exact hkl)
      rw [this,List.getElem_map,He.out]
     have q61:=cell_below q2 hb5
     have f61:=HR5.out.free (2+k*3+2)
     have HO5:Hid (Oi w w.heap.size x z S.l hs lb (k+1) ((w5.drewN 1).setCell ⟨w.heap.size,2+k*3+2,none⟩ (.slice a5 n c5))):=by
      have hO:Only w.heap.size w5 (w5.setCell ⟨w.heap.size,2+k*3+2,none⟩ (.slice a5 n c5)):=(Only.refl _ _).set _ _
      have hdl:((blks S.l (2,x,z) f m).take n).length=n:=by rw [List.length_take,hbok.1];omega
      have hset:=HR5.out.setDat k a5 c5 ((blks S.l (2,x,z) f m).take n) hkr
      rw [hdl] at hset
      rw [Hgk.out] at hset
      have e:(sl++(hs.map mkS).drop k).set k ⟨f,m,a5,c5,(blks S.l (2,x,z) f m).take n⟩=(sl++[⟨f,m,a5,c5,(blks S.l (2,x,z) f m).take n⟩])++(hs.map mkS).drop (k+1):=by
       rw [List.set_append_right _ _ (by omega),hsll,Nat.sub_self,List.drop_eq_getElem_cons (show k<(hs.map mkS).length by rw [List.length_map];exact hkl),List.set_cons_zero,List.append_assoc]
       rfl
      simp only at hset
      rw [e] at hset
      have hbel:Below w.heap.size w (w5.setCell ⟨w.heap.size,2+k*3+2,none⟩ (.slice a5 n c5)):=(Hbe.out.trans (hb5.mono Hbe.out.size)).setCell (p:=⟨w.heap.size,2+k*3+2,none⟩) (Nat.le_refl _) _
      refine ⟨⟨_,hset.keep rfl,?_,fun s hs'=>?_⟩,?_,⟨hbel.os,hbel.tape,hbel.output,hbel.size,hbel.block⟩⟩
      ·rw [List.map_append,Hmap.out,List.take_succ_eq_append_getElem hkl,List.map_append,He.out]
       rfl
      ·have hD5:∀ s,Dt w5 s->Dt ((w5.drewN 1).setCell ⟨w.heap.size,2+k*3+2,none⟩ (.slice a5 n c5)) s:=fun s hd=>by
        have:=bytes_away HR5.out hd.by_ _ hO
        exact ⟨⟨this.n,this.cells,this.fit⟩,hd.nil,hd.cap⟩
       rcases List.mem_append.1 hs' with h | h
       ·exact ⟨hD5 s ((HDt.out s h).1.on hb5),(HDt.out s h).2⟩
       ·rw [List.mem_singleton.1 h]
        refine ⟨hD5 _ ⟨?_,hc5b,?_⟩,fun ad had=>?_⟩
        ·simp only
         rw [hdl]
         exact bytes_head hby5 hnm1
        ·simp only
         rw [hdl]
         omega
        ·obtain ⟨p,rfl,hp⟩:=hc5c ad had
         have:=Hbe.out.size
         simp only
         omega
      ·exact (hO.block lb (by have:=Hlb.out;omega)).trans (Hln.out.on hb5)
     have hq6:(w5.drewN 1).cell? ⟨lb,k,none⟩=some (.int .i64 (n:Int)):=hq5
     have q25:(w5.drewN 1).cell? ⟨w.heap.size,2+k*3+2,none⟩=some (.slice none 0 0):=q61
     have f25:(w5.drewN 1).frozen? ⟨w.heap.size,2+k*3+2,none⟩=false:=f61
     clear hO5 hby5 hb5 hbok hc5c HR5 HR HD HFw Hmap HDt He Hbe Hln Hgk hq5 q61 f61 q0 q1 q2
     go_wp2_with fail
     refine wp_region_tail 11 (by kernel_rfl) (by kernel_rfl) ?_
     simp only [List.take_succ_cons,List.take_zero,List.drop_succ_cons,List.drop_zero]
     repeat still_step
     refine wpStill_nil ?_
     generalize w5.drewN 1=w6 at *
     go_wp2
     go_roundw
     case rel=>exact ⟨k+1,by omega,by go_num,HO5⟩
     case measure=>simp [intOf];omega
    ·obtain rfl:k=16:=by omega
     have hge:¬ ((16:Nat):Int)<16:=by omega
     have e1:(hs.map mkS).drop 16=[]:=List.drop_of_length_le (by rw [List.length_map,Hhl.out];exact Nat.le_refl _)
     have e2:hs.take 16=hs:=List.take_of_length_le (by rw [Hhl.out];exact Nat.le_refl _)
     rw [e1,List.append_nil] at hR
     rw [e2] at hmap
     have hsp:sl.map Sm.sp=(rhoS S.l x z).sp:=by
      have:=congrArg (List.map Prod.fst) hmap
      rw [List.map_map,List.map_map] at this
      show sl.map Sm.sp=(headS S.l x z).map (·.1)
      rw [<- Hhs.out]
      exact this
     have hdt:sl.map Sm.b=(rhoS S.l x z).dat:=by
      have:=congrArg (List.map Prod.snd) hmap
      rw [List.map_map,List.map_map] at this
      show sl.map Sm.b=(headS S.l x z).map (fun h=>(blks S.l (2,x,z) h.1.1 h.1.2).take h.2)
      rw [<- Hhs.out]
      exact this
     have hok:HdOk (headS S.l x z):=by rw [<- Hhs.out];exact Hok.out
     have R:=HP0.out wr w.heap.size (fun k=>w.heap.size<=k∧k<wr.heap.size) Hso.out hok
      ⟨⟨sl,hR,fun s hs'=>⟨(hDt s hs').1,fun hne=>by
        rcases (hDt s hs').1.by_.cells with e | ⟨b,off,e,hc⟩
        ·exact absurd e hne
        ·exact ⟨b,off,e,(hDt s hs').2 ⟨b,off,none⟩ e,World.block_lt_of_cell? wr _ (hc 0 (List.length_pos_iff.2 hne))⟩⟩,hsp,hdt⟩,rho_good Hgd.out.1 Hgd.out.2 hok,Hx.out,Hz.out,⟨Nat.le_refl _,hR.lt⟩,fun k hk=>hk.2⟩ (fun k hk=>hk.1) HI.out.bel
     clear HP0 hR hmap hDt HI hsp hdt hok
     go_wp2
     exact R
end Go.Proofs.YtlllmmceoeihkaaGreat
set_option maxRecDepth 20000
namespace Go.Proofs.YtlllmmceoeihkaaGreat
section
open Go.RowKit
def PlanSay (F:Nat->Prop) (ρ:Rho) (L:List Cs) (w:World) (e:Ending) (w':World):Prop:=Below w.heap.size w w' ∧
 (((planS ρ.dat L).1≠0∧∃ pa pc,e = .returned (.tuple #[.slice pa 0 pc,.pointer none,.int .i64 (planS ρ.dat L).1])) ∨
  ((planS ρ.dat L).1=0∧∃ pa pc g' F' sp' ps,e = .returned (.tuple #[.slice pa ps.length pc,.pointer (some ⟨g',0,none⟩),.int .i64 0]) ∧
   RGs F' w' g' ⟨ρ.x,ρ.z,sp',(planS ρ.dat L).2⟩∧PbsF F' w' pa ρ.file ps∧(∀ k,F' k->F k∨w.heap.size<=k)∧PsOk ps ∧
   ∀ L',Good L'->OnD L' ρ->OnD (putAll ρ.file L' ps) ⟨ρ.x,ρ.z,sp',(planS ρ.dat L).2⟩))
theorem pbs_at {w:World} {B:Nat} {a:Option Addr} {c:Nat} {f:Fl} {ps:List Pb} (hO:OwnPb w B a c f ps) (hR:PbRows B w ps) (hok:PsOk ps):PbsAt w a f ps:=fun k hk=>by
 rcases hO.2 with ⟨_,h0⟩|⟨g,cap,cur,hv,_,_⟩
 ·omega
 ·simp only [Value.slice.injEq] at hv
  have hO':w.ownsRow B 181 5 (.slice (some ⟨g,0,none⟩) ps.length c) ps.length (pbCells f ps):=by rw [<- hv.1];exact hO
  have hcell:∀ j,j<5->w.cell? ⟨g,0+k*5+j,none⟩=(pbc f ps[k])[j]?:=fun j hj=>by
   rw [Nat.zero_add,<- pbCells_at f ps k j hk hj]
   exact World.ownsRow.cellAt hO' (k*5+j) (by omega)
  obtain ⟨q,_,ha,hrow,hc⟩:=hR ps[k] (List.getElem_mem hk)
  have ho:=hok.ok ps[k] (List.getElem_mem hk)
  refine ⟨g,0,hv.1,hcell 0 (by omega),hcell 1 (by omega),hcell 2 (by omega),hcell 3 (by omega),hcell 4 (by omega),?_⟩
  rw [ha]
  exact hrow.bytes ho.2.2 32 ho.2.1
theorem pbs_F {w:World} {B:Nat} {F:Nat->Prop} {a:Option Addr} {c:Nat} {f:Fl} {ps:List Pb} (hO:OwnPb w B a c f ps) (hR:PbRows B w ps) (hok:PsOk ps) (hF:∀ k,B<=k->k<w.heap.size->F k) (hl:∀ k,F k->k<w.heap.size):PbsF F w a f ps:=by
 refine ⟨fun w' hk=>?_,hl⟩
 refine pbs_at (B:=B) (c:=c) ?_ (fun p hp=>?_) hok
 ·refine ⟨hO.1,?_⟩
  rcases hO.2 with h | ⟨g,cap,cur,hv,hg,hh,r⟩
  ·exact .inl h
  ·exact .inr ⟨g,cap,cur,hv,hg,(hk g (hF g hg (Array.getElem?_eq_some_iff.1 hh).1)).trans hh,r⟩
 ·obtain ⟨q,h1,h2,h3,h4⟩:=hR p hp
  exact ⟨q,h1,h2,(hk q (hF q h1 h3.lt)).trans h3,h4⟩
set_option maxHeartbeats 1000000 in
theorem plan_c (F:Nat->Prop) (g:Nat) (ρ:Rho) (a:Option Addr) (n c:Nat) (l:List Cg) (w:World) (H:RGs F w g ρ) (hC:CgsAt w a l) (hn:l.length=n) (hM:n<=maxLen) :
  Calls Tryz.prog 74 #[.pointer (some ⟨g,0,none⟩),.slice a n c] w (PlanSay F ρ (l.map Cg.cs) w):=by
 obtain ⟨Post,hPost⟩:∃ Post:Ending->World->Prop,Post=PlanSay F ρ (l.map Cg.cs) w:=⟨_,rfl⟩
 rw [<- hPost]
 have HPn:Hid (∀ w' v,(planS ρ.dat (l.map Cg.cs)).1=v->v≠0->Below w.heap.size w w'->Post (.returned (.tuple #[.slice none 0 0,.pointer none,.int .i64 v])) w'):=fun w' v h1 h2 h3=>by rw [hPost];exact ⟨h3,.inl ⟨by rw [h1];exact h2,none,0,by rw [h1]⟩⟩
 have HPy:Hid (∀ w' pa pc g' F' sp' ps,(planS ρ.dat (l.map Cg.cs)).1=0->RGs F' w' g' ⟨ρ.x,ρ.z,sp',(planS ρ.dat (l.map Cg.cs)).2⟩->PbsF F' w' pa ρ.file ps->(∀ k,F' k->F k∨w.heap.size<=k)->PsOk ps->(∀ L',Good L'->OnD L' ρ->OnD (putAll ρ.file L' ps) ⟨ρ.x,ρ.z,sp',(planS ρ.dat (l.map Cg.cs)).2⟩)->Below w.heap.size w w'->Post (.returned (.tuple #[.slice pa ps.length pc,.pointer (some ⟨g',0,none⟩),.int .i64 0])) w'):=fun w' pa pc g' F' sp' ps h1 h2 h3 h4 h5 h6 h7=>by rw [hPost];exact ⟨h7,.inr ⟨h1,pa,pc,g',F',sp',ps,rfl,h2,h3,h4,h5,h6⟩⟩
 clear hPost
 obtain ⟨sl,hB,hD,hsp,hdat⟩:=H.it
 have HB:Hid (RB w g ρ.x ρ.z sl):=hB
 have HD:Hid (∀ s∈sl,Dt w s∧(s.b≠[]->∃ b off,s.a=some ⟨b,off,none⟩∧F b)):=hD
 have Hsp:Hid (sl.map Sm.sp=ρ.sp):=hsp
 have Hdat:Hid (sl.map Sm.b=ρ.dat):=hdat
 have HG:Hid (RGs F w g ρ):=H
 have HC:Hid (CgsAt w a l):=hC
 have Hn:Hid (l.length=n):=hn
 have HM:Hid (n<=maxLen):=hM
 clear H hC hn hM hB hD hsp hdat
 go_enter Tryz.func74,Tryz.ntmps74
 go_wp2_with fail
 refine (apart_c ρ.dat a n c l w HC.out Hn.out HM.out).mono ?_
 rintro _ w1 ⟨rfl,hb1⟩
 cases hch:chgAll ρ.dat [] (l.map Cg.cs) with
 | none =>
   have R:=HPn.out w1 1 (by unfold planS;rw [hch]) (by decide) hb1
   clear HPn HPy hb1
   simp only [Option.isSome_none]
   go_wp2
   exact bodyPost_ret (results_tmp3 (t:=4) (u:=5) (v:=6) rfl _ _ _) rfl R
 | some d' =>
   have Hb1:Hid (Below w.heap.size w w1):=hb1
   have HB1:Hid (RB w1 g ρ.x ρ.z sl):=HB.out.on hb1
   have HC1:Hid (CgsAt w1 a l):=HC.out.on hb1
   have Hch:Hid (chgAll (sl.map Sm.b) [] (l.map Cg.cs)=some d'):=by show _=_;rw [Hdat.out];exact hch
   have Hok:Hid (∀ s∈sl,slotOk s.sp s.b):=good_sl HG.out.good Hsp.out Hdat.out
   simp only [Option.isSome_some]
   clear hb1
   go_wp2_with fail
   refine (fits_c g ρ.x ρ.z sl d' a n c l w1 HB1.out (fun s hs=>(slotOk_fit (Hok.out s hs)).2.2.1) HC1.out Hn.out HM.out Hch.out).mono ?_
   rintro _ w2 ⟨rfl,hb2⟩
   have hb12:=Hb1.out.trans (hb2.mono Hb1.out.size)
   by_cases hfit:2+needAll d'<=40
   ·have hpl:planS ρ.dat (l.map Cg.cs)=(0,d'):=by unfold planS;rw [hch];simp only;rw [if_pos hfit]
    have Hfit:Hid (2+needAll d'<=40):=hfit
    rw [hpl] at HPy
    have HB2:Hid (RB w2 g ρ.x ρ.z sl):=HB1.out.on hb2
    have HC2:Hid (CgsAt w2 a l):=HC1.out.on hb2
    have HD2:Hid (∀ s∈sl,Dt w2 s):=fun s hs=>(HD.out s hs).1.on hb12
    have Hb2:Hid (Below w.heap.size w w2):=hb12
    rw [decide_eq_true hfit]
    clear HPn hb2 hb12 HB1 HC1 Hb1 hpl hch hfit
    go_wp2_with fail
    refine (with_c g ρ.x ρ.z sl d' a n c l w2 HB2.out HD2.out HC2.out Hn.out HM.out Hch.out).mono ?_
    rintro _ w3 ⟨hb3,rfl,sl',hB3,hD3,hbd,hrel⟩
    have hlen:sl'.length=sl.length:=hB3.n.trans HB2.out.n.symm
    have hSW:∀ s∈sl',slotOk s.sp s.b∨s.sp=(0,0):=fun s hs=>by
     obtain ⟨k,hk,rfl⟩:=List.mem_iff_getElem.1 hs
     rcases hrel k hk (by omega) with e | h
     ·rw [e];exact .inl (Hok.out _ (List.getElem_mem _))
     ·exact .inr (Prod.ext h.1 h.2.1)
    have hPt:Part (sl'.map Sm.sp):=by
     refine ⟨fun x hx=>?_,fun i=>?_⟩
     ·obtain ⟨s,hs,rfl⟩:=List.mem_map.1 hx
      rcases hSW s hs with h | h
      ·exact (slotOk_fit h).2.2.2.2
      ·exact .inl h
     ·refine Nat.le_trans (cnt_le_of sl sl' hlen (fun k h h'=>?_) i) ?_
      ·rcases hrel k h h' with e | h
       ·exact .inl (by rw [e])
       ·exact .inr (Prod.ext h.1 h.2.1)
      ·rw [Hsp.out];exact HG.out.good.once i
    have hfitb:∀ s∈sl',∀ y∈s.b,0<=y∧y<=255:=fun s hs=>(hD3 s hs).by_.fit
    have hGd:=layF_good (hB3.n) hPt hSW (by rw [hbd];exact Hfit.out) hfitb
    rw [hbd] at hGd
    have hldat:(layF sl').map Sm.b=d':=(dat_b (layF_dat sl')).trans hbd
    have HB3:Hid (RB w3 w2.heap.size ρ.x ρ.z sl'):=hB3
    have HD3:Hid (∀ s∈sl',Dt w3 s):=hD3
    have Hrel:Hid (∀ k (h:k<sl'.length) (h':k<sl.length),sl'[k]=sl[k]∨New w2.heap.size sl'[k]):=hrel
    have HGd:Hid (GoodR ((layF sl').map Sm.sp) d'):=hGd
    have Hld:Hid ((layF sl').map Sm.b=d'):=hldat
    have Hb3:Hid (Below w2.heap.size w2 w3):=hb3
    have Hsm:Hid (∀ s∈sl',s.f<1000∧s.m<1000∧s.b.length<=2000):=fun s hs=>by
     have hl:=len_le Hfit.out (b:=s.b) (by rw [<- hbd];exact List.mem_map.2 ⟨s,hs,rfl⟩)
     rcases hSW s hs with h | h
     ·have:=slotOk_fit h
      have h1:s.f<256:=this.1
      have h2:s.m<256:=this.2.1
      exact ⟨by omega,by omega,by omega⟩
     ·have h1:s.f=0:=congrArg Prod.fst h
      have h2:s.m=0:=congrArg Prod.snd h
      exact ⟨by omega,by omega,by omega⟩
    have Hlen:Hid (sl'.length=sl.length):=hlen
    have Hbd:Hid (sl'.map Sm.b=d'):=hbd
    clear hb3 hB3 hD3 hbd hrel hlen hSW hPt hfitb hGd hldat
    go_wp2_with fail
    refine (lay_c w2.heap.size ρ.x ρ.z sl' w3 HB3.out Hsm.out).mono ?_
    rintro _ w4 ⟨rfl,hB4,hC4⟩
    have HB4:Hid (RB w4 w2.heap.size ρ.x ρ.z (layF sl')):=hB4
    have HC4:Hid (Chg (fun k=>k=w2.heap.size) w3 w4):=hC4
    have HD4:Hid (∀ s∈layF sl',Dt w4 s):=fun s hs=>by
     have hd:dOf s∈(layF sl').map dOf:=List.mem_map.2 ⟨s,hs,rfl⟩
     rw [layF_dat] at hd
     obtain ⟨s',hs',e⟩:=List.mem_map.1 hd
     have e1:s'.a=s.a:=congrArg Prod.fst e
     have e2:s'.c=s.c:=congrArg (fun q=>q.2.1) e
     have e3:s'.b=s.b:=congrArg (fun q=>q.2.2) e
     obtain ⟨q1,q2,q3⟩:=HD3.out s' hs'
     have:=bytes_chg HB3.out q1 HC4.out
     rw [e1,e3] at this
     rw [e1,e2] at q2
     rw [e2,e3] at q3
     exact ⟨this,q2,q3⟩
    have HGd2:Hid (GoodR ((layF sl').map Sm.sp) ((layF sl').map Sm.b)):=by show GoodR _ _;rw [Hld.out];exact HGd.out
    clear hB4 hC4
    go_wp2_with fail
    refine (blocks_c w2.heap.size ρ.x ρ.z (layF sl') w4 HB4.out (fit_of (good_sl HGd2.out rfl rfl)) HD4.out).mono ?_
    rintro _ w5 ⟨hb5,pa,pc,ps,rfl,hO,hR,hps⟩
    obtain ⟨hok,hput⟩:=plan_put HGd2.out hps ρ.x ρ.z
    have hs24:w2.heap.size<=w4.heap.size:=Nat.le_trans Hb3.out.size HC4.out.size
    have hs5:w4.heap.size<=w5.heap.size:=hb5.size
    have hb61:Below w2.heap.size w2 w5:=by
     have h4:Below w2.heap.size w3 w4:=HC4.out.below (fun k hk=>by rw [hk];exact Nat.le_refl _) Hb3.out.size
     exact (Hb3.out.trans h4).trans (hb5.mono hs24)
    have hbw5:Below w.heap.size w w5:=Hb2.out.trans (hb61.mono Hb2.out.size)
    have hlt2:w2.heap.size<w5.heap.size:=Nat.lt_of_lt_of_le HB4.out.lt hs5
    have hws:=Hb2.out.size
    have hF5:∀ k,(F k∨(w.heap.size<=k∧k<w5.heap.size))->k<w5.heap.size:=fun k hk=>hk.elim (fun h=>Nat.lt_of_lt_of_le (HG.out.lt k h) hbw5.size) (fun h=>h.2)
    have R:=HPy.out w5 pa pc w2.heap.size (fun k=>F k∨(w.heap.size<=k∧k<w5.heap.size)) ((layF sl').map Sm.sp) ps trivial
     ⟨⟨layF sl',HB4.out.on hb5,fun s hs=>⟨(HD4.out s hs).on hb5,fun hne=>by
       have hby:=(HD4.out s hs).by_
       rcases hby.cells with e | ⟨b,off,e,hc⟩
       ·exact absurd e hne
       ·refine ⟨b,off,e,?_⟩
        have hblt:b<w4.heap.size:=World.block_lt_of_cell? w4 _ (hc 0 (List.length_pos_iff.2 hne))
        have hd:dOf s∈(layF sl').map dOf:=List.mem_map.2 ⟨s,hs,rfl⟩
        rw [layF_dat] at hd
        obtain ⟨s',hs',ed⟩:=List.mem_map.1 hd
        have e1:s'.a=s.a:=congrArg Prod.fst ed
        have e3:s'.b=s.b:=congrArg (fun q=>q.2.2) ed
        obtain ⟨k,hk,rfl⟩:=List.mem_iff_getElem.1 hs'
        rcases Hrel.out k hk (by rw [<- Hlen.out];exact hk) with he | hN
        ·obtain ⟨b',off',e',hFb⟩:=(HD.out _ (List.getElem_mem (show k<sl.length by rw [<- Hlen.out];exact hk))).2 (by rw [<- he,e3];exact hne)
         rw [<- he,e1,e] at e'
         cases e'
         exact .inl hFb
        ·have:=hN.2.2 ⟨b,off,none⟩ (by rw [e1,e])
         simp only at this
         exact .inr ⟨by omega,by omega⟩⟩,rfl,Hld.out⟩,HGd.out,HG.out.ix,HG.out.iz,.inr ⟨hws,hlt2⟩,hF5⟩
     (pbs_F hO hR hok (fun k h1 h2=>.inr ⟨by omega,h2⟩) hF5) (fun k hk=>hk.imp id (fun h=>h.1)) hok (fun L' _ hon=>by
      have:=hput ρ L' rfl rfl hon
      rw [Hld.out] at this
      exact this) hbw5
    clear HPy hO hR hps hok hput hb5 hb61 hbw5 hF5 HB3 HD3 Hrel HGd Hld Hb3 Hsm Hlen Hbd HB4 HC4 HD4 HGd2
    generalize ps.length=np at *
    go_wp2
    exact bodyPost_ret (results_tmp3 (t:=4) (u:=5) (v:=6) rfl _ _ _) rfl R
   ·have hpl:planS ρ.dat (l.map Cg.cs)=(11,[]):=by unfold planS;rw [hch];simp only;rw [if_neg hfit]
    have R:=HPn.out w2 11 (by rw [hpl]) (by decide) hb12
    rw [decide_eq_false hfit]
    clear HPn HPy hb2 hb12
    go_wp2
    exact bodyPost_ret (results_tmp3 (t:=4) (u:=5) (v:=6) rfl _ _ _) rfl R
end
section
open Go.RowKit
theorem small_sl {sl:List Sm} (h:∀ s∈sl,slotOk s.sp s.b):∀ s∈sl,s.f<1000∧s.m<1000:=fun s hs=>by
 obtain ⟨h1,h2,_⟩:=slotOk_fit (h s hs)
 have h1':s.f<256:=h1
 have h2':s.m<256:=h2
 exact ⟨by omega,by omega⟩
def rspec:RSpec where
 RG:=RGs
 rg_keep:=fun H hk hs=>H.keep hk hs
 rg_good:=fun H=>⟨H.good,H.ix,H.iz⟩
 rg_lt:=fun H=>H.lt
 need_:=fun n w hn _=>(need_c n hn w).mono fun e w' ⟨he,hw⟩=>⟨he,by rw [hw];exact Below.refl _ _⟩
 open_:=fun Fd d S x z w hx hz hD hF=>open_c Fd d S x z w hx hz hD hF
 get_:=fun F g ρ i w _ H=>by
  obtain ⟨sl,hB,hD,hsp,hdat⟩:=H.it
  have hS:=good_sl H.good hsp hdat
  have:=get_c g ρ.x ρ.z sl i w hB (fun s hs=>⟨(hD s hs).1.by_,(hD s hs).1.nil,by have:=(slotOk_fit (hS s hs)).2.2.1;omega⟩)
  rw [hdat] at this
  exact this
 live_:=fun F g ρ w H=>by
  obtain ⟨sl,hB,hD,hsp,hdat⟩:=H.it
  refine (live_c g ρ.x ρ.z sl w hB).mono ?_
  rintro e w' ⟨hb,he,hR⟩
  rw [hsp] at hR
  have hn:ρ.sp.length=16:=H.good.n
  exact ⟨hb,some ⟨w.heap.size,0,none⟩,16,by rw [he,hn],hR.at,fun h=>by cases h⟩
 free_:=fun F g ρ w H=>by
  obtain ⟨sl,hB,hD,hsp,hdat⟩:=H.it
  refine (free_c g ρ.x ρ.z sl w hB (small_sl (good_sl H.good hsp hdat))).mono ?_
  rintro e w' ⟨hb,a,c,he,hO⟩
  have hm:spansS 2 (marks (List.replicate 40 false) (sl.map Sm.sp))=freeR ρ.sp:=by
   rw [hsp,marks_is (part_of H.good)]
   rfl
  rw [hm] at he hO
  refine ⟨hb,a,c,he,?_,fun h=>?_⟩
  ·rcases hO.2 with ⟨_,h0⟩|⟨b,cap,cur,hv,_,_⟩
   ·exact .inl (List.eq_nil_of_length_eq_zero h0)
   ·simp only [Value.slice.injEq] at hv
    refine .inr ⟨b,0,hv.1,fun j u hj=>?_⟩
    obtain ⟨hj',_⟩:=List.getElem?_eq_some_iff.1 hj
    rw [spCells_len] at hj'
    have h':w'.ownsRow w.heap.size 97 2 (.slice (some ⟨b,0,none⟩) (freeR ρ.sp).length c) (freeR ρ.sp).length (spCells (freeR ρ.sp)):=by rw [<- hv.1];exact hO
    have:=World.ownsRow.cellAt h' j hj'
    rw [Nat.zero_add,this,hj]
  ·rcases hO.2 with ⟨hv,_⟩|⟨b,cap,cur,hv,_,_⟩
   ·simp only [Value.slice.injEq] at hv;exact hv.2.2
   ·simp only [Value.slice.injEq] at hv;rw [h] at hv;cases hv.1
 plan_:=fun F g ρ a n c l w H hC hn hM=>plan_c F g ρ a n c l w H hC hn hM
end
end Go.Proofs.YtlllmmceoeihkaaGreat
