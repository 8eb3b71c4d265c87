/-
  inTurn: the blocks of some steps are written, each step's behind all of the one ahead of it.
  settle: what a group has left behind is done.
  Open.
  Group.
  The landed journal keeps what is asked of a journal.
-/
import Derived.Test.YtlllmmceoeihkaaGreatJJstep
import Derived.Test.YtlllmmceoeihkaaGreatJJleftp
set_option maxRecDepth 20000
namespace Go.Proofs.YtlllmmceoeihkaaGreat
section
open Go.RowKit
theorem datum_func (f:Fn) (c:Array Value) (x:_):Datum (.func f c x):=by refine ⟨?_,?_,?_⟩ <;> intro _ h <;> cases h
theorem St.doAll_app (S:St) (a b:List Bk):S.doAll (a++b)=(S.doAll a).doAll b:=by unfold St.doAll;rw [List.foldl_append]
theorem flat_next {ls:List (List Bk)} {i:Nat} (h:i<ls.length):(ls.take (i+1)).flatten=(ls.take i).flatten++ls[i]:=by
 rw [List.take_succ_eq_append_getElem h,List.flatten_append]
 simp
theorem flat_split {ls:List (List Bk)} {i:Nat} (h:i<ls.length) (j:Nat):ls.flatten=(ls.take i).flatten++(ls[i].take j++(ls[i].drop j++(ls.drop (i+1)).flatten)):=by
 rw [<- List.append_assoc (ls[i].take j),List.take_append_drop,<- List.flatten_cons,<- List.flatten_append,<- List.drop_eq_getElem_cons h,List.take_append_drop]
theorem doAll_stop {S:St} {ls:List (List Bk)} {i j:Nat} (h:i<ls.length) (hl:∀ b∈ls.flatten,argOk b.i b.b.length) (ho:((S.doAll (ls.take i).flatten).doAll (ls[i].take j)).out=true):S.doAll ls.flatten=(S.doAll (ls.take i).flatten).doAll (ls[i].take j):=by
 have e:=flat_split h j
 rw [e,St.doAll_app,St.doAll_app]
 exact St.doAll_out ho _ (fun b hb=>hl b (by rw [e];exact List.mem_append_right _ (List.mem_append_right _ hb)))
theorem doAll_room (S:St) {ls:List (List Bk)} {i j:Nat} (h:i<ls.length):((S.doAll (ls.take i).flatten).doAll (ls[i].take j)).writes<=S.writes+ls.flatten.length:=by
 have e:=flat_split h j
 have h1:=doAll_few S ((ls.take i).flatten++ls[i].take j)
 rw [St.doAll_app] at h1
 have h2:((ls.take i).flatten++ls[i].take j).length<=ls.flatten.length:=by
  conv=>rhs;rw [e]
  simp only [List.length_append]
  omega
 omega
def Fns (w:World) (sa:Option Addr) (X:Value) (fs:List Nat):Prop:=∀ i (h:i<fs.length),∃ b,sa=some ⟨b,0,none⟩∧w.cell? ⟨b,i,none⟩=some (.func (.func fs[i]) #[X] #[])
theorem Fns.same {w w':World} {sa:Option Addr} {X:Value} {fs:List Nat} (h:Fns w sa X fs) (hs:Same w w'):Fns w' sa X fs:=fun i hi=>by
 obtain ⟨b,e,hc⟩:=h i hi
 exact ⟨b,e,hs.cell hc (datum_func _ _ _) hc⟩
def Hands (w:World) (X:Value) (fs:List Nat) (ls:List (List Bk)):Prop:=fs.length=ls.length∧∀ i (h:i<fs.length) (h':i<ls.length) w',Same w w'->(callFunc fs[i] #[X]).run Tryz.prog w' = .ok (.enter fs[i] #[X]) w'∧Calls Tryz.prog fs[i] #[X] w' (StepSay ls[i] w')
def TurnSay (F:Nat->Prop) (w0:World) (d:Nat) (S':St) (w:World) (e:Ending) (w':World):Prop:=e = .returned (.int .i64 (if S'.out then 8 else 0))∧Dk F w0 w' d S'∧Same w w'
set_option maxHeartbeats 1000000 in
theorem inTurn_c {F:Nat->Prop} {w0:World} (d:Nat) (S:St) (sa:Option Addr) (k kc:Nat) (X:Value) (fs:List Nat) (ls:List (List Bk)) (w:World) (hD:Dk F w0 w d S) (hk:fs.length=k) (hk9:k<=9) (hF:Fns w sa X fs) (hH:Hands w X fs ls)
  (hl:∀ b∈ls.flatten,argOk b.i b.b.length) (hw:ls.flatten≠[]->S.writes+ls.flatten.length<1000000):Calls Tryz.prog 76 #[.pointer (some ⟨d,0,none⟩),.slice sa k kc] w (TurnSay F w0 d (S.doAll ls.flatten) w):=by
 obtain ⟨Post,hPost⟩:∃ Post,Post=TurnSay F w0 d (S.doAll ls.flatten) w:=⟨_,rfl⟩
 rw [<- hPost]
 have HP:Hid (∀ E w',E=(if (S.doAll ls.flatten).out then (8:Int) else 0)->Dk F w0 w' d (S.doAll ls.flatten)->Same w w'->Post (.returned (.int .i64 E)) w'):=fun E w' h1 h2 h3=>by rw [hPost,h1];exact ⟨rfl,h2,h3⟩
 clear hPost
 have HD0:Hid (Dk F w0 w d S):=hD
 have HF:Hid (Fns w sa X fs):=hF
 have HH:Hid (Hands w X fs ls):=hH
 have Hl:Hid (∀ b∈ls.flatten,argOk b.i b.b.length):=hl
 have Hw:Hid (ls.flatten≠[]->S.writes+ls.flatten.length<1000000):=hw
 have Hk:Hid (fs.length=k):=hk
 clear hD hF hH hl hw hk
 go_enter Tryz.func76,Tryz.ntmps76
 go_wp2_with fail
 refine wp_scope_straight ?_
 go_wp2_with fail
 refine wp_label ?_
 go_wp2_with fail
 go_loopw [5,12] (fun v5 v12 wr=>∃ (i:Nat),i<=k∧v5 = .int .i64 0∧v12 = .int .i64 (i:Int)∧Hid (Dk F w0 wr d (S.doAll (ls.take i).flatten))∧Hid (Same w wr)) (fun _ v12 _=>k-(intOf v12).toNat)
 case atStart=>exact ⟨0,Nat.zero_le _,rfl,rfl,HD0,Same.refl _⟩
 case round =>
  clear HD0
  obtain ⟨i,hi,rfl,rfl,HD,HS⟩:=hrel
  by_cases hlt:i<k
  ·have hlt':(i:Int)<k:=by omega
   have hif:i<fs.length:=by rw [Hk.out];exact hlt
   have hil:i<ls.length:=by rw [<- HH.out.1];exact hif
   obtain ⟨sb,rfl,cf⟩:=(HF.out.same HS.out) i hif
   have HC:=HH.out.2 i hif hil
   generalize fs[i]=fi at cf HC
   obtain ⟨hent,hcal⟩:=HC wr HS.out
   have Hcal:Hid (Calls Tryz.prog fi #[X] wr (StepSay ls[i] wr)):=hcal
   clear hcal HC
   go_wp2_with fail
   refine Hcal.out.mono ?_
   rintro _ wq ⟨hbq,pa,pn,pc,ps,rfl,hpl,hpn,hPq,hpm⟩
   have HD1:Hid (Dk F w0 wq d (S.doAll (ls.take i).flatten)):=HD.out.below hbq
   have HS1:Hid (Same w wq):=HS.out.trans (Same.below hbq)
   have HPq:Hid (Puts wq pa ps∧ps.length=pn∧ps.map Pt.bk=ls[i]):=⟨hPq,hpl,hpm⟩
   clear hbq hPq hpl hpm HD HS hent Hcal cf
   go_wp2_with fail
   go_loopw [5,19] (fun v5 v19 wr=>∃ (j:Nat),j<=pn∧v5 = .int .i64 0∧v19 = .int .i64 (j:Int)∧Hid (Dk F w0 wr d ((S.doAll (ls.take i).flatten).doAll (ls[i].take j)))∧Hid (Same wq wr)) (fun _ v19 _=>pn-(intOf v19).toNat)
   case atStart=>exact ⟨0,Nat.zero_le _,rfl,rfl,HD1,Same.refl _⟩
   case round =>
    clear HD1
    obtain ⟨j,hj,rfl,rfl,HD2,HS2⟩:=hrel
    by_cases hjt:j<pn
    ·have hjt':(j:Int)<pn:=by omega
     have hjp:j<ps.length:=by rw [HPq.out.2.1];exact hjt
     obtain ⟨pb,off,rfl,hO0⟩:=HPq.out.1 j hjp
     have hO:=hO0.same HS2.out
     have hlj:j<ls[i].length:=by rw [<- HPq.out.2.2,List.length_map];exact hjp
     have Hat:Hid (ls[i][j]=ps[j].bk):=by
      have h1:(ps.map Pt.bk)[j]?=ls[i][j]?:=by rw [HPq.out.2.2]
      rw [List.getElem?_map,List.getElem?_eq_getElem hjp,List.getElem?_eq_getElem hlj] at h1
      exact (Option.some.inj h1).symm
     have Harg:Hid (argOk ls[i][j].i ls[i][j].b.length):=Hl.out _ (List.mem_flatten.2 ⟨ls[i],List.getElem_mem hil,List.getElem_mem hlj⟩)
     have Hnext:Hid ((S.doAll (ls.take i).flatten).doAll (ls[i].take (j+1))=(((S.doAll (ls.take i).flatten).doAll (ls[i].take j)).write ls[i][j].f ls[i][j].i ls[i][j].b).2):=St.doAll_take _ _ j hlj
     have Hstop:Hid (((S.doAll (ls.take i).flatten).doAll (ls[i].take j)).out=true->S.doAll ls.flatten=(S.doAll (ls.take i).flatten).doAll (ls[i].take j)):=fun h=>doAll_stop hil Hl.out h
     have Hroom:Hid (((S.doAll (ls.take i).flatten).doAll (ls[i].take j)).writes<1000000):=by have h1:=doAll_room S (j:=j) hil;have h2:=Hw.out (List.ne_nil_of_mem (List.mem_flatten.2 ⟨ls[i],List.getElem_mem hil,List.getElem_mem hlj⟩));show _<_;omega
     rw [Hat.out] at Hnext Harg
     generalize ps[j]=o at hO0 hO Hnext Harg
     obtain ⟨⟨f1,f2,f3⟩,oi,oa,on,oc,ob⟩:=o
     obtain ⟨S2,hS2⟩:∃ S2,S2=(S.doAll (ls.take i).flatten).doAll (ls[i].take j):=⟨_,rfl⟩
     rw [<- hS2] at HD2 Hnext Hstop Hroom
     have c0:wr.cell? ⟨pb,off+j*5,none⟩=some (.int .i64 f1):=hO.c0
     have c1:wr.cell? ⟨pb,off+j*5+1,none⟩=some (.int .i64 f2):=hO.c1
     have c2:wr.cell? ⟨pb,off+j*5+2,none⟩=some (.int .i64 f3):=hO.c2
     have c3:wr.cell? ⟨pb,off+j*5+3,none⟩=some (.int .i64 oi):=hO.c3
     have c4:wr.cell? ⟨pb,off+j*5+4,none⟩=some (.slice oa on oc):=hO.c4
     have hb3:Below wr.heap.size wr (wr.alloc (.cells #[.int .i64 f1,.int .i64 f2,.int .i64 f3,.int .i64 oi,.slice oa on oc] 181)):=(Below.refl _ _).alloc (Nat.le_refl _) _
     have HX3:Hid (Bytes (wr.alloc (.cells #[.int .i64 f1,.int .i64 f2,.int .i64 f3,.int .i64 oi,.slice oa on oc] 181)) oa on ob):=hO.by_.later hb3
     have HD3:Hid (Dk F w0 (wr.alloc (.cells #[.int .i64 f1,.int .i64 f2,.int .i64 f3,.int .i64 oi,.slice oa on oc] 181)) d S2):=HD2.out.below hb3
     have HS3:Hid (Same wq (wr.alloc (.cells #[.int .i64 f1,.int .i64 f2,.int .i64 f3,.int .i64 oi,.slice oa on oc] 181))):=HS2.out.trans (Same.below hb3)
     have Hf:Hid (I64F (f1,f2,f3)):=⟨hO.bd.2.1,hO.bd.2.2.1,hO.bd.2.2.2⟩
     clear hO0 hO hjp hlj hb3 HD2 HS2 Hat hS2
     go_wp2_with fail
     generalize (wr.alloc (.cells #[.int .i64 f1,.int .i64 f2,.int .i64 f3,.int .i64 oi,.slice oa on oc] 181))=w3 at *
     refine (write_s d S2 f1 f2 f3 oi oa on oc ob Hf.out w3 HD3.out HX3.out Hroom.out).mono ?_
     rintro _ w4 ⟨rfl,hD4,hS4⟩
     have HS4:Hid (Same wq w4):=HS3.out.trans hS4
     by_cases hout:S2.out=true
     ·have e1:S2.write (f1,f2,f3) oi ob=(8,S2):=by unfold St.write;rw [if_pos (by exact Harg.out),if_pos hout]
      rw [e1] at hD4
      rw [e1]
      have R:=HP.out 8 w4 (by rw [Hstop.out hout,if_pos hout]) (by rw [Hstop.out hout];exact hD4) (HS1.out.trans HS4.out)
      clear HP Hnext Hstop Hroom HX3 HD3 HS3 hD4 hS4 HS4 Harg e1
      go_wp2
      exact R
     ·have e1:S2.write (f1,f2,f3) oi ob=(0,S2.wrote (f1,f2,f3) oi ob):=by unfold St.write;rw [if_pos (by exact Harg.out),if_neg hout]
      have HDn:Hid (Dk F w0 w4 d ((S.doAll (ls.take i).flatten).doAll (ls[i].take (j+1)))):=by rw [Hnext.out];exact hD4
      rw [e1]
      clear HP Hnext Hstop Hroom HX3 HD3 HS3 hD4 hS4 Harg e1
      go_wp2
      go_roundw
      case rel=>exact ⟨j+1,by omega,rfl,by go_num,HDn,HS4⟩
      case measure=>simp [intOf];omega
    ·obtain rfl:j=pn:=by omega
     have HDn:Hid (Dk F w0 wr d (S.doAll (ls.take (i+1)).flatten)):=by
      have h1:=HD2.out
      rw [show ls[i].take j=ls[i] from List.take_of_length_le (by rw [<- HPq.out.2.2,List.length_map,HPq.out.2.1];exact Nat.le_refl _),<- St.doAll_app,<- flat_next hil] at h1
      exact h1
     have HSn:Hid (Same w wr):=HS1.out.trans HS2.out
     clear HP HD2 HS2 HPq HS1
     go_wp2
     go_roundw
     case rel=>exact ⟨i+1,by omega,rfl,by go_num,HDn,HSn⟩
     case measure=>simp [intOf];omega
  ·obtain rfl:i=k:=by omega
   have HDn:Hid (Dk F w0 wr d (S.doAll ls.flatten)):=by
    have h1:=HD.out
    rw [List.take_of_length_le (by rw [<- HH.out.1,Hk.out];exact Nat.le_refl _)] at h1
    exact h1
   clear HD HF HH Hl Hw
   by_cases hout:(S.doAll ls.flatten).out=true
   ·have R:=HP.out 8 wr (by rw [if_pos hout]) HDn.out HS.out
    clear HP HS
    go_wp2_with fail
    refine (on_s d _ wr HDn.out).mono ?_
    rintro _ w' ⟨rfl,hw'⟩
    subst w'
    rw [hout]
    go_wp2
    exact R
   ·have R:=HP.out 0 wr (by rw [if_neg hout]) HDn.out HS.out
    clear HP HS
    go_wp2_with fail
    refine (on_s d _ wr HDn.out).mono ?_
    rintro _ w' ⟨rfl,hw'⟩
    subst w'
    rw [show (S.doAll ls.flatten).out=false by simpa using hout]
    go_wp2
    exact R
end
section
open Go.RowKit
def SetSay (F:Nat->Prop) (w0:World) (d:Nat) (S':St) (E:Int) (w:World) (e:Ending) (w':World):Prop:=e = .returned (.int .i64 E)∧Dk F w0 w' d S'∧Same w w'
theorem ent29 (X:Value) (w:World):(callFunc 77 #[X]).run Tryz.prog w = .ok (.enter 77 #[X]) w:=by kernel_rfl
theorem ent30 (X:Value) (w:World):(callFunc 78 #[X]).run Tryz.prog w = .ok (.enter 78 #[X]) w:=by kernel_rfl
theorem ent31 (X:Value) (w:World):(callFunc 79 #[X]).run Tryz.prog w = .ok (.enter 79 #[X]) w:=by kernel_rfl
theorem ent32 (X:Value) (w:World):(callFunc 80 #[X]).run Tryz.prog w = .ok (.enter 80 #[X]) w:=by kernel_rfl
set_option maxHeartbeats 1000000 in
theorem settle_none {F:Nat->Prop} {w0:World} (d:Nat) (S:St) (E:Int) (hE:E=0∨E=8) (w:World) (hL:Calls Tryz.prog 91 #[.pointer (some ⟨d,0,none⟩)] w (LeftSay F w0 d S E [] w)) :
  Calls Tryz.prog 68 #[.pointer (some ⟨d,0,none⟩)] w (SetSay F w0 d S E w):=by
 obtain ⟨Post,hPost⟩:∃ Post,Post=SetSay F w0 d S E w:=⟨_,rfl⟩
 rw [<- hPost]
 have HP:Hid (∀ w',Dk F w0 w' d S->Same w w'->Post (.returned (.int .i64 E)) w'):=fun w' h1 h2=>by rw [hPost];exact ⟨rfl,h1,h2⟩
 clear hPost
 have HL:Hid (Calls Tryz.prog 91 #[.pointer (some ⟨d,0,none⟩)] w (LeftSay F w0 d S E [] w)):=hL
 clear hL
 go_enter Tryz.func68,Tryz.ntmps68
 go_wp2_with fail
 refine HL.out.mono ?_
 rintro _ w1 ⟨a,n,c,ps,rfl,hl,hps,hm,hD1,hb1⟩
 obtain rfl:n=0:=by rw [<- hl,<- List.length_map (f:=Pt.bk),hm];rfl
 have R:=fun ob=>HP.out (w1.alloc ob) (hD1.below ((Below.refl _ _).alloc (Nat.le_refl _) _)) ((Same.below hb1).trans (Same.below ((Below.refl _ _).alloc (Nat.le_refl _) _)))
 clear HP HL hps hD1 hb1 hm hl
 rcases hE with rfl | rfl
 ·go_wp2
  exact R _
 ·go_wp2
  exact R _
set_option maxHeartbeats 1000000 in
theorem settle_pend {F:Nat->Prop} {w0:World} (d:Nat) (S:St) (l:List Bk) (w:World) (hD:Dk F w0 w d S) (ho:S.out=false) (hP:Pend S.l l) (hw:S.writes+300<1000000) :
  Calls Tryz.prog 68 #[.pointer (some ⟨d,0,none⟩)] w (SetSay F w0 d (S.doAll (l++[endK])) (if (S.doAll (l++[endK])).out then 8 else 0) w):=by
 obtain ⟨Post,hPost⟩:∃ Post,Post=SetSay F w0 d (S.doAll (l++[endK])) (if (S.doAll (l++[endK])).out then 8 else 0) w:=⟨_,rfl⟩
 rw [<- hPost]
 have HP:Hid (∀ w' e,TurnSay F w0 d (S.doAll (l++[endK])) w e w'->Post e w'):=fun w' e h=>by rw [hPost];exact h
 clear hPost
 have hpos:0<l.length:=List.length_pos_iff.2 hP.pos
 have HD:Hid (Dk F w0 w d S):=hD
 have HPd:Hid (Pend S.l l):=hP
 clear hD hP
 go_enter Tryz.func68,Tryz.ntmps68
 go_wp2_with fail
 refine (left_pend d S l w HD.out ho HPd.out).mono ?_
 rintro _ w1 ⟨a,n,c,ps,rfl,hl,hps,hm,hD1,hb1⟩
 have hn:0<n:=by rw [<- hl,<- List.length_map (f:=Pt.bk),hm];exact hpos
 have hn2:n<=1000:=by have:=HPd.out.len;rw [<- hm,List.length_map,hl] at this;omega
 have hn':((n:Int) == 0)=false:=by simp;omega
 have HPs:Hid (Puts w1 a ps∧ps.map Pt.bk=l∧ps.length=n):=⟨hps,hm,hl⟩
 have HD1:Hid (Dk F w0 w1 d S):=hD1
 have HS1:Hid (Same w w1):=Same.below hb1
 clear hps hm hl hD1 hb1 HD
 go_wp2_with fail
 have hb2:Below w1.heap.size w1 ((w1.alloc (.cells #[.slice a n c] 152)).alloc (.cells #[.func (.func 79) #[.agg #[.slice a n c]] #[],.func (.func 80) #[.agg #[.slice a n c]] #[]] 153)):=((Below.refl _ _).alloc (Nat.le_refl _) _).alloc (by rw [World.size_alloc];omega) _
 have hF:Fns ((w1.alloc (.cells #[.slice a n c] 152)).alloc (.cells #[.func (.func 79) #[.agg #[.slice a n c]] #[],.func (.func 80) #[.agg #[.slice a n c]] #[]] 153)) (some ⟨w1.heap.size+1,0,none⟩) (.agg #[.slice a n c]) [79,80]:=fun i hi=>by
  refine ⟨_,rfl,?_⟩
  rw [cell_of_row _ _ _ _ 153 (0,0) (heap_alloc2_new w1 _ _)]
  match i,hi with
  | 0,_=>rfl
  | 1,_=>rfl
 have hH:Hands ((w1.alloc (.cells #[.slice a n c] 152)).alloc (.cells #[.func (.func 79) #[.agg #[.slice a n c]] #[],.func (.func 80) #[.agg #[.slice a n c]] #[]] 153)) (.agg #[.slice a n c]) [79,80] [l,[endK]]:=by
  refine ⟨rfl,fun i hi hi' w' hs=>?_⟩
  have hs':=(Same.below hb2).trans hs
  match i,hi with
  | 0,_ =>
    refine ⟨ent31 _ _,?_⟩
    have:=jblocks_c a n c ps w' hn2 HPs.out.2.2 (HPs.out.1.same hs')
    rw [HPs.out.2.1] at this
    exact this
  | 1,_=>exact ⟨ent32 _ _,end_c a n c w'⟩
 have e:([l,[endK]]:List (List Bk)).flatten=l++[endK]:=by simp
 refine (inTurn_c d S _ 2 2 (.agg #[.slice a n c]) [79,80] [l,[endK]] _ (HD1.out.below hb2) rfl (by decide) hF hH (by rw [e];exact settle_arg HPd.out) (fun _=>by rw [e,List.length_append];have:=HPd.out.len;simp only [List.length_cons,List.length_nil];omega)).mono ?_
 rw [e]
 rintro _ w3 ⟨rfl,hD3,hS3⟩
 have R:=HP.out w3 _ ⟨rfl,hD3,(HS1.out.trans (Same.below hb2)).trans hS3⟩
 clear HP HPs HD1 HS1 hb2 hF hH hD3 hS3 HPd
 generalize (if (S.doAll (l++[endK])).out then (8:Int) else 0)=E at *
 go_wp2
 exact R
end
section
open Go.RowKit
abbrev Jb (w:World) (j d:Nat):Prop:=w.heap[j]?=some (.cells #[.pointer (some ⟨d,0,none⟩)] 137 (0,0))
def JOpenSay (F:Nat->Prop) (d:Nat) (S':St) (E:Int) (w:World) (e:Ending) (w':World):Prop :=
 ∃ jv,e = .returned (.tuple #[jv,.int .i64 E])∧Dk F w w' d S'∧(E=0->∃ j,jv = .pointer (some ⟨j,0,none⟩)∧w.heap.size<=j∧j<w'.heap.size∧Jb w' j d)
set_option maxHeartbeats 1000000 in
theorem open_any {F:Nat->Prop} (d:Nat) (S':St) (E:Int) (hE:E=0∨E=8) (w:World) (hL:Calls Tryz.prog 68 #[.pointer (some ⟨d,0,none⟩)] w (SetSay F w d S' E w)) :
  Calls Tryz.prog 37 #[.pointer (some ⟨d,0,none⟩)] w (JOpenSay F d S' E w):=by
 obtain ⟨Post,hPost⟩:∃ Post,Post=JOpenSay F d S' E w:=⟨_,rfl⟩
 rw [<- hPost]
 have HP:Hid (∀ e w',JOpenSay F d S' E w e w'->Post e w'):=fun e w' h=>by rw [hPost];exact h
 clear hPost
 have HL:Hid (Calls Tryz.prog 68 #[.pointer (some ⟨d,0,none⟩)] w (SetSay F w d S' E w)):=hL
 clear hL
 go_enter Tryz.func37,Tryz.ntmps37
 go_wp2_with fail
 refine HL.out.mono ?_
 rintro _ w1 ⟨rfl,hD1,hS1⟩
 rcases hE with rfl | rfl
 ·have hb:Below w1.heap.size w1 (w1.alloc (.cells #[.pointer (some ⟨d,0,none⟩)] 137)):=(Below.refl _ _).alloc (Nat.le_refl _) _
  have R:=HP.out (.returned (.tuple #[.pointer (some ⟨w1.heap.size,0,none⟩),.int .i64 0])) _ ⟨_,rfl,hD1.below hb,fun _=>⟨w1.heap.size,rfl,hD1.chg.size,by rw [World.size_alloc];omega,heap_alloc_new w1 _⟩⟩
  clear HP HL hD1 hS1 hb
  go_wp2
  exact R
 ·have R:=HP.out (.returned (.tuple #[.pointer none,.int .i64 8])) w1 ⟨_,rfl,hD1,fun h=>by cases h⟩
  clear HP HL hD1 hS1
  go_wp2
  exact R
theorem steps_doAll {S:St} {l:List Bk} (hl:∀ b∈l,argOk b.i b.b.length):Go.Proofs.YtlllmmceoeihkaaGreat.Steps S (S.doAll l):=by
 induction l generalizing S with
 | nil=>exact .refl S
 | cons b r ih =>
   by_cases h:S.out=true
   ·rw [St.doAll_out h _ hl]
    exact .refl S
   ·have e:S.doAll (b::r)=St.doAll (S.wrote b.f b.i b.b) r:=by
     show St.doAll (S.write b.f b.i b.b).2 r=_
     unfold St.write
     rw [if_pos (hl b (List.mem_cons_self ..)),if_neg h]
    rw [e]
    exact .step b.f b.i b.b (by simpa using h) (hl b (List.mem_cons_self ..)) (ih (fun x hx=>hl x (List.mem_cons_of_mem _ hx)))
theorem open_rec (F:Nat->Prop) (d:Nat) (S:St) (V:List Bk) (w:World) (hP:PDisk F w d S) (hF:∀ k,F k->k<w.heap.size) (hR:RecL S.l V) (hw:S.writes<=900000) :
  Calls Tryz.prog 37 #[.pointer (some ⟨d,0,none⟩)] w fun e w'=>∃ S' E,JOpenSay F d S' E w e w'∧S'.writes<=S.writes+2000∧Go.Proofs.YtlllmmceoeihkaaGreat.Steps S S'∧((E=0∧Idle S'.l V)∨(E=8∧¬ S.free∧RecL S'.l V)):=by
 have hD:Dk F w w d S:=Dk.start hP hF
 by_cases ho:S.out=true
 ·refine (open_any d S 8 (Or.inr rfl) w (settle_none d S 8 (Or.inr rfl) w (left_out d S w hD ho))).mono ?_
  intro e w' h
  exact ⟨S,8,h,by omega,.refl S,Or.inr ⟨rfl,fun hf=>(by rw [hf.1] at ho;cases ho),hR⟩⟩
 ·have ho':S.out=false:=by simpa using ho
  rcases hR with hI | ⟨l,hPd,hV⟩
  ·refine (open_any d S 0 (Or.inl rfl) w (settle_none d S 0 (Or.inl rfl) w (left_idle d S w hD ho' hI.1))).mono ?_
   intro e w' h
   exact ⟨S,0,h,by omega,.refl S,Or.inl ⟨rfl,hI⟩⟩
  ·have hlen:=hPd.len
   have harg:=settle_arg hPd
   obtain ⟨k,hk1,hk2,hk3,hk4⟩:=St.doAll_some (S:=S) (l++[endK]) harg
   have hc:=settle_cut hPd hV k
   rw [<- hk2] at hc
   have hkl:k<=257:=by simp only [List.length_append,List.length_cons,List.length_nil] at hk1;omega
   have hset:=settle_pend d S l w hD ho' hPd (by omega)
   by_cases hx:(S.doAll (l++[endK])).out=true
   ·rw [if_pos hx] at hset
    refine (open_any d _ 8 (Or.inr rfl) w hset).mono ?_
    intro e w' h
    exact ⟨_,8,h,by omega,steps_doAll harg,Or.inr ⟨rfl,fun hf=>(by rw [(hf.doAll _).1] at hx;cases hx),hc.1⟩⟩
   ·rw [if_neg hx] at hset
    refine (open_any d _ 0 (Or.inl rfl) w hset).mono ?_
    intro e w' h
    have hk5:=hk4 (by simpa using hx)
    exact ⟨_,0,h,by omega,steps_doAll harg,Or.inl ⟨rfl,hc.2 (by rw [hk5];simp)⟩⟩
end
section
open Go.RowKit
def GroupSay (F:Nat->Prop) (w0:World) (d:Nat) (S':St) (E:Int) (e:Ending) (w':World):Prop:=e = .returned (.int .i64 E)∧Dk F w0 w' d S'∧Same w0 w'
theorem Jb.same {w w':World} {j d:Nat} (h:Jb w j d) (hs:Same w w'):Jb w' j d:=by
 show w'.heap[j]?=_
 rw [hs.block j 0 (.pointer (some ⟨d,0,none⟩)) (by rw [cell_of_row w j 0 _ 137 (0,0) h];rfl) (datum_pointer _)]
 exact h
theorem Jb.cell {w:World} {j d:Nat} (h:Jb w j d):w.cell? ⟨j,0,none⟩=some (.pointer (some ⟨d,0,none⟩)):=by rw [cell_of_row w j 0 _ 137 (0,0) h];rfl
theorem group_bad {F:Nat->Prop} (j d:Nat) (S:St) (a:Option Addr) (n c:Nat) (l:List Pt) (w:World) (hD:Dk F w w d S) (hl:l.length=n) (hn:n<=1000000) (hP:Puts w a l) (hm:may (l.map Pt.bk)≠0) :
  Calls Tryz.prog 50 #[.pointer (some ⟨j,0,none⟩),.slice a n c] w (GroupSay F w d S (may (l.map Pt.bk))):=by
 obtain ⟨Post,hPost⟩:∃ Post,Post=GroupSay F w d S (may (l.map Pt.bk)):=⟨_,rfl⟩
 rw [<- hPost]
 have HP:Hid (∀ w',Dk F w w' d S->Same w w'->Post (.returned (.int .i64 (may (l.map Pt.bk)))) w'):=fun w' h1 h2=>by rw [hPost];exact ⟨rfl,h1,h2⟩
 clear hPost
 have HD:Hid (Dk F w w d S):=hD
 have HPs:Hid (Puts w a l):=hP
 have hm2:may (l.map Pt.bk)=1∨may (l.map Pt.bk)=7:=(may_is _).resolve_left hm
 clear hD hP hm
 go_enter Tryz.func50,Tryz.ntmps50
 go_wp2_with fail
 refine (check_c a n c l w hl (by unfold maxLen;omega) HPs.out).mono ?_
 rintro _ w1 ⟨rfl,hb1⟩
 have R:=HP.out w1 (HD.out.below hb1) (Same.below hb1)
 clear HP HD HPs hb1
 rcases hm2 with h | h
 ·rw [h] at R ⊢
  go_wp2
  exact R
 ·rw [h] at R ⊢
  go_wp2
  exact R
theorem group_none {F:Nat->Prop} (j d:Nat) (S:St) (a:Option Addr) (c:Nat) (w:World) (hD:Dk F w w d S) (hJ:Jb w j d) :
  Calls Tryz.prog 50 #[.pointer (some ⟨j,0,none⟩),.slice a 0 c] w (GroupSay F w d S (if S.out then 8 else 0)):=by
 obtain ⟨Post,hPost⟩:∃ Post,Post=GroupSay F w d S (if S.out then 8 else 0):=⟨_,rfl⟩
 rw [<- hPost]
 have HP:Hid (∀ w',Dk F w w' d S->Same w w'->Post (.returned (.int .i64 (if S.out then 8 else 0))) w'):=fun w' h1 h2=>by rw [hPost];exact ⟨rfl,h1,h2⟩
 clear hPost
 have HD:Hid (Dk F w w d S):=hD
 have HJ:Hid (Jb w j d):=hJ
 clear hD hJ
 go_enter Tryz.func50,Tryz.ntmps50
 go_wp2_with fail
 refine (check_c a 0 c [] w rfl (by unfold maxLen;omega) (fun k hk=>absurd hk (Nat.not_lt_zero _))).mono ?_
 rintro _ w1 ⟨rfl,hb1⟩
 rw [show may (([]:List Pt).map Pt.bk)=0 from rfl]
 have cj:=(HJ.out.same (Same.below hb1)).cell
 have HD1:Hid (Dk F w w1 d S):=HD.out.below hb1
 have HS1:Hid (Same w w1):=Same.below hb1
 clear HD HJ hb1
 go_wp2_with fail
 refine (inTurn_c d S none 0 0 (.bool true) [] [] w1 HD1.out rfl (by decide) (fun i hi=>absurd hi (Nat.not_lt_zero _)) ⟨rfl,fun i hi=>absurd hi (Nat.not_lt_zero _)⟩ (fun b hb=>by cases hb) (fun h=>absurd rfl h)).mono ?_
 rintro _ w2 ⟨rfl,hD2,hS2⟩
 have R:=HP.out w2 hD2 (HS1.out.trans hS2)
 rw [show S.doAll ([]:List (List Bk)).flatten=S from rfl]
 clear HP HD1 HS1 hD2 hS2
 generalize (if S.out then (8:Int) else 0)=E at *
 go_wp2
 exact R
def At12 (j d q:Nat) (a:Option Addr) (n c:Nat) (w':World):Prop:=w'.cell? ⟨j,0,none⟩=some (.pointer (some ⟨d,0,none⟩))∧w'.cell? ⟨q,0,none⟩=some (.slice a n c)
theorem At12.on {j d q:Nat} {a:Option Addr} {n c:Nat} {w w':World} (h:At12 j d q a n c w) (hb:Below w.heap.size w w'):At12 j d q a n c w':=⟨cell_on hb h.1,cell_on hb h.2⟩
theorem At12.same {j d q:Nat} {a:Option Addr} {n c:Nat} {w w':World} (h:At12 j d q a n c w) (hs:Same w w'):At12 j d q a n c w':=⟨hs.cell h.1 (datum_pointer _) h.1,hs.cell h.2 (datum_slice _ _ _) h.2⟩
theorem flat4 (l:List Bk):([notesL l 0,[headK l],l,[endK]]:List (List Bk)).flatten=groupAll l:=by simp [groupAll]
theorem hands4 {w:World} {a:Option Addr} {n c:Nat} {l:List Pt} (hn:n<=256) (hn2:n<=1000) (hl:l.length=n) (hP:Puts w a l) (hm:may (l.map Pt.bk)=0):Hands w (.agg #[.slice a n c]) [77,78,79,80] [notesL (l.map Pt.bk) 0,[headK (l.map Pt.bk)],l.map Pt.bk,[endK]]:=by
 refine ⟨rfl,fun i hi hi' w' hs=>?_⟩
 have hP':=hP.same hs
 match i,hi with
 | 0,_=>exact ⟨ent29 _ _,notes_c a n c l w' hn hl hP'⟩
 | 1,_=>exact ⟨ent30 _ _,head_c a n c l w' hn hl hP' (fun b hb=>(badB_false.1 ((may_ok.1 hm).1 b hb)).2.2.2)⟩
 | 2,_=>exact ⟨ent31 _ _,jblocks_c a n c l w' hn2 hl hP'⟩
 | 3,_=>exact ⟨ent32 _ _,end_c a n c w'⟩
theorem group_down {F:Nat->Prop} (j d:Nat) (S:St) (a:Option Addr) (n c:Nat) (l:List Pt) (w:World) (hD:Dk F w w d S) (hJ:Jb w j d) (hl:l.length=n) (hn:n<=1000000) (h0:0<n) (hP:Puts w a l) (hm:may (l.map Pt.bk)=0) (ho:S.out=true) :
  Calls Tryz.prog 50 #[.pointer (some ⟨j,0,none⟩),.slice a n c] w (GroupSay F w d S 8):=by
 obtain ⟨Post,hPost⟩:∃ Post,Post=GroupSay F w d S 8:=⟨_,rfl⟩
 rw [<- hPost]
 have HP:Hid (∀ w',Dk F w w' d S->Same w w'->Post (.returned (.int .i64 8)) w'):=fun w' h1 h2=>by rw [hPost];exact ⟨rfl,h1,h2⟩
 clear hPost
 have HD:Hid (Dk F w w d S):=hD
 have HJ:Hid (Jb w j d):=hJ
 have HPs:Hid (Puts w a l):=hP
 have Hm:Hid (may (l.map Pt.bk)=0):=hm
 have h0':((n:Int) == 0)=false:=by simp;omega
 clear hD hJ hP hm
 go_enter Tryz.func50,Tryz.ntmps50
 go_wp2_with fail
 refine (check_c a n c l w hl (by unfold maxLen;omega) HPs.out).mono ?_
 rintro _ w1 ⟨rfl,hb1⟩
 rw [Hm.out]
 have cj:=(HJ.out.same (Same.below hb1)).cell
 have HD1:Hid (Dk F w w1 d S):=HD.out.below hb1
 have HS1:Hid (Same w w1):=Same.below hb1
 clear HD HJ hb1 HPs
 go_wp2_with fail
 refine (settle_none d S 8 (Or.inr rfl) w1 (left_out d S w1 HD1.out ho)).mono ?_
 rintro _ w2 ⟨rfl,hD2,hS2⟩
 have R:=HP.out w2 hD2 (HS1.out.trans hS2)
 clear HP HD1 HS1 hD2 hS2
 go_wp2
 exact R
set_option maxHeartbeats 1000000 in
theorem group_does {F:Nat->Prop} (j d:Nat) (S:St) (a:Option Addr) (n c:Nat) (l:List Pt) (w:World) (hD:Dk F w w d S) (hJ:Jb w j d) (hl:l.length=n) (h0:0<n) (hP:Puts w a l) (hm:may (l.map Pt.bk)=0) (ho:S.out=false) (hh:hdB S.l=noughts) (hw:S.writes<=900000) :
  Calls Tryz.prog 50 #[.pointer (some ⟨j,0,none⟩),.slice a n c] w (GroupSay F w d (S.doAll (groupAll (l.map Pt.bk))) (if (S.doAll (groupAll (l.map Pt.bk))).out then 8 else 0)):=by
 obtain ⟨Post,hPost⟩:∃ Post,Post=GroupSay F w d (S.doAll (groupAll (l.map Pt.bk))) (if (S.doAll (groupAll (l.map Pt.bk))).out then 8 else 0):=⟨_,rfl⟩
 rw [<- hPost]
 have HP:Hid (∀ w',Dk F w w' d (S.doAll (groupAll (l.map Pt.bk)))->Same w w'->Post (.returned (.int .i64 (if (S.doAll (groupAll (l.map Pt.bk))).out then 8 else 0))) w'):=fun w' h1 h2=>by rw [hPost];exact ⟨rfl,h1,h2⟩
 clear hPost
 have HD:Hid (Dk F w w d S):=hD
 have HJ:Hid (Jb w j d):=hJ
 have HPs:Hid (Puts w a l):=hP
 have Hm:Hid (may (l.map Pt.bk)=0):=hm
 have Hl:Hid (l.length=n):=hl
 have Hh:Hid (hdB S.l=noughts):=hh
 have hn:n<=256:=by have:=(may_ok.1 hm).2;rw [List.length_map,hl] at this;exact this
 have h0':((n:Int) == 0)=false:=by simp;omega
 clear hD hJ hP hm hl hh
 go_enter Tryz.func50,Tryz.ntmps50
 go_wp2_with fail
 refine (check_c a n c l w Hl.out (by unfold maxLen;omega) HPs.out).mono ?_
 rintro _ w1 ⟨rfl,hb1⟩
 rw [Hm.out]
 have cj:=(HJ.out.same (Same.below hb1)).cell
 have HD1:Hid (Dk F w w1 d S):=HD.out.below hb1
 have HS1:Hid (Same w w1):=Same.below hb1
 clear HD hb1
 go_wp2_with fail
 refine (settle_none d S 0 (Or.inl rfl) w1 (left_idle d S w1 HD1.out ho Hh.out)).mono ?_
 rintro _ w2 ⟨rfl,hD2,hS2⟩
 have hb3:Below w2.heap.size w2 (w2.alloc (.cells #[.slice a n c] 152)):=(Below.refl _ _).alloc (Nat.le_refl _) _
 have HD3:Hid (Dk F w (w2.alloc (.cells #[.slice a n c] 152)) d S):=hD2.below hb3
 have HS3:Hid (Same w (w2.alloc (.cells #[.slice a n c] 152))):=(HS1.out.trans hS2).trans (Same.below hb3)
 have HA3:Hid (At12 j d w2.heap.size a n c (w2.alloc (.cells #[.slice a n c] 152))):=⟨(HJ.out.same HS3.out).cell,by rw [cell_of_row _ _ _ _ 152 (0,0) (heap_alloc_new w2 _)];rfl⟩
 clear HD1 HS1 hD2 hS2 hb3 HJ Hh
 go_wp2_with fail
 generalize w2.alloc (.cells #[.slice a n c] 152)=w3 at *
 generalize w2.heap.size=q at *
 refine region_L (At12 j d q a n c) 14 (by kernel_rfl) ?_
 have HAa:Hid (At12 j d q a n c w3.drew):=HA3.out
 have HDa:Hid (Dk F w w3.drew d S):=HD3.out.drew
 have HSa:Hid (Same w w3.drew):=HS3.out.trans (Same.below ((Below.refl _ _).drew))
 clear HA3 HD3 HS3
 generalize w3.drew=va at *
 have hHeld:(At12 j d q a n c) _:=HAa.out
 have hne:Nonempty (Sub (At12 j d q a n c)):=⟨⟨_,hHeld⟩⟩
 have k0:∀ s:Sub (At12 j d q a n c),s.w.cell? ⟨j,0,none⟩=some (.pointer (some ⟨d,0,none⟩)):=fun s=>s.ok.1
 have k1:∀ s:Sub (At12 j d q a n c),s.w.cell? ⟨q,0,none⟩=some (.slice a n c):=fun s=>s.ok.2
 refine tk0 0 rfl (fun _ _ _ _ h=>h) hHeld fun K hK=>?_;go_simp;refine hK _ ?_;clear hK K
 refine tk0 1 rfl (fun _ _ _ _ h=>h) hHeld fun K hK=>?_;go_simp;refine hK _ ?_;clear hK K
 refine tk0 2 rfl (fun _ _ _ _ h=>h) hHeld fun K hK=>?_;go_simp;refine hK _ ?_;clear hK K
 refine tk0 3 rfl (fun _ _ _ _ h=>h) hHeld fun K hK=>?_;go_simp;refine hK _ ?_;clear hK K
 refine tk0 4 rfl (fun _ _ _ _ h=>h) hHeld fun K hK=>?_;go_simp;refine hK _ ?_;clear hK K
 refine tk0 5 rfl (fun _ _ _ _ h=>h) hHeld fun K hK=>?_;go_simp;refine hK _ ?_;clear hK K
 refine tk0 6 rfl (fun _ _ _ _ h=>h) hHeld fun K hK=>?_;go_simp;refine hK _ ?_;clear hK K
 refine tk0 7 rfl (fun _ _ _ _ h=>h) hHeld fun K hK=>?_;go_simp;refine hK _ ?_;clear hK K
 refine tk0 8 rfl (fun _ _ _ _ h=>h) hHeld fun K hK=>?_;go_simp;refine hK _ ?_;clear hK K
 refine tk0 9 rfl (fun _ _ _ _ h=>h) hHeld fun K hK=>?_;go_simp;refine hK _ ?_;clear hK K
 refine tk0 10 rfl (fun _ _ _ _ h=>h) hHeld fun K hK=>?_;go_simp;refine hK _ ?_;clear hK K
 refine tk0 11 rfl (fun _ _ _ _ h=>h) hHeld fun K hK=>?_;go_simp;refine hK _ ?_;clear hK K
 refine ol 12 rfl fun K hK=>?_
 go_simp
 have hb4:Below va.heap.size va (va.alloc (.cells #[.func (.func 77) #[.agg #[.slice a n c]] #[],.func (.func 78) #[.agg #[.slice a n c]] #[],.func (.func 79) #[.agg #[.slice a n c]] #[],.func (.func 80) #[.agg #[.slice a n c]] #[]] 153)):=(Below.refl _ _).alloc (Nat.le_refl _) _
 have HA4:Hid (At12 j d q a n c (va.alloc (.cells #[.func (.func 77) #[.agg #[.slice a n c]] #[],.func (.func 78) #[.agg #[.slice a n c]] #[],.func (.func 79) #[.agg #[.slice a n c]] #[],.func (.func 80) #[.agg #[.slice a n c]] #[]] 153))):=HAa.out.on hb4
 have HD4:Hid (Dk F w (va.alloc (.cells #[.func (.func 77) #[.agg #[.slice a n c]] #[],.func (.func 78) #[.agg #[.slice a n c]] #[],.func (.func 79) #[.agg #[.slice a n c]] #[],.func (.func 80) #[.agg #[.slice a n c]] #[]] 153)) d S):=HDa.out.below hb4
 have HS4:Hid (Same w (va.alloc (.cells #[.func (.func 77) #[.agg #[.slice a n c]] #[],.func (.func 78) #[.agg #[.slice a n c]] #[],.func (.func 79) #[.agg #[.slice a n c]] #[],.func (.func 80) #[.agg #[.slice a n c]] #[]] 153))):=HSa.out.trans (Same.below hb4)
 have HF4:Hid (Fns (va.alloc (.cells #[.func (.func 77) #[.agg #[.slice a n c]] #[],.func (.func 78) #[.agg #[.slice a n c]] #[],.func (.func 79) #[.agg #[.slice a n c]] #[],.func (.func 80) #[.agg #[.slice a n c]] #[]] 153)) (some ⟨va.heap.size,0,none⟩) (.agg #[.slice a n c]) [77,78,79,80]):=fun i hi=>by
  refine ⟨_,rfl,?_⟩
  rw [cell_of_row _ _ _ _ 153 (0,0) (heap_alloc_new va _)]
  match i,hi with
  | 0,_=>rfl
  | 1,_=>rfl
  | 2,_=>rfl
  | 3,_=>rfl
 clear hb4 HAa HDa HSa
 generalize va.alloc (.cells #[.func (.func 77) #[.agg #[.slice a n c]] #[],.func (.func 78) #[.agg #[.slice a n c]] #[],.func (.func 79) #[.agg #[.slice a n c]] #[],.func (.func 80) #[.agg #[.slice a n c]] #[]] 153)=w4 at *
 generalize va.heap.size=q4 at *
 replace hHeld:(At12 j d q a n c) _:=HA4.out
 refine hK.out _ _ (fun _=>hHeld) ?_
 clear hK K
 refine ol 13 rfl fun K hK=>?_
 go_simp
 refine (inTurn_c d S (some ⟨q4,0,none⟩) 4 4 (.agg #[.slice a n c]) [77,78,79,80] [notesL (l.map Pt.bk) 0,[headK (l.map Pt.bk)],l.map Pt.bk,[endK]] w4 HD4.out rfl (by decide) HF4.out (hands4 (by omega) (by omega) Hl.out (HPs.out.same HS4.out) Hm.out) (by rw [flat4];exact groupAll_arg Hm.out) (fun _=>by rw [flat4,groupAll_len,List.length_map,Hl.out];omega)).mono ?_
 rw [flat4]
 rintro _ w5 ⟨rfl,hD5,hS5⟩
 have R:=HP.out w5 hD5 (HS4.out.trans hS5)
 have HA5:Hid (At12 j d q a n c w5):=HA4.out.same hS5
 clear hD5 hS5 HD4 HS4 HF4 HA4
 replace hHeld:(At12 j d q a n c) _:=HA5.out
 refine hK.out _ _ (fun _=>hHeld) ?_
 clear hK K
 refine ol 14 rfl fun K hK=>?_
 go_simp
 refine hK.out _ _ (fun h=>absurd rfl h) ?_
 clear hK K
 refine done_L (by kernel_rfl) ?_ _
 clear hHeld hne k0 k1 HP HA5 HPs Hm Hl
 generalize (if (S.doAll (groupAll (l.map Pt.bk))).out then (8:Int) else 0)=E at *
 go_wp2
 exact R
end
section
open Go.RowKit
def JPx (F:Nat->Prop) (w:World) (j d:Nat) (S:St) (V:List Bk):Prop:=PDisk F w d S∧Idle S.l V∧Jb w j d∧F j
def JXx (F:Nat->Prop) (w:World) (j d:Nat) (S:St):Prop:=PDisk F w d S∧Jb w j d∧F j
theorem RecL.new:RecL [] []:=Or.inl ⟨rfl,fun _ _ _=>rfl,fun b hb=>by cases hb⟩
theorem jb_ne {F:Nat->Prop} {w:World} {j d:Nat} {S:St} (h:PDisk F w d S) (hJ:Jb w j d):j≠d:=by
 obtain ⟨mb,ml,h⟩:=h
 rintro rfl
 have h1:=h.head
 rw [show w.heap[j]?=_ from hJ] at h1
 cases h1
theorem bkok_puts {w:World} {a:Option Addr} {l:List Pt} (h:Puts w a l):∀ b∈l.map Pt.bk,BkOk b:=by
 intro b hb
 obtain ⟨p,hp,rfl⟩:=List.mem_map.1 hb
 obtain ⟨k,hk,rfl⟩:=List.mem_iff_getElem.1 hp
 obtain ⟨_,_,_,ho⟩:=h k hk
 exact ⟨ho.bd.2.1,ho.bd.2.2.1,ho.bd.2.2.2,ho.bd.1⟩
theorem jp_of {F:Nat->Prop} {w w':World} {j d:Nat} {S':St} {V:List Bk} (hD:Dk F w w' d S') (hJ:Jb w j d) (hFj:F j) (hI:Idle S'.l V):JPx (Gr F w w') w' j d S' V :=
 ⟨hD.disk,hI,hJ.same hD.same,Or.inl hFj⟩
theorem jx_of {F:Nat->Prop} {w w':World} {j d:Nat} {S':St} (hD:Dk F w w' d S') (hJ:Jb w j d) (hFj:F j):JXx (Gr F w w') w' j d S' :=
 ⟨hD.disk,hJ.same hD.same,Or.inl hFj⟩
theorem map_ne {l:List Pt} {n:Nat} (hl:l.length=n) (h0:0<n):l.map Pt.bk≠[]:=by
 intro h
 have:=congrArg List.length h
 rw [List.length_map,hl] at this
 simp at this
 omega
theorem group_all (F:Nat->Prop) (j d:Nat) (S:St) (V:List Bk) (a:Option Addr) (n c:Nat) (l:List Pt) (w:World) (hJP:JPx F w j d S V) (hF:∀ k,F k->k<w.heap.size) (hl:l.length=n) (hn:n<=1000000) (hP:Puts w a l) (hw:S.writes<=900000) :
  Calls Tryz.prog 50 #[.pointer (some ⟨j,0,none⟩),.slice a n c] w fun e w'=>∃ S' E,e = .returned (.int .i64 E)∧Chg F w w'∧S'.writes<=S.writes+2000∧Go.Proofs.YtlllmmceoeihkaaGreat.Steps S S' ∧
   ((may (l.map Pt.bk)≠0∧E=may (l.map Pt.bk)∧JPx (Gr F w w') w' j d S' V) ∨
    (may (l.map Pt.bk)=0∧E=0∧S'.out=false∧JPx (Gr F w w') w' j d S' (doAll V (l.map Pt.bk))) ∨
    (may (l.map Pt.bk)=0∧E=8∧¬ S.free∧S'.out=true∧JXx (Gr F w w') w' j d S'∧(RecL S'.l V∨S.writes+2<=S'.writes∧RecL S'.l (doAll V (l.map Pt.bk))))):=by
 obtain ⟨hD0,hI,hJ,hFj⟩:=hJP
 have hD:Dk F w w d S:=Dk.start hD0 hF
 by_cases hm:may (l.map Pt.bk)=0
 ·by_cases h0:n=0
  ·subst h0
   obtain rfl:=List.eq_nil_of_length_eq_zero hl
   refine (group_none j d S a c w hD hJ).mono ?_
   rintro e w' ⟨rfl,hD',_⟩
   by_cases hout:S.out=true
   ·rw [if_pos hout]
    exact ⟨S,8,rfl,hD'.chg,by omega,.refl S,Or.inr (Or.inr ⟨hm,rfl,fun hf=>(by rw [hf.1] at hout;cases hout),hout,jx_of hD' hJ hFj,Or.inl (Or.inl hI)⟩)⟩
   ·rw [if_neg hout]
    exact ⟨S,0,rfl,hD'.chg,by omega,.refl S,Or.inr (Or.inl ⟨hm,rfl,by simpa using hout,jp_of hD' hJ hFj hI⟩)⟩
  ·have h0':0<n:=by omega
   by_cases hout:S.out=true
   ·refine (group_down j d S a n c l w hD hJ hl hn h0' hP hm hout).mono ?_
    rintro e w' ⟨rfl,hD',_⟩
    exact ⟨S,8,rfl,hD'.chg,by omega,.refl S,Or.inr (Or.inr ⟨hm,rfl,fun hf=>(by rw [hf.1] at hout;cases hout),hout,jx_of hD' hJ hFj,Or.inl (Or.inl hI)⟩)⟩
   ·have harg:=groupAll_arg hm
    obtain ⟨k,hk1,hk2,hk3,hk4⟩:=St.doAll_some (S:=S) (groupAll (l.map Pt.bk)) harg
    have hlen:=groupAll_len (l.map Pt.bk)
    have h256:=(may_ok.1 hm).2
    have hml:(l.map Pt.bk).length=n:=by rw [List.length_map,hl]
    obtain ⟨hc1,hc2,hc3⟩:=group_cut hI (map_ne hl h0') hm (bkok_puts hP) k
    rw [<- hk2] at hc1 hc2 hc3
    refine (group_does j d S a n c l w hD hJ hl h0' hP hm (by simpa using hout) hI.1 hw).mono ?_
    rintro e w' ⟨rfl,hD',_⟩
    by_cases hx:(S.doAll (groupAll (l.map Pt.bk))).out=true
    ·rw [if_pos hx]
     refine ⟨_,8,rfl,hD'.chg,by omega,steps_doAll harg,Or.inr (Or.inr ⟨hm,rfl,fun hf=>(by rw [(hf.doAll _).1] at hx;cases hx),hx,jx_of hD' hJ hFj,?_⟩)⟩
     by_cases hk:k<=2*(l.map Pt.bk).length
     ·exact Or.inl (hc1 hk)
     ·exact Or.inr ⟨by omega,hc2 (by omega)⟩
    ·rw [if_neg hx]
     have hk5:=hk4 (by simpa using hx)
     exact ⟨_,0,rfl,hD'.chg,by omega,steps_doAll harg,Or.inr (Or.inl ⟨hm,rfl,by simpa using hx,jp_of hD' hJ hFj (hc3 (by omega))⟩)⟩
 ·refine (group_bad j d S a n c l w hD hl hn hP hm).mono ?_
  rintro e w' ⟨rfl,hD',_⟩
  exact ⟨S,_,rfl,hD'.chg,by omega,.refl S,Or.inl ⟨hm,rfl,jp_of hD' hJ hFj hI⟩⟩
theorem group_out (F:Nat->Prop) (j d:Nat) (S:St) (a:Option Addr) (n c:Nat) (l:List Pt) (w:World) (hJX:JXx F w j d S) (hF:∀ k,F k->k<w.heap.size) (ho:S.out=true) (hl:l.length=n) (hn:n<=1000000) (hP:Puts w a l) :
  Calls Tryz.prog 50 #[.pointer (some ⟨j,0,none⟩),.slice a n c] w fun e w'=>∃ E,e = .returned (.int .i64 E)∧E≠0∧Chg F w w'∧JXx (Gr F w w') w' j d S:=by
 obtain ⟨hD0,hJ,hFj⟩:=hJX
 have hD:Dk F w w d S:=Dk.start hD0 hF
 by_cases hm:may (l.map Pt.bk)=0
 ·by_cases h0:n=0
  ·subst h0
   refine (group_none j d S a c w hD hJ).mono ?_
   rintro e w' ⟨rfl,hD',_⟩
   rw [if_pos ho]
   exact ⟨8,rfl,by decide,hD'.chg,jx_of hD' hJ hFj⟩
  ·refine (group_down j d S a n c l w hD hJ hl hn (by omega) hP hm ho).mono ?_
   rintro e w' ⟨rfl,hD',_⟩
   exact ⟨8,rfl,by decide,hD'.chg,jx_of hD' hJ hFj⟩
 ·refine (group_bad j d S a n c l w hD hl hn hP hm).mono ?_
  rintro e w' ⟨rfl,hD',_⟩
  exact ⟨_,rfl,hm,hD'.chg,jx_of hD' hJ hFj⟩
theorem open_all (F:Nat->Prop) (d:Nat) (S:St) (V:List Bk) (w:World) (hP:PDisk F w d S) (hF:∀ k,F k->k<w.heap.size) (hR:RecL S.l V) (hw:S.writes<=900000) :
  Calls Tryz.prog 37 #[.pointer (some ⟨d,0,none⟩)] w fun e w'=>∃ S' jv E,e = .returned (.tuple #[jv,.int .i64 E])∧Chg F w w'∧S'.writes<=S.writes+2000∧Go.Proofs.YtlllmmceoeihkaaGreat.Steps S S' ∧
   ((E=0∧∃ j,jv = .pointer (some ⟨j,0,none⟩)∧JPx (Gr F w w') w' j d S' V)∨(E=8∧¬ S.free∧PDisk (Gr F w w') w' d S'∧RecL S'.l V)):=by
 refine (open_rec F d S V w hP hF hR hw).mono ?_
 rintro e w' ⟨S',E,⟨jv,rfl,hD,hj⟩,h1,h2,h3⟩
 refine ⟨S',jv,E,rfl,hD.chg,h1,h2,?_⟩
 rcases h3 with ⟨rfl,hI⟩|⟨rfl,hf,hr⟩
 ·obtain ⟨j,rfl,hj1,hj2,hjb⟩:=hj rfl
  exact Or.inl ⟨rfl,j,rfl,hD.disk,hI,hjb,Or.inr ⟨hj1,hj2⟩⟩
 ·exact Or.inr ⟨rfl,hf,hD.disk,hr⟩
def jspec:JSpec:={
 Rec:=fun S V=>RecL S.l V
 JP:=JPx
 JX:=JXx
 new:=RecL.new
 rec_l:=fun h e=>by rw [e];exact h
 jp_rec:=fun h=>Or.inl h.2.1
 jp_sees:=fun h=>h.2.1.2
 jp_disk:=fun h=>h.1
 jp_keep:=fun h he=>⟨h.1.keep he,h.2.1,(he _ h.2.2.2).trans h.2.2.1,h.2.2.2⟩
 jp_more:=fun h hF=>⟨h.1.more hF,h.2.1,h.2.2.1,hF _ h.2.2.2⟩
 jp_cut:=fun h hO hP=>⟨hP,h.2.1,(hO.block _ (jb_ne h.1 h.2.2.1)).trans h.2.2.1,h.2.2.2⟩
 jx_disk:=fun h=>h.1
 jx_keep:=fun h he=>⟨h.1.keep he,(he _ h.2.2).trans h.2.1,h.2.2⟩
 open_:=open_all
 group_:=group_all
 groupx_:=group_out }
end
end Go.Proofs.YtlllmmceoeihkaaGreat
