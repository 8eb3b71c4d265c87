/-
  The program's space: Take, a loop over the free spans that is left behind the first one that is long enough.
-/
import Derived.Test.YtlllmmceoeihkaaGreatQspans
import Derived.Test.YtlllmmceoeihkaaGreatQheld
import Derived.OrdersIn
set_option maxRecDepth 20000
namespace Go.Proofs.YtlllmmceoeihkaaGreat.Q
open Go.RowKit Go.Shelf
attribute [local go_sem] Oper.semAt_some
/-! ### a region that draws its order within a round -/
def plainOps (l:Array Oper):Bool:=l.all fun o=>match o.op with | .defer _=>false | _=>true
theorem plainOps_spec {l:Array Oper} (h:plainOps l=true) {i:Nat} {o:Oper} (ho:l[i]?=some o) (c:Call):o.op ≠ .defer c:=by
 intro e
 have:=Array.all_eq_true'.1 h o (Array.mem_of_getElem? ho)
 rw [e] at this
 cases this
section
variable {P:Program} {ops:Array Oper} {md:Region.Mode} {l n:Nat} {Q:Exit->Act->World->Prop}
theorem wpOpIn_of_wpOp {i:Nat} {a:Act} {K K':Act->World->Prop} {w:World} (hnd:∀ (i:Nat) (o:Oper),ops[i]?=some o->∀ c,o.op ≠ .defer c) (hlo:¬ LetsOut Q) (h:∀ a w',K a w'->K' a w')
  (hh:wpOp P ops Q i K a w):wpOpIn (Fence.wide.inRound l) n P ops Q i K' a w:=by
 unfold wpOp at hh
 unfold wpOpIn
 split
 ·rename_i ho
  simp only [ho] at hh
  exact h _ _ hh
 ·rename_i o ho
  simp only [ho] at hh
  split
  ·rename_i hw
   simp only [hw,if_true] at hh
   have h3:=hh.resolve_right (fun h=>hlo h.2)
   unfold Oper.wp at h3
   refine ⟨fun _ _=>trivial,?_⟩
   rw [Oper.semAt_eq _ _ _ (hnd i o ho)]
   generalize (execOp a.eval o).run P w=r at *
   cases r with
   | ok x w' =>
     cases x <;> simp only [Oper.upon] at h3 <;> simp only [Oper.uponIn]
     case value u=>exact h _ _ h3
     case skip=>exact h _ _ h3
     case defer d=>exact h _ _ h3
     case enter f args =>
      refine ⟨fun hd=>(by cases hd),(CallsIn.inRound l (callsIn_wide.2 h3)).mono fun e w'' he=>?_⟩
      cases e with
      | returned v=>exact h _ _ he
      | panicked c=>exact he
      | outgrown=>exact he
     case row rw' args=>exact ⟨fun hd=>(by cases hd),fun c cs _=>let ⟨v,w2,r,s⟩:=h3 c cs;⟨v,w2,h _ _ r,stepsIn_wide.2 s⟩⟩
   | halt x w'=>cases x <;> simp only [Oper.upon] at h3 <;> simp only [Oper.uponIn] <;> exact h3
  ·rename_i hw
   simp only [hw] at hh
   exact ⟨fun _ _=>trivial,h _ _ hh⟩
theorem wpAnyIn_of_wpAny (hnd:∀ (i:Nat) (o:Oper),ops[i]?=some o->∀ c,o.op ≠ .defer c) (hlo:¬ LetsOut Q):∀ (fuel:Nat) (listed:Array Bool) (a:Act) (w:World),
  wpAny P md ops Q fuel listed a w->wpAnyIn (Fence.wide.inRound l) n P md ops Q fuel listed a w
 | 0,_,_,_,h=>h
 | fuel+1,_,_,_,h=>⟨h.1,fun i hi=>wpOpIn_of_wpOp hnd hlo (fun a' w' h'=>wpAnyIn_of_wpAny hnd hlo fuel _ a' w' h') (h.2 i hi)⟩
theorem region_round_L (S:World->Prop) (m:Nat) {id:Nat} {a:Act} {w:World} (hm:P.follows .mixedOrders=true) (hp:plainOps ops=true) (hlo:¬ LetsOut Q)
  (h:wpAnyL P .any ops Q S m ops.size (Array.replicate ops.size false) a w.drew):(Code.region id ops true).wpIn (Fence.wide.inRound l) n P Q a w :=
 wpIn_region_any hm (wpAnyIn_of_wpAny (fun _ _ ho c=>plainOps_spec hp ho c) hlo _ _ _ _ (wpAny_of_heldL _ _ _ _ h))
end
/-! ### plain -/
theorem take_hit {h f m n:Nat} {T:List Bool} {l:List Sp} (hh:h<=T.length) (hn:1<=n) (hp:l++[(f,m)] <+: spansS h T) (hl:∀ y∈l,y.2<n) (hm:n<=m):takeS h T n=some f∧mayB h T (f:Int) (n:Int) false=true:=by
 have hI:=spans_is hh
 obtain ⟨suf,hs⟩:=hp
 have hf:firstS (spansS h T) n=some (f,m):=by
  unfold firstS
  rw [<- hs,List.find?_append,List.find?_append,List.find?_eq_none.2 (fun y hy=>by have:=hl y hy;simp only [decide_eq_true_eq];omega)]
  simp [hm]
 have hin:=hI.ins (f,m) (by rw [<- hs];simp)
 simp only at hin
 refine ⟨by rw [take_first hh hI hn,hf];rfl,?_⟩
 unfold mayB
 rw [Bool.and_eq_true,decide_eq_true_iff]
 refine ⟨by omega,?_⟩
 rw [Int.toNat_natCast,Int.toNat_natCast]
 exact (allS_iff (by omega) false).2 (fun i h3 h4=>get_of (by omega) (hin.2.2.2 i h3 (by omega)))
theorem take_miss {h n:Nat} {T:List Bool} (hh:h<=T.length) (hn:1<=n) (hl:∀ y∈spansS h T,y.2<n):takeS h T n=none:=by
 rw [take_first hh (spans_is hh) hn]
 have:firstS (spansS h T) n=none:=List.find?_eq_none.2 (fun y hy=>by have:=hl y hy;simp only [decide_eq_true_eq];omega)
 rw [this]
 rfl
/-! ### Take -/
def TakeSay (g tb h:Nat) (T:List Bool) (n:Int) (w:World) (e:Ending) (w':World):Prop:=e = .returned (.tuple #[.int .i64 (tkS h T n).1,.int .i64 (tkS h T n).2.1])∧PS w' g tb h (tkS h T n).2.2∧Chg (fun k=>k=tb) w w'
theorem res_two {W:World} {fn:Func} {p q:Tmp} {t u:TypeId} {tmps:Array Value} {a b:Nat} {x y:Int} (h:fn.results = #[.cell p 3,.cell q 28]) (hp:tmps.getD p undef = .pointer (some ⟨a,0,none⟩)) (hq:tmps.getD q undef = .pointer (some ⟨b,0,none⟩)) (ha:Boxed W a t (.int .i64 x)) (hb:Boxed W b u (.int .i64 y)):(results fn tmps).run Tryz.prog W = .ok (.tuple #[.int .i64 x,.int .i64 y]) W:=by
 have c:=ha.cell
 have d:=hb.cell
 have hp':tmps[p]?.getD undef = .pointer (some ⟨a,0,none⟩):=by simpa using hp
 have hq':tmps[q]?.getD undef = .pointer (some ⟨b,0,none⟩):=by simpa using hq
 simp [results,h,hp',hq',asAddr,go_sem,c,d]
theorem box_other {W:World} {B b k:Nat} {t:TypeId} {v u:Value} (h:Boxed W B t v) (hb:B≠b):Boxed (W.setCell ⟨b,k,none⟩ u) B t v:=(Below.heap_setCell W ⟨b,k,none⟩ u B hb).trans h
theorem Chg.set {F:Nat->Prop} {w W:World} {b k:Nat} {v:Value} (h:Chg F w W) (hb:w.heap.size<=b):Chg F w (W.setCell ⟨b,k,none⟩ v):=by
 have hO:Only b W (W.setCell ⟨b,k,none⟩ v):=(Only.refl _ _).set _ _
 exact ⟨hO.os.trans h.os,hO.tape.trans h.tape,hO.output.trans h.output,by rw [hO.size];exact h.size,fun j hj hf=>(hO.block j (by omega)).trans (h.block j hj hf)⟩
theorem Chg.put {F:Nat->Prop} {w W:World} {D:Nat} {o:Obj} (h:Chg F w W) (hD:w.heap.size<=D):Chg F w (W.putObj D o):=by
 have hg:=grownBy_putObj' W D o
 refine ⟨hg.os.trans h.os,hg.tape.trans h.tape,hg.output.trans h.output,Nat.le_trans h.size hg.size,fun j hj hf=>?_⟩
 refine (hg.block j (Nat.lt_of_lt_of_le hj h.size) (fun e=>?_)).trans (h.block j hj hf)
 have:j=D:=by simpa using e
 omega
theorem PS.setOther {W:World} {g tb h b k:Nat} {T:List Bool} {v:Value} (H:PS W g tb h T) (h1:g≠b) (h2:tb≠b):PS (W.setCell ⟨b,k,none⟩ v) g tb h T :=
 H.keep (Below.heap_setCell W ⟨b,k,none⟩ v g h1) (Below.heap_setCell W ⟨b,k,none⟩ v tb h2)
structure Sees (b g Bx:Nat) (n:Int) (xf xm:Nat) (w:World):Prop where
 s:Boxed w b 138 (.pointer (some ⟨g,0,none⟩))
 n:Boxed w (b+1) 3 (.int .i64 n)
 x:w.heap[Bx]?=some (.cells #[.int .i64 (xf:Int),.int .i64 (xm:Int)] 97 (0,0))
structure Left (b g tb h:Nat) (T:List Bool) (n:Int) (w:World) (pre:List Q) (W:World):Prop where
 hit:∃ (l:List Q) (x:Q),pre=l++[x]∧(∀ y∈l,(y.m:Int)<n)∧n<=(x.m:Int)∧Boxed W (b+1+1) 3 (.int .i64 (x.f:Int))∧Boxed W (b+1+1+1) 28 (.int .i64 (erS h T (x.f:Int) n false))∧PS W g tb h (doS h T (x.f:Int) n false true)∧Chg (fun k=>k=tb) w W
theorem cells_kept {X Y:World} {row:Option Nat} {B k:Nat} {cs:Array Value} {t:TypeId} {fr:Nat×Nat} (hg:X.grownBy Y row) (hr:∀ r,row=some r->B<=r∧∃ o:Obj,X.heap[r]?=some o∧o.isCells=false) (h:X.heap[k]?=some (.cells cs t fr)):Y.heap[k]?=some (.cells cs t fr):=by
 refine (hg.block k (Array.getElem?_eq_some_iff.1 h).1 (fun e=>?_)).trans h
 obtain ⟨_,o,ho,hc⟩:=hr k e.symm
 rw [h] at ho
 cases ho
 cases hc
theorem Left.own {b g tb h B:Nat} {T:List Bool} {n:Int} {w:World} (hB:w.heap.size<=B):OwnFrom B (fun pre W=>Left b g tb h T n w pre W):=fun pre X Y row hs hg hr=>by
 obtain ⟨l,x,h1,h2,h3,h4,h5,h6,h7⟩:=hs.hit
 refine ⟨l,x,h1,h2,h3,cells_kept hg hr h4,cells_kept hg hr h5,⟨cells_kept hg hr h6.head,cells_kept hg hr h6.row,h6.ne,h6.le,h6.few⟩,?_⟩
 exact ⟨hg.os.trans h7.os,hg.tape.trans h7.tape,hg.output.trans h7.output,Nat.le_trans h7.size hg.size,fun k hk hf=>(hg.block k (Nat.lt_of_lt_of_le hk h7.size) (fun e=>by have:=(hr k e.symm).1;omega)).trans (h7.block k hk hf)⟩
set_option maxRecDepth 100000 in
set_option maxHeartbeats 4000000 in
theorem take_c (g tb h:Nat) (T:List Bool) (n:Int) (hn:I64 n) (w:World) (H:PS w g tb h T) :
  Calls Tryz.prog 142 #[.pointer (some ⟨g,0,none⟩),.int .i64 n] w (TakeSay g tb h T n w):=by
 have hg:g<w.heap.size:=(Array.getElem?_eq_some_iff.1 H.head).1
 have ht:tb<w.heap.size:=(Array.getElem?_eq_some_iff.1 H.row).1
 have Hle:Hid (h<=T.length∧T.length<=4096):=⟨H.le,H.few⟩
 refine (callsIn_wide (n:=6)).1 ?_
 refine callsIn_of_wp_marks Tryz.func142 rfl trivial ?_ rfl
 simp only [Tryz.ntmps142,List.size_toArray,List.length_cons,List.length_nil,Nat.reduceAdd,Nat.reduceSub,Array.replicate_succ,Array.replicate_zero,List.push_toArray,List.append_toArray,List.nil_append,List.cons_append]
 obtain ⟨wa,hwa⟩:∃ wa,wa=(((w.alloc (.cells #[.pointer (some ⟨g,0,none⟩)] 138)).alloc (.cells #[.int .i64 n] 3)).alloc (.cells #[.int .i64 0] 3)).alloc (.cells #[.int .i64 0] 28):=⟨_,rfl⟩
 have bS:Boxed wa w.heap.size 138 (.pointer (some ⟨g,0,none⟩)):=by rw [hwa];exact (((Boxed.new w 138 _).alloc _).alloc _).alloc _
 have bM:Boxed wa (w.heap.size+1) 3 (.int .i64 n):=by
  have:=((Boxed.new (w.alloc (.cells #[.pointer (some ⟨g,0,none⟩)] 138)) 3 (.int .i64 n)).alloc (.cells #[.int .i64 0] 3)).alloc (.cells #[.int .i64 0] 28)
  rw [World.size_alloc] at this
  rw [hwa];exact this
 have bR:Boxed wa (w.heap.size+1+1) 3 (.int .i64 0):=by
  have:=(Boxed.new ((w.alloc (.cells #[.pointer (some ⟨g,0,none⟩)] 138)).alloc (.cells #[.int .i64 n] 3)) 3 (.int .i64 0)).alloc (.cells #[.int .i64 0] 28)
  rw [World.size_alloc,World.size_alloc] at this
  rw [hwa];exact this
 have bE:Boxed wa (w.heap.size+1+1+1) 28 (.int .i64 0):=by
  have:=Boxed.new (((w.alloc (.cells #[.pointer (some ⟨g,0,none⟩)] 138)).alloc (.cells #[.int .i64 n] 3)).alloc (.cells #[.int .i64 0] 3)) 28 (.int .i64 0)
  rw [World.size_alloc,World.size_alloc,World.size_alloc] at this
  rw [hwa];exact this
 have hb1:Below w.heap.size w wa:=by rw [hwa];exact ((((Below.refl _ w).alloc (Nat.le_refl _) _).alloc (by simp) _).alloc (by simp;omega) _).alloc (by simp;omega) _
 have hsz:wa.heap.size=w.heap.size+4:=by rw [hwa];simp
 refine wpIn_seq_k (fun K hK=>?_)
 have HK:Hid (∀ a w',_->K a w'):=hK
 clear hK
 gi_wp2
 rw [<- hwa]
 refine HK.out _ _ ?_
 clear HK hwa K
 have hS1:PS wa g tb h T:=H.on hb1
 clear H
 by_cases h1:n<1
 ·have cM:=bM.cell
  have cR:=bR.cell
  have fR:=bR.frozen
  have bE2:Boxed (wa.setCell ⟨w.heap.size+1+1,0,none⟩ (.int .i64 0)) (w.heap.size+1+1+1) 28 (.int .i64 0):=box_other bE (by omega)
  have cE:=bE2.cell
  have fE:=bE2.frozen
  have R:TakeSay g tb h T n w (.returned (.tuple #[.int .i64 0,.int .i64 1])) ((wa.setCell ⟨w.heap.size+1+1,0,none⟩ (.int .i64 0)).setCell ⟨w.heap.size+1+1+1,0,none⟩ (.int .i64 1)):=by
   have e:tkS h T n=(0,1,T):=by unfold tkS;rw [if_pos h1]
   unfold TakeSay
   rw [e]
   exact ⟨rfl,(hS1.setOther (by omega) (by omega)).setOther (by omega) (by omega),((Chg.of_below hb1).set (by omega)).set (by omega)⟩
  have HR:Hid (TakeSay g tb h T n w (.returned (.tuple #[.int .i64 0,.int .i64 1])) ((wa.setCell ⟨w.heap.size+1+1,0,none⟩ (.int .i64 0)).setCell ⟨w.heap.size+1+1+1,0,none⟩ (.int .i64 1))):=R
  have HX:Hid (Boxed ((wa.setCell ⟨w.heap.size+1+1,0,none⟩ (.int .i64 0)).setCell ⟨w.heap.size+1+1+1,0,none⟩ (.int .i64 1)) (w.heap.size+1+1) 3 (.int .i64 0)∧Boxed ((wa.setCell ⟨w.heap.size+1+1,0,none⟩ (.int .i64 0)).setCell ⟨w.heap.size+1+1+1,0,none⟩ (.int .i64 1)) (w.heap.size+1+1+1) 28 (.int .i64 1)):=⟨box_other (bR.set _) (by omega),bE2.set _⟩
  clear R bE2 bE bR bM bS hS1 hb1
  gi_wp2
  exact ⟨_,res_two rfl rfl rfl HX.out.1 HX.out.2,HR.out⟩
 have hn1:1<=n:=by omega
 have cM:=bM.cell
 have cS:=bS.cell
 gi_wp2_with (fail)
 refine ⟨trivial,?_⟩
 refine (callsIn_wide.2 (gaps_c g wa)).mono ?_
 rintro e w2 ⟨rfl,rfl⟩
 clear cM cS
 have hb2:Below wa.heap.size wa (wa.alloc (.cells #[.pointer (some ⟨g,0,none⟩)] 138)):=(Below.refl _ _).alloc (Nat.le_refl _) _
 have hB2:(wa.alloc (.cells #[.pointer (some ⟨g,0,none⟩)] 138)).heap[w.heap.size+4]?=some (.cells #[.pointer (some ⟨g,0,none⟩)] 138 (0,0)):=by rw [<- hsz];exact heap_alloc_new wa _
 have hS2:=hS1.on hb2
 have bS2:=bS.alloc (.cells #[.pointer (some ⟨g,0,none⟩)] 138)
 have bM2:=bM.alloc (.cells #[.pointer (some ⟨g,0,none⟩)] 138)
 have bR2:=bR.alloc (.cells #[.pointer (some ⟨g,0,none⟩)] 138)
 have bE2:=bE.alloc (.cells #[.pointer (some ⟨g,0,none⟩)] 138)
 have hb3:Below w.heap.size w (wa.alloc (.cells #[.pointer (some ⟨g,0,none⟩)] 138)):=hb1.alloc (by omega) _
 have hsz2:(wa.alloc (.cells #[.pointer (some ⟨g,0,none⟩)] 138)).heap.size=w.heap.size+5:=by simp [hsz]
 rw [hsz]
 generalize wa.alloc (.cells #[.pointer (some ⟨g,0,none⟩)] 138)=W0 at *
 clear bS bM bR bE hb1 hb2 hS1 hsz
 have Hsz2:Hid (W0.heap.size=w.heap.size+5):=hsz2
 clear hsz2
 gi_wp2_with (fail)
 have hst:=gaps_stops 5 (by omega) (w.heap.size+4) g tb h T W0 hB2 hS2
 refine wpIn_rangeFunc_ownH rfl (by decide) (gf:=126) (lb := #[.pointer (some ⟨w.heap.size+4,0,none⟩)]) rfl trivial (enters_of Tryz.func126 (by kernel_rfl) rfl)
  hst (fun h k=>Kq.trans h k) (fun W l o o' _ h ho _=>Kq.book W l o o' h ho) (Below.refl _ _) (fun _=>rfl)
  (fun pre W=>Below W0.heap.size W0 W∧∀ y∈pre,(y.m:Int)<n)
  (fun c pre W=>c = .ret∧Left w.heap.size g tb h T n w pre W)
  (OwnFrom.and (ownFrom_below (Nat.le_refl _) (Nat.le_refl _)) (ownFrom_pure _ (fun pre:List Q=>∀ y∈pre,(y.m:Int)<n)))
  (fun c=>OwnFrom.and (ownFrom_pure _ (fun _=>c = .ret)) (Left.own (by have:=Hsz2.out;omega)))
  ⟨Below.refl _ _,fun y hy=>(by cases hy)⟩
  (fun x a' W=>∃ Bx,W0.heap.size<=Bx∧W.heap[Bx]?=some (.cells #[.int .i64 (x.f:Int),.int .i64 (x.m:Int)] 97 (0,0))∧a'={ tmps := #[Value.pointer (some { block:=g,off:=0 }),Value.int IntKind.i64 n,Value.pointer (some { block:=w.heap.size,off:=0 }),Value.pointer (some { block:=w.heap.size+1,off:=0 }),Value.pointer (some { block:=w.heap.size+1+1,off:=0 }),Value.pointer (some { block:=w.heap.size+1+1+1,off:=0 }),.pointer (some ⟨Bx,0,none⟩),Value.int IntKind.i64 n,Value.bool false,Value.pointer (some { block:=g,off:=0 }),Value.func (Fn.func 126) #[] #[Value.pointer (some { block:=w.heap.size+4,off:=0 })],.agg #[.int .i64 (x.f:Int),.int .i64 (x.m:Int)],undef,undef,undef,undef,undef,undef,undef,undef,undef,undef,undef,undef],defers:=[] })
  (fun x a' _ X Y row hs hg hr=>by
   obtain ⟨Bx,h0,h1,h2⟩:=hs
   exact ⟨Bx,h0,cells_kept hg hr h1,h2⟩)
  ?assign ?body ?done ?stop
 case assign =>
  rintro l pre x W K ⟨hB,hv⟩ hK
  gi_wp2
  exact hK _ _ ((KeepsOthers.alloc _ _).from _) (Kq.grow (World.grownBy_alloc W _ none)) ⟨hB.alloc hB.size _,hv⟩ ⟨W.heap.size,hB.size,heap_alloc_new W _,rfl⟩
 case body =>
  rintro l pre x a' W _ _ ⟨hB,hv⟩ ⟨Bx,hBx,hP,rfl⟩ hlt
  have bS:Boxed W w.heap.size 138 (.pointer (some ⟨g,0,none⟩)):=(hB.block _ bS2.lt).trans bS2
  have bM:Boxed W (w.heap.size+1) 3 (.int .i64 n):=(hB.block _ bM2.lt).trans bM2
  have bR:Boxed W (w.heap.size+1+1) 3 (.int .i64 0):=(hB.block _ bR2.lt).trans bR2
  have bE:Boxed W (w.heap.size+1+1+1) 28 (.int .i64 0):=(hB.block _ bE2.lt).trans bE2
  have hSW:PS W g tb h T:=hS2.on hB
  have cM:=bM.cell
  have x1:W.cell? ⟨Bx,1,none⟩=some (.int .i64 (x.m:Int)):=(cell_of_row W _ 1 _ 97 (0,0) hP).trans rfl
  have hxf:=x.hf
  have hxm:=x.hm
  by_cases hm:n<=(x.m:Int)
  case neg =>
   have HR:Hid (ownPostG W0.heap.size (Kq (w.heap.size+4) g tb) (fun pre W=>Below W0.heap.size W0 W∧∀ y∈pre,(y.m:Int)<n) (fun c pre W=>c = .ret∧Left w.heap.size g tb h T n w pre W) (pre++[x]) W .normal { tmps := #[],defers:=[] } W):=⟨KeepsFrom.refl _ _,Kq.refl _ _ _ _,hB,fun y hy=>by
    rcases List.mem_append.1 hy with hy | hy
    ·exact hv y hy
    ·obtain rfl:=List.mem_singleton.1 hy
     omega⟩
   clear bS bM bR bE hSW hB hv
   gi_wp2
   exact HR.out
  have HB:Hid (Below W0.heap.size W0 W):=hB
  have HV:Hid (∀ y∈pre,(y.m:Int)<n):=hv
  have HS:Hid (PS W g tb h T):=hSW
  have HbS:Hid (Boxed W w.heap.size 138 (.pointer (some ⟨g,0,none⟩))):=bS
  have HbM:Hid (Boxed W (w.heap.size+1) 3 (.int .i64 n)):=bM
  have HbR:Hid (Boxed W (w.heap.size+1+1) 3 (.int .i64 0)):=bR
  have HbE:Hid (Boxed W (w.heap.size+1+1+1) 28 (.int .i64 0)):=bE
  clear bS bM bR bE hSW hB hv
  gi_wp2_with (fail)
  refine region_round_L (Sees w.heap.size g Bx n x.f x.m) 9 (by kernel_rfl) (by kernel_rfl) (by rintro ⟨_,_,h⟩;exact h) ?_
  have hd0:Below W0.heap.size W0 W.drew:=⟨HB.out.os,HB.out.tape,HB.out.output,HB.out.size,HB.out.block⟩
  have HB':Hid (Below W0.heap.size W0 W.drew):=hd0
  have HS':Hid (PS W.drew g tb h T):=PS.mk HS.out.head HS.out.row HS.out.ne HS.out.le HS.out.few
  have HbS':Hid (Boxed W.drew w.heap.size 138 (.pointer (some ⟨g,0,none⟩))):=HbS.out
  have HbM':Hid (Boxed W.drew (w.heap.size+1) 3 (.int .i64 n)):=HbM.out
  have HbR':Hid (Boxed W.drew (w.heap.size+1+1) 3 (.int .i64 0)):=HbR.out
  have HbE':Hid (Boxed W.drew (w.heap.size+1+1+1) 28 (.int .i64 0)):=HbE.out
  have HP':Hid (W.drew.heap[Bx]?=some (.cells #[.int .i64 (x.f:Int),.int .i64 (x.m:Int)] 97 (0,0))):=hP
  have HKF:Hid (∀ W',Chg (fun k=>k=tb) W.drew W'->KeepsFrom W0.heap.size W W'):=fun W' hC=>⟨hC.size,fun k o hk ho hc=>(hC.block k (Array.getElem?_eq_some_iff.1 ho).1 (by have:=Hsz2.out;omega)).trans ho⟩
  have HCW:Hid (∀ W',Chg (fun k=>k=tb) W.drew W'->Chg (fun k=>k=tb) w W'):=fun W' hC=>(Chg.of_below (hb3.trans (hd0.mono hb3.size))).trans hC (fun j hj=>.inl hj)
  clear hd0 HB HS HbS HbM HbR HbE hP x1 cM
  generalize W.drew=va at *
  have hHeld:(Sees w.heap.size g Bx n x.f x.m) va:=⟨HbS'.out,HbM'.out,HP'.out⟩
  have hne:Nonempty (Sub (Sees w.heap.size g Bx n x.f x.m)):=⟨⟨_,hHeld⟩⟩
  have k0:∀ s:Sub (Sees w.heap.size g Bx n x.f x.m),s.w.cell? ⟨Bx,0,none⟩=some (.int .i64 (x.f:Int)):=fun s=>(cell_of_row s.w _ 0 _ 97 (0,0) s.ok.x).trans rfl
  have k2:∀ s:Sub (Sees w.heap.size g Bx n x.f x.m),s.w.cell? ⟨w.heap.size,0,none⟩=some (.pointer (some ⟨g,0,none⟩)):=fun s=>s.ok.s.cell
  have k3:∀ s:Sub (Sees w.heap.size g Bx n x.f x.m),s.w.cell? ⟨w.heap.size+1,0,none⟩=some (.int .i64 n):=fun s=>s.ok.n.cell
  refine tk0 0 rfl (fun _ _ _ _ h=>h) hHeld fun K hK=>?_;go_simp;refine hK _ ?_;clear hK K
  refine tk0 1 rfl (fun _ _ _ _ h=>h) hHeld fun K hK=>?_;go_simp;refine hK _ ?_;clear hK K
  refine tk0 2 rfl (fun _ _ _ _ h=>h) hHeld fun K hK=>?_;go_simp;refine hK _ ?_;clear hK K
  refine tk0 3 rfl (fun _ _ _ _ h=>h) hHeld fun K hK=>?_;go_simp;refine hK _ ?_;clear hK K
  refine tk0 4 rfl (fun _ _ _ _ h=>h) hHeld fun K hK=>?_;go_simp;refine hK _ ?_;clear hK K
  refine tk0 5 rfl (fun _ _ _ _ h=>h) hHeld fun K hK=>?_;go_simp;refine hK _ ?_;clear hK K
  refine tk0 6 rfl (fun _ _ _ _ h=>h) hHeld fun K hK=>?_;go_simp;refine hK _ ?_;clear hK K
  refine ol 7 rfl fun K hK=>?_
  go_simp
  refine (mark_c g tb h T (x.f:Int) n (by unfold I64;omega) hn va HS'.out).mono ?_
  rintro _ vb ⟨rfl,hSb,hCb⟩
  have HCb:Hid (Chg (fun k=>k=tb) va vb):=hCb
  have HSb:Hid (PS vb g tb h (doS h T (x.f:Int) n false true)):=hSb
  have bx:∀ {B:Nat} {t:TypeId} {v:Value},w.heap.size<=B->Boxed va B t v->Boxed vb B t v:=fun hB h=>(hCb.block _ h.lt (by omega)).trans h
  have bR:=bx (by omega) HbR'.out
  have bE:=bx (by omega) HbE'.out
  replace hHeld:(Sees w.heap.size g Bx n x.f x.m) vb:=⟨bx (by omega) HbS'.out,bx (by omega) HbM'.out,(hCb.block _ (Array.getElem?_eq_some_iff.1 HP'.out).1 (by have:=Hsz2.out;omega)).trans HP'.out⟩
  refine hK.out _ _ (fun _=>hHeld) ?_
  clear hK K hSb hCb bx HbR' HbE' HbS' HbM' HP' HS' HB'
  obtain ⟨er,her⟩:∃ er,er=erS h T (x.f:Int) n false:=⟨_,rfl⟩
  rw [<- her]
  have HE:Hid (er=erS h T (x.f:Int) n false):=her
  clear her
  have cR:=bR.cell
  have fR:=bR.frozen
  have bE2:Boxed (vb.setCell ⟨w.heap.size+1+1,0,none⟩ (.int .i64 (x.f:Int))) (w.heap.size+1+1+1) 28 (.int .i64 0):=box_other bE (by omega)
  have HX:Hid (Left w.heap.size g tb h T n w (pre++[x]) ((vb.setCell ⟨w.heap.size+1+1,0,none⟩ (.int .i64 (x.f:Int))).setCell ⟨w.heap.size+1+1+1,0,none⟩ (.int .i64 er))∧KeepsFrom W0.heap.size W ((vb.setCell ⟨w.heap.size+1+1,0,none⟩ (.int .i64 (x.f:Int))).setCell ⟨w.heap.size+1+1+1,0,none⟩ (.int .i64 er))):=by
   refine ⟨⟨pre,x,rfl,HV.out,hm,box_other (bR.set _) (by omega),by rw [<- HE.out];exact bE2.set _,(HSb.out.setOther (by omega) (by omega)).setOther (by omega) (by omega),((HCW.out _ HCb.out).set (by omega)).set (by omega)⟩,?_⟩
   have h0:=HKF.out _ HCb.out
   refine ⟨Nat.le_trans h0.size (by simp [World.setCell]),fun k o hk ho hc=>?_⟩
   have h1:=h0.same k o hk ho hc
   refine (Below.heap_setCell _ ⟨w.heap.size+1+1+1,0,none⟩ _ k (by have:=Hsz2.out;simp only;omega)).trans ((Below.heap_setCell _ ⟨w.heap.size+1+1,0,none⟩ _ k (by have:=Hsz2.out;simp only;omega)).trans h1)
  have HH:Hid (Sees w.heap.size g Bx n x.f x.m (vb.setCell ⟨w.heap.size+1+1,0,none⟩ (.int .i64 (x.f:Int)))):=Sees.mk (box_other hHeld.s (by omega)) (box_other hHeld.n (by omega)) ((Below.heap_setCell vb ⟨w.heap.size+1+1,0,none⟩ _ Bx (by have:=Hsz2.out;simp only;omega)).trans hHeld.x)
  have cE:=bE2.cell
  have fE:=bE2.frozen
  clear bR bE bE2 hHeld hne k0 k2 k3 HSb HCb HKF HCW
  refine ol 8 rfl fun K hK=>?_
  go_simp
  refine hK.out _ _ (fun _=>HH.out) ?_
  clear hK K HH cR fR
  refine ol 9 rfl fun K hK=>?_
  go_simp
  refine hK.out _ _ (fun h=>absurd rfl h) ?_
  clear hK K cE fE
  refine done_L (by kernel_rfl) ?_ _
  generalize (vb.setCell ⟨w.heap.size+1+1,0,none⟩ (.int .i64 (x.f:Int))).setCell ⟨w.heap.size+1+1+1,0,none⟩ (.int .i64 er)=vc at *
  gi_wp2
  exact ⟨HX.out.2,rfl,HX.out.1⟩
 case done =>
  rintro D ys W hD hq ⟨hB,hv⟩ hK
  have bR:Boxed W (w.heap.size+1+1) 3 (.int .i64 0):=(hB.block _ bR2.lt).trans bR2
  have bE:Boxed W (w.heap.size+1+1+1) 28 (.int .i64 0):=(hB.block _ bE2.lt).trans bE2
  have hSW:PS W g tb h T:=hS2.on hB
  have hbW:Below w.heap.size w W:=hb3.trans (hB.mono hb3.size)
  have bE2':Boxed (W.setCell ⟨w.heap.size+1+1,0,none⟩ (.int .i64 0)) (w.heap.size+1+1+1) 28 (.int .i64 0):=box_other bE (by omega)
  have cR:=bR.cell
  have fR:=bR.frozen
  have cE:=bE2'.cell
  have fE:=bE2'.frozen
  have hDz:w.heap.size+5<=D:=by have:=Hsz2.out;omega
  have HD:Hid (((W.setCell ⟨w.heap.size+1+1,0,none⟩ (.int .i64 0)).setCell ⟨w.heap.size+1+1+1,0,none⟩ (.int .i64 7)).heap[D]?=some (.deferred (some []))):=(Below.heap_setCell _ ⟨w.heap.size+1+1+1,0,none⟩ _ D (by simp only;omega)).trans ((Below.heap_setCell _ ⟨w.heap.size+1+1,0,none⟩ _ D (by simp only;omega)).trans hK)
  have hneg:takeS h T n.toNat=none:=take_miss Hle.out.1 (by omega) (fun y hy=>by
   rw [<- hq] at hy
   simp only [qs,List.mem_map] at hy
   obtain ⟨q,hq',rfl⟩:=hy
   have:=hv q hq'
   simp only
   omega)
  have hX1:Boxed ((W.setCell ⟨w.heap.size+1+1,0,none⟩ (.int .i64 0)).setCell ⟨w.heap.size+1+1+1,0,none⟩ (.int .i64 7)) (w.heap.size+1+1) 3 (.int .i64 0):=box_other (bR.set _) (by omega)
  have hX2:Boxed ((W.setCell ⟨w.heap.size+1+1,0,none⟩ (.int .i64 0)).setCell ⟨w.heap.size+1+1+1,0,none⟩ (.int .i64 7)) (w.heap.size+1+1+1) 28 (.int .i64 7):=bE2'.set _
  have HX:Hid (Boxed ((W.setCell ⟨w.heap.size+1+1,0,none⟩ (.int .i64 0)).setCell ⟨w.heap.size+1+1+1,0,none⟩ (.int .i64 7)) (w.heap.size+1+1) 3 (.int .i64 0)∧Boxed ((W.setCell ⟨w.heap.size+1+1,0,none⟩ (.int .i64 0)).setCell ⟨w.heap.size+1+1+1,0,none⟩ (.int .i64 7)) (w.heap.size+1+1+1) 28 (.int .i64 7)):=⟨hX1,hX2⟩
  have HR:Hid (∀ W',W'=((W.setCell ⟨w.heap.size+1+1,0,none⟩ (.int .i64 0)).setCell ⟨w.heap.size+1+1+1,0,none⟩ (.int .i64 7)).putObj D (.deferred none)->TakeSay g tb h T n w (.returned (.tuple #[.int .i64 0,.int .i64 7])) W'):=by
   rintro W' rfl
   have e:tkS h T n=(0,7,T):=by unfold tkS;rw [if_neg (by omega),hneg]
   unfold TakeSay
   rw [e]
   have hC:Chg (fun k=>k=tb) w ((W.setCell ⟨w.heap.size+1+1,0,none⟩ (.int .i64 0)).setCell ⟨w.heap.size+1+1+1,0,none⟩ (.int .i64 7)):=((Chg.of_below hbW).set (by omega)).set (by omega)
   exact ⟨rfl,((hSW.setOther (by omega) (by omega)).setOther (by omega) (by omega)).keep (World.putObj_heap_other (by omega)) (World.putObj_heap_other (by omega)),hC.put (by omega)⟩
  clear bR bE bE2' hSW hbW hX1 hX2 hneg hv hq hB
  gi_wp2
  refine ⟨by simp,.inl ⟨_,_,rfl,run_takeDeferred HD.out,?_⟩⟩
  exact ⟨_,res_two rfl rfl rfl ((World.putObj_heap_other (by omega)).trans HX.out.1) ((World.putObj_heap_other (by omega)).trans HX.out.2),HR.out _ rfl⟩
 case stop =>
  rintro D c pre W hD hp ⟨rfl,hL⟩ hK
  obtain ⟨l,x,rfl,hl,hm,bR,bE,hS,hC⟩:=hL.hit
  have hDz:w.heap.size+5<=D:=by have:=Hsz2.out;omega
  rw [qs_snoc] at hp
  obtain ⟨N,rfl⟩:=Int.eq_ofNat_of_zero_le (show 0<=n by omega)
  obtain ⟨e1,e2⟩:=take_hit (n:=N) Hle.out.1 (by omega) hp (fun y hy=>by
   simp only [qs,List.mem_map] at hy
   obtain ⟨q,hq',rfl⟩:=hy
   have:=hl q hq'
   simp only
   omega) (by omega)
  have e3:erS h T (x.f:Int) (N:Int) false=0:=by unfold erS;rw [e2];rfl
  have e4:doS h T (x.f:Int) (N:Int) false true=setS T x.f N true:=by unfold doS;rw [e2];rfl
  have e5:tkS h T (N:Int)=((x.f:Int),0,setS T x.f N true):=by unfold tkS;rw [if_neg (by omega),Int.toNat_natCast,e1]
  rw [e3] at bE
  rw [e4] at hS
  have HX:Hid (Boxed W (w.heap.size+1+1) 3 (.int .i64 (x.f:Int))∧Boxed W (w.heap.size+1+1+1) 28 (.int .i64 0)):=⟨bR,bE⟩
  have HR:Hid (∀ W',W'=W.putObj D (.deferred none)->TakeSay g tb h T (N:Int) w (.returned (.tuple #[.int .i64 (x.f:Int),.int .i64 0])) W'):=by
   rintro W' rfl
   unfold TakeSay
   rw [e5]
   refine ⟨rfl,hS.keep (World.putObj_heap_other (by omega)) (World.putObj_heap_other (by omega)),hC.put (by omega)⟩
  clear bR bE hS hC e1 e2 e3 e4 e5 hl hm hp hL
  gi_wp2
  refine ⟨by simp,.inl ⟨_,_,rfl,run_takeDeferred hK,?_⟩⟩
  exact ⟨_,res_two rfl rfl rfl ((World.putObj_heap_other (by omega)).trans HX.out.1) ((World.putObj_heap_other (by omega)).trans HX.out.2),HR.out _ rfl⟩
end Go.Proofs.YtlllmmceoeihkaaGreat.Q
