/-
  The program's space: its free spans one after the other, for every body that leaves the space alone.
  The program's space: Room and Largest, each a loop over the free spans.
  The program's space: Spans, a loop over the free spans that appends each.
-/
import Derived.Test.YtlllmmceoeihkaaGreatQmark
import Derived.RangeFuncNested
import Derived.RangeFuncBound
import Derived.RangeFuncCalls
import Derived.RangeFuncLeaves
import Derived.RangeFuncBox
import Derived.Shelf.Abstract
import Derived.Shelf.RegionOpen
import Derived.OwnWalkIn
import Derived.TacticsInMore
import Derived.LoopNIn
import Derived.LoopIn
import Derived.WalkMore
import Derived.Lib.MinMax
import Derived.Maps.AppendAt
set_option maxRecDepth 20000
namespace Go.Proofs.YtlllmmceoeihkaaGreat.Q
open Go.RowKit Go.Shelf
attribute [local go_sem] Oper.semAt_some
/-! ### plain -/
structure Scan (h:Nat) (T:List Bool) (F:Nat) (l:List Sp):Prop where
 lo:h<=F
 hi:F<=T.length+1
 is:IsSp h (min F T.length) T l
 gap:∀ x∈l,x.1+x.2<F
 few:l.length<=F-h
theorem scan_init {h:Nat} {T:List Bool} (hh:h<=T.length):Scan h T h [] :=
 ⟨Nat.le_refl _,by omega,by rw [Nat.min_eq_left hh];exact IsSp.nil h T,fun x hx=>(by cases hx),by simp⟩
theorem scan_end {h F:Nat} {T:List Bool} {l:List Sp} (hh:h<=T.length) (H:Scan h T F l) (hF:T.length<=F):l=spansS h T :=
 spans_of hh (by have:=H.is;rwa [Nat.min_eq_right hF] at this)
theorem scan_prefix {h F:Nat} {T:List Bool} {l:List Sp} (hh:h<=T.length) (H:Scan h T F l):l <+: spansS h T:=by
 obtain ⟨e,he⟩:∃ e,e=min F T.length:=⟨_,rfl⟩
 have hI:=H.is
 rw [<- he] at hI
 have hK:IsSp e T.length T (spTo e T (T.length-e)):=by
  have:=spTo_is e T (T.length-e)
  rwa [show e+(T.length-e)=T.length by omega] at this
 have hlo:=H.lo
 refine ⟨spTo e T (T.length-e),spans_of hh ⟨fun x hx=>?_,?_,fun i h1 h2 h3=>?_⟩⟩
 ·rcases List.mem_append.1 hx with hx | hx
  ·have:=hI.ins x hx
   exact ⟨this.1,this.2.1,by omega,this.2.2.2⟩
  ·have:=hK.ins x hx
   exact ⟨this.1,by omega,this.2.2.1,this.2.2.2⟩
 ·refine List.pairwise_append.2 ⟨hI.gap,hK.gap,fun a ha b hb=>?_⟩
  have h1:=H.gap a ha
  have h2:=hK.ins b hb
  omega
 ·by_cases hi:i<e
  ·obtain ⟨x,hx,h4⟩:=hI.all i h1 hi h3
   exact ⟨x,List.mem_append_left _ hx,h4⟩
  ·obtain ⟨x,hx,h4⟩:=hK.all i (by omega) h2 h3
   exact ⟨x,List.mem_append_right _ hx,h4⟩
theorem scan_none {h F:Nat} {T:List Bool} {l:List Sp} (H:Scan h T F l) (hF:F<T.length) (hR:FreeRun T F 0):Scan h T (F+1) l:=by
 have hlo:=H.lo
 have hI:=H.is
 rw [Nat.min_eq_left (by omega)] at hI
 have ht:T.getD F false=true:=by
  rcases hR.stop with h1 | h1
  ·omega
  ·exact h1
 refine ⟨by omega,by omega,?_,fun x hx=>by have:=H.gap x hx;omega,by have:=H.few;omega⟩
 rw [Nat.min_eq_left (by omega)]
 refine ⟨fun x hx=>?_,hI.gap,fun i h1 h2 h3=>?_⟩
 ·have:=hI.ins x hx
  exact ⟨this.1,this.2.1,by omega,this.2.2.2⟩
 ·by_cases hi:i=F
  ·rw [hi,ht] at h3;cases h3
  ·exact hI.all i h1 (by omega) h3
theorem scan_some {h F m:Nat} {T:List Bool} {l:List Sp} (H:Scan h T F l) (hF:F<T.length) (hm:1<=m) (hR:FreeRun T F m):Scan h T (F+m+1) (l++[(F,m)]):=by
 have hlo:=H.lo
 have hI:=H.is
 have hle:=hR.le
 rw [Nat.min_eq_left (by omega)] at hI
 refine ⟨by omega,by omega,?_,fun x hx=>?_,by have:=H.few;rw [List.length_append];simp only [List.length_cons,List.length_nil];omega⟩
 ·have hge:F+m<=min (F+m+1) T.length:=by omega
  have hst:∀ i,F+m<=i->i<min (F+m+1) T.length->T.getD i false=true:=fun i h1 h2=>by
   rcases hR.stop with h3 | h3
   ·omega
   ·rw [show i=F+m by omega];exact h3
  generalize min (F+m+1) T.length=e at hge hst
  refine ⟨fun x hx=>?_,?_,fun i h1 h2 h3=>?_⟩
  ·rcases List.mem_append.1 hx with hx | hx
   ·have:=hI.ins x hx
    exact ⟨this.1,this.2.1,by omega,this.2.2.2⟩
   ·obtain rfl:=List.mem_singleton.1 hx
    exact ⟨hm,hlo,hge,hR.free⟩
  ·refine List.pairwise_append.2 ⟨hI.gap,by simp,fun a ha b hb=>?_⟩
   obtain rfl:=List.mem_singleton.1 hb
   exact H.gap a ha
  ·by_cases hi:i<F
   ·obtain ⟨x,hx,h4⟩:=hI.all i h1 hi h3
    exact ⟨x,List.mem_append_left _ hx,h4⟩
   ·by_cases hi2:i<F+m
    ·exact ⟨(F,m),by simp,by simp only;omega,hi2⟩
    ·rw [hst i (by omega) h2] at h3
     cases h3
 ·rcases List.mem_append.1 hx with hx | hx
  ·have:=H.gap x hx;omega
  ·obtain rfl:=List.mem_singleton.1 hx
   simp only
   omega
/-! ### the spans as they are handed on -/
structure Q where
 f:Nat
 m:Nat
 hf:f<=4096
 hm:m<=4096
abbrev Q.val (q:Q):Value:=.agg #[.int .i64 (q.f:Int),.int .i64 (q.m:Int)]
def qs (l:List Q):List Sp:=l.map fun q=>(q.f,q.m)
theorem qs_snoc (l:List Q) (q:Q):qs (l++[q])=qs l++[(q.f,q.m)]:=by simp [qs]
theorem qs_len (l:List Q):(qs l).length=l.length:=by simp [qs]
def Kq (B g tb:Nat) (W W':World):Prop:=∀ k,(k=B∨k=g∨k=tb)->∀ cs t fr,W.heap[k]?=some (.cells cs t fr)->W'.heap[k]?=some (.cells cs t fr)
theorem Kq.trans {B g tb:Nat} {X Y Z:World} (h:Kq B g tb X Y) (k:Kq B g tb Y Z):Kq B g tb X Z:=fun i hi cs t fr e=>k i hi cs t fr (h i hi cs t fr e)
theorem Kq.refl (B g tb:Nat) (W:World):Kq B g tb W W:=fun _ _ _ _ _ e=>e
theorem Kq.book {B g tb:Nat} (W:World) (l:Nat) (o o':Obj) (h:W.heap[l]?=some o) (ho:o.isCells=false):Kq B g tb W (W.putObj l o'):=fun k _ cs t fr e=>by
 refine ((grownBy_putObj' W l o').block k (Array.getElem?_eq_some_iff.1 e).1 (fun e'=>?_)).trans e
 have e'':k=l:=by simpa using e'
 rw [e'',h] at e
 cases e
 cases ho
theorem Kq.grow {B g tb:Nat} {W W':World} (h:W.grownBy W' none):Kq B g tb W W':=fun k _ cs t fr e=>(h.block k (Array.getElem?_eq_some_iff.1 e).1 (fun e'=>by cases e')).trans e
theorem Kq.set {B g tb b k:Nat} {W:World} {v:Value} (h:b≠B∧b≠g∧b≠tb):Kq B g tb W (W.setCell ⟨b,k,none⟩ v):=fun i hi cs t fr e =>
 (Below.heap_setCell W ⟨b,k,none⟩ v i (fun e'=>by simp only at e';omega)).trans e
theorem Kq.row {B g tb:Nat} {W W':World} {row:Option Nat} (h:W.grownBy W' row) (hr:∀ r,row=some r->r≠B∧r≠g∧r≠tb):Kq B g tb W W':=fun k hk cs t fr e =>
 (h.block k (Array.getElem?_eq_some_iff.1 e).1 (fun e'=>by have:=hr k e'.symm;omega)).trans e
theorem PS.kq {B g tb h:Nat} {T:List Bool} {W W':World} (H:PS W g tb h T) (hk:Kq B g tb W W'):PS W' g tb h T :=
 ⟨hk g (.inr (.inl rfl)) _ _ _ H.head,hk tb (.inr (.inr rfl)) _ _ _ H.row,H.ne,H.le,H.few⟩
set_option maxRecDepth 100000 in
set_option maxHeartbeats 2000000 in
theorem gaps1_c (n:Nat) (hn:1<=n) (l B g tb h:Nat) (T:List Bool) (J Jx:List Q->World->Prop) (W:World)
  (hY:∀ pre x W1,J pre W1->pre.length<4096->YieldAt Fence.wide (n-1) Tryz.prog l #[Q.val x] W1 fun e W' =>
   (e = .returned (.bool true)∧J (pre++[x]) W'∧Kq B g tb W1 W')∨(e = .returned (.bool false)∧Jx (pre++[x]) W'))
  (hB:W.heap[B]?=some (.cells #[.pointer (some ⟨g,0,none⟩)] 138 (0,0))) (hS:PS W g tb h T) (hJ:J [] W) :
  CallsIn Fence.wide n Tryz.prog 126 #[.func (.yield l) #[] #[],.pointer (some ⟨B,0,none⟩)] W fun e W'=>(∃ v,e = .returned v)∧((∃ xs,qs xs=spansS h T∧J xs W')∨∃ pre,qs pre <+: spansS h T∧Jx pre W'):=by
 have Hle:Hid (h<=T.length∧T.length<=4096):=⟨hS.le,hS.few⟩
 obtain ⟨N,hN⟩:∃ N,N=T.length:=⟨_,rfl⟩
 have HN:Hid (N=T.length):=hN
 have hN4:N<=4096:=by have:=hS.few;omega
 have hhN:h<=N:=by have:=hS.le;omega
 have b0:W.cell? ⟨B,0,none⟩=some (.pointer (some ⟨g,0,none⟩)):=(cell_of_row W B 0 _ 138 (0,0) hB).trans rfl
 have c1:=hS.cells.2
 have HB:Hid (W.heap[B]?=some (.cells #[.pointer (some ⟨g,0,none⟩)] 138 (0,0))):=hB
 have HS:Hid (PS W g tb h T):=hS
 clear hN hB hS
 refine callsIn_of_wp Tryz.func126 rfl trivial ?_ rfl
 simp only [Tryz.ntmps126,List.size_toArray,List.length_cons,List.length_nil,Nat.reduceAdd,Nat.reduceSub,Array.replicate_succ,Array.replicate_zero,List.push_toArray,List.append_toArray,List.nil_append,List.cons_append]
 gi_wp2
 gi_loopw [3] (fun y wr=>∃ (F:Nat) (pre:List Q),y = .int .i64 (F:Int)∧F<=N+1∧Hid (Scan h T F (qs pre))∧Hid (PS wr g tb h T)∧Hid (wr.heap[B]?=some (.cells #[.pointer (some ⟨g,0,none⟩)] 138 (0,0)))∧Hid (J pre wr)) (fun y _=>N+1-(intOf y).toNat)
 case atStart=>exact ⟨h,[],rfl,by omega,scan_init Hle.out.1,HS.out,HB.out,hJ⟩
 case round =>
  clear HS HB b0 c1 hJ
  obtain ⟨F,pre,rfl,hF,HC,HS,HB,HJ⟩:=hrel
  have b0:wr.cell? ⟨B,0,none⟩=some (.pointer (some ⟨g,0,none⟩)):=(cell_of_row wr B 0 _ 138 (0,0) HB.out).trans rfl
  have c0:=HS.out.cells.1
  rw [<- HN.out] at c0
  by_cases hlt:F<N
  ·have hlt':(F:Int)<(N:Int):=by omega
   gi_wp2_with (fail)
   refine ⟨trivial,?_⟩
   refine (callsIn_wide.2 (freeFrom_c g tb h F T wr HS.out (by have:=HN.out;omega))).mono ?_
   rintro e w1 ⟨rfl,m,hm,rfl⟩
   have Hm:Hid (FreeRun T F m):=hm
   have hle:F+m<=N:=by have:=HN.out;have:=hm.le;omega
   clear hm
   by_cases hm0:m=0
   ·have HC2:Hid (Scan h T (F+1) (qs pre)):=scan_none HC.out (by have:=HN.out;omega) (by have:=Hm.out;rwa [hm0] at this)
    clear HC Hm
    have hm1:¬ (0:Int)<(m:Int):=by omega
    have Hm0:Hid (m=0):=hm0
    clear hm0
    gi_wp2
    refine ⟨fun f hf=>(by cases hf),?_⟩
    gi_wp2
    exact ⟨⟨F+1,pre,by have:=Hm0.out;subst this;simp,by omega,HC2,HS,HB,HJ⟩,by simp [intOf];omega⟩
   ·have hm1:(0:Int)<(m:Int):=by omega
    have HC2:Hid (Scan h T (F+m+1) (qs (pre++[⟨F,m,by omega,by omega⟩]))):=by
     show Scan _ _ _ _
     rw [qs_snoc]
     exact scan_some HC.out (by have:=HN.out;omega) (by omega) Hm.out
    have hlen:pre.length<4096:=by have h1:=HC.out.few;have h2:=HC.out.lo;rw [qs_len] at h1;omega
    obtain ⟨fn,tmps,assign,body,hy,hR⟩:=hY pre ⟨F,m,by omega,by omega⟩ w1 HJ.out hlen
    dsimp only [Q.val] at hy
    clear HC Hm HJ
    gi_wp2
    refine hR.mono ?_
    clear hy hR b0 c0
    rintro e W3 (⟨rfl,hJ6,hk⟩|⟨rfl,hx⟩)
    ·have HS6:Hid (PS W3 g tb h T):=HS.out.kq hk
     have HB6:Hid (W3.heap[B]?=some (.cells #[.pointer (some ⟨g,0,none⟩)] 138 (0,0))):=hk B (.inl rfl) _ _ _ HB.out
     have HJ6:Hid (J (pre++[⟨F,m,by omega,by omega⟩]) W3):=hJ6
     clear hJ6 hk HS HB
     gi_wp2
     exact ⟨⟨F+m+1,_,by simp,by omega,HC2,HS6,HB6,HJ6⟩,by simp [intOf];omega⟩
    ·have hpf:=scan_prefix Hle.out.1 HC2.out
     have Hx:Hid (Jx (pre++[⟨F,m,by omega,by omega⟩]) W3):=hx
     have Hpf:Hid (qs (pre++[⟨F,m,by omega,by omega⟩]) <+: spansS h T):=hpf
     clear hx hpf HC2 HS HB
     gi_wp2
     refine bodyPost_ret (results_none rfl _ _ _) rfl ⟨⟨_,rfl⟩,.inr ⟨_,Hpf.out,Hx.out⟩⟩
  ·have hge:¬ (F:Int)<(N:Int):=by omega
   have R:=scan_end Hle.out.1 HC.out (by have:=HN.out;omega)
   have HR:Hid (qs pre=spansS h T):=R
   clear R HC
   gi_wp2
   go_end0
   exact ⟨⟨_,rfl⟩,.inl ⟨_,HR.out,HJ.out⟩⟩
end Go.Proofs.YtlllmmceoeihkaaGreat.Q
set_option maxRecDepth 20000
namespace Go.Proofs.YtlllmmceoeihkaaGreat.Q
open Go.RowKit Go.Shelf
attribute [local go_sem] Oper.semAt_some
set_option maxHeartbeats 1000000 in
theorem gaps_c (g:Nat) (w:World):Calls Tryz.prog 94 #[.pointer (some ⟨g,0,none⟩)] w fun e w'=>e = .returned (.func (.func 126) #[] #[.pointer (some ⟨w.heap.size,0,none⟩)])∧w'=w.alloc (.cells #[.pointer (some ⟨g,0,none⟩)] 138):=by
 have hmf:∀ w,Sem.run Tryz.prog (Instr.makeFunc (.func 126) #[] #[.pointer (some ⟨w.heap.size,0,none⟩)]) w = .ok (.func (.func 126) #[] #[.pointer (some ⟨w.heap.size,0,none⟩)]) w:=fun w=>by rfl
 go_enter Tryz.func94,Tryz.ntmps94
 go_wp2
 go_ret
 exact ⟨rfl,rfl⟩
theorem gaps_stops (n:Nat) (hn:1<=n) (B g tb h:Nat) (T:List Bool) (w:World) (hB:w.heap[B]?=some (.cells #[.pointer (some ⟨g,0,none⟩)] 138 (0,0))) (hS:PS w g tb h T) :
  SeqStopsK Fence.wide n Tryz.prog 126 #[.pointer (some ⟨B,0,none⟩)] (fun x:Q => #[Q.val x]) (Kq B g tb) (fun xs=>qs xs=spansS h T) (fun pre=>qs pre <+: spansS h T) 4096 w:=fun l J Jx W hW _ _ hY h0 =>
 gaps1_c n hn l B g tb h T J Jx W hY ((hW.block B (Array.getElem?_eq_some_iff.1 hB).1).trans hB) (hS.on hW) h0
end Go.Proofs.YtlllmmceoeihkaaGreat.Q
set_option maxRecDepth 20000
namespace Go.Proofs.YtlllmmceoeihkaaGreat.Q
open Go.RowKit Go.Shelf
attribute [local go_sem] Oper.semAt_some
theorem cell_two_new (W:World) (T:TypeId) (u v:Value):∀ (j:Nat) (x:Value),[u,v][j]?=some x->(W.alloc (.cells #[u,v] T)).cell? (Addr.add ⟨W.heap.size,0,none⟩ j)=some x:=by
 intro j x h
 have e:=cell_of_row (W.alloc (.cells #[u,v] T)) W.heap.size j _ T (0,0) (heap_alloc_new W _)
 match j with
 | 0=>simpa [Addr.add] using e.trans h
 | 1=>simpa [Addr.add] using e.trans h
 | j+2=>simp at h
theorem row_block {W:World} {lo n k:Nat} {e:TypeId} {v:Value} {xs:List Value} (h:W.ownsRow lo e n v k xs):∀ r,v.ownBlock=some r->lo<=r∧∃ cs,W.heap[r]?=some (.cells cs e (0,0)):=by
 intro r hr
 rcases h.2 with ⟨rfl,_⟩|⟨g',cap,cur,rfl,hlo,hb,_⟩
 ·simp [Value.ownBlock] at hr
 ·obtain rfl:g'=r:=by simpa [Value.ownBlock] using hr
  exact ⟨hlo,_,hb⟩
set_option maxRecDepth 100000 in
set_option maxHeartbeats 2000000 in
theorem spans_c (g tb h:Nat) (T:List Bool) (w:World) (H:PS w g tb h T) :
  Calls Tryz.prog 70 #[.pointer (some ⟨g,0,none⟩)] w fun e w'=>∃ (a:Option Addr) (c:Nat),e = .returned (.slice a (spansS h T).length c)∧Below w.heap.size w w'∧OwnSp w' w.heap.size a c (spansS h T):=by
 have hg:g<w.heap.size:=(Array.getElem?_eq_some_iff.1 H.head).1
 have ht:tb<w.heap.size:=(Array.getElem?_eq_some_iff.1 H.row).1
 obtain ⟨i0,hi,hz0,hz1,hz2⟩:=info_parts info97
 refine (callsIn_wide (n:=6)).1 ?_
 refine callsIn_of_wp_marks Tryz.func70 rfl trivial ?_ rfl
 simp only [Tryz.ntmps70,List.size_toArray,List.length_cons,List.length_nil,Nat.reduceAdd,Nat.reduceSub,Array.replicate_succ,Array.replicate_zero,List.push_toArray,List.append_toArray,List.nil_append,List.cons_append]
 gi_wp2_with (fail)
 have bN:Boxed (w.alloc (.cells #[.slice none 0 0] 95)) w.heap.size 95 (.slice none 0 0):=Boxed.new w 95 _
 have hb1:Below w.heap.size w (w.alloc (.cells #[.slice none 0 0] 95)):=(Below.refl _ _).alloc (Nat.le_refl _) _
 have hS1:=H.on hb1
 have hsz:(w.alloc (.cells #[.slice none 0 0] 95)).heap.size=w.heap.size+1:=by simp
 generalize w.alloc (.cells #[.slice none 0 0] 95)=w1 at *
 refine ⟨trivial,?_⟩
 refine (callsIn_wide.2 (gaps_c g w1)).mono ?_
 rintro e w2 ⟨rfl,rfl⟩
 have hB2:(w1.alloc (.cells #[.pointer (some ⟨g,0,none⟩)] 138)).heap[w.heap.size+1]?=some (.cells #[.pointer (some ⟨g,0,none⟩)] 138 (0,0)):=by rw [<- hsz];exact heap_alloc_new w1 _
 have hS2:=hS1.on ((Below.refl _ w1).alloc (Nat.le_refl _) (.cells #[.pointer (some ⟨g,0,none⟩)] 138))
 have bN2:=bN.alloc (.cells #[.pointer (some ⟨g,0,none⟩)] 138)
 have hb2:Below w.heap.size w (w1.alloc (.cells #[.pointer (some ⟨g,0,none⟩)] 138)):=hb1.alloc (by omega) _
 have hsz2:(w1.alloc (.cells #[.pointer (some ⟨g,0,none⟩)] 138)).heap.size=w.heap.size+2:=by simp [hsz]
 rw [hsz]
 generalize w1.alloc (.cells #[.pointer (some ⟨g,0,none⟩)] 138)=W0 at *
 clear bN hb1 hS1 H
 gi_wp2_with (fail)
 have hst:=gaps_stops 5 (by omega) (w.heap.size+1) g tb h T W0 hB2 hS2
 refine wpIn_rangeFunc_ownH rfl (by decide) (gf:=126) (lb := #[.pointer (some ⟨w.heap.size+1,0,none⟩)]) rfl trivial (enters_of Tryz.func126 (by kernel_rfl) rfl)
  hst (fun h k=>Kq.trans h k) (fun W l o o' _ h ho _=>Kq.book W l o o' h ho) (Below.refl _ _) (fun _=>rfl)
  (fun pre W=>(∃ v,Boxed W w.heap.size 95 v∧W.ownsRow w.heap.size 97 2 v pre.length (spCells (qs pre))∧True)∧Boxed W (w.heap.size+1) 138 (.pointer (some ⟨g,0,none⟩))∧Below w.heap.size w W)
  (fun _ _ _=>False)
  (OwnFrom.and (Own.from (holdsRow_own w.heap.size w.heap.size 95 97 2 (fun pre:List Q=>pre.length) (fun pre=>spCells (qs pre)) (fun _ _=>True)) _) (OwnFrom.and (Own.from (boxed_own (w.heap.size+1) 138 (fun _:List Q=>.pointer (some ⟨g,0,none⟩))) _) (ownFrom_below (Nat.le_refl _) (by omega))))
  (fun _ _ _ _ _ hs _ _=>hs)
  ⟨⟨_,bN2,World.ownsRow_nil _ _ _ _,trivial⟩,hB2,hb2⟩
  (fun x a' W=>∃ Bx,W.heap[Bx]?=some (.cells #[.int .i64 (x.f:Int),.int .i64 (x.m:Int)] 97 (0,0))∧a'={ tmps := #[Value.pointer (some { block:=g,off:=0 }),undef,Value.slice none 0 0,Value.pointer (some { block:=w.heap.size,off:=0 }),.pointer (some ⟨Bx,0,none⟩),Value.pointer (some { block:=g,off:=0 }),Value.func (Fn.func 126) #[] #[Value.pointer (some { block:=w.heap.size+1,off:=0 })],.agg #[.int .i64 (x.f:Int),.int .i64 (x.m:Int)],undef,undef,undef,undef,undef],defers:=[] })
  (fun x a' _ X Y row hs hg hr=>by
   obtain ⟨Bx,h1,h2⟩:=hs
   refine ⟨Bx,(hg.block Bx (Array.getElem?_eq_some_iff.1 h1).1 (fun e=>?_)).trans h1,h2⟩
   obtain ⟨_,o,ho,hc⟩:=hr Bx e.symm
   rw [h1] at ho
   cases ho
   cases hc)
  ?assign ?body ?done ?stop
 case assign =>
  rintro l pre x W K ⟨⟨v,hv,hrow,_⟩,hb,hB⟩ hK
  gi_wp2
  exact hK _ _ ((KeepsOthers.alloc _ _).from _) (Kq.grow (World.grownBy_alloc W _ none)) ⟨⟨v,hv.alloc _,hrow.alloc _,trivial⟩,hb.alloc _,hB.alloc hB.size _⟩ ⟨W.heap.size,heap_alloc_new W _,rfl⟩
 case body =>
  rintro l pre x a' W _ _ ⟨⟨v,hv,hrow,_⟩,hb,hB⟩ ⟨Bx,hP,rfl⟩ hlt
  have hc:=hv.cell
  have x0:W.cell? ⟨Bx,0,none⟩=some (.int .i64 (x.f:Int)):=(cell_of_row W _ 0 _ 97 (0,0) hP).trans rfl
  have x1:W.cell? ⟨Bx,1,none⟩=some (.int .i64 (x.m:Int)):=(cell_of_row W _ 1 _ 97 (0,0) hP).trans rfl
  gi_wp2_with (gi_at_builtin;refine wpListIn_append_own _ rfl _ _ 95 rfl w.heap.size 97 i0 (.agg #[.int .i64 0,.int .i64 0]) 2 16 Tryz.underlying95 hi hz0 hz1 hz2 rfl (by decide) _ _ _ rfl (hrow.alloc _) ⟨W.heap.size,0,none⟩ 1 1 [.int .i64 (x.f:Int),.int .i64 (x.m:Int)] rfl rfl (cell_two_new _ _ _ _) (by simp [Value.oneCell']) (by simp [maxLen];omega) (by omega) (by have:=hB.size;simp;omega) ?_;intro v' w3 hown' hgrow _;obtain ⟨g',cap',rfl⟩:=ownsRow_succ hown';obtain ⟨hv1,hv2,hr2,hk2,hb2'⟩:=hv.appended (by decide) hrow hB.size (by omega) hown' hgrow;have hc1:=hv1.cell;have hf1:=hv1.frozen)
  refine ⟨hk2.from _,((Kq.grow (World.grownBy_alloc W _ none)).trans (Kq.row hgrow (fun r hr=>?_))).trans (Kq.set (by omega)),⟨_,hv2,?_,trivial⟩,?_,hB.trans hb2'⟩
  ·obtain ⟨h1,cs,h2⟩:=row_block (hrow.alloc (.cells #[.int .i64 (x.f:Int),.int .i64 (x.m:Int)] 97)) r hr
   refine ⟨fun e=>?_,by omega,by omega⟩
   rw [e,show (W.alloc _).heap[w.heap.size+1]?=_ from hb.alloc _] at h2
   cases h2
  ·rw [qs_snoc,spCells_snoc,List.length_append]
   exact hr2
  ·exact ((hb.alloc _).kept hgrow (Boxed.not_row hb (by decide) hrow)).other (by omega) _
 case done =>
  rintro D ys W hD hq ⟨⟨v,hv,hrow,_⟩,hb,hB⟩ hK
  have hc:=hv.cell
  gi_wp2
  refine ⟨by simp,.inl ⟨_,_,rfl,run_takeDeferred hK,?_⟩⟩
  have hlen:ys.length=(spansS h T).length:=by rw [<- hq,qs_len]
  rw [hq,hlen] at hrow
  have hR:=ownsRow_putObj hrow (.deferred none) hK rfl
  have hBF:=hB.trans (belowK_b (w:=w) (Nat.le_refl _) W D _ (.deferred none) (by omega) hK rfl rfl)
  refine ⟨_,results_tmp rfl _ _ _,?_⟩
  rcases hR.2 with ⟨rfl,h0⟩|⟨g',cap,cur,rfl,_⟩
  ·refine ⟨none,0,?_,hBF,?_⟩
   ·rw [h0];rfl
   ·unfold OwnSp;rw [h0];rw [h0] at hR;exact hR
  ·exact ⟨_,cap,rfl,hBF,hR⟩
 case stop =>
  rintro D c pre W _ _ h _
  exact h.elim
end Go.Proofs.YtlllmmceoeihkaaGreat.Q
