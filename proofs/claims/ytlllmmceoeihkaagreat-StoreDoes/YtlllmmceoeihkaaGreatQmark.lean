/-
  The program's space: how many are free from a number on, may, turn, Mark, Free, New.
  The program's space: turn, Mark, Free, New.
-/
import Derived.Test.YtlllmmceoeihkaaGreatQidx
import Derived.Deep.Slices
set_option maxRecDepth 20000
namespace Go.Proofs.YtlllmmceoeihkaaGreat.Q
open Go.RowKit
theorem size4 (w:World):(sizeOf 4).run Tryz.prog w = .ok 1 w:=by kernel_rfl
theorem cut_from (tb n f:Nat) (hf:f<n) (w:World):(Instr.sliceAt 203 (.slice (some ⟨tb,0,none⟩) n n) (some (.int .i64 (f:Int))) none none).run Tryz.prog w = .ok (.slice (some ⟨tb,f,none⟩) (n-f) (n-f)) w:=by
 rw [run_sliceAt_slice w 203 _ _ _ _ (by kernel_rfl),run_slice_l w 203 (some ⟨tb,0,none⟩) n n (by kernel_rfl) .i64 f (by omega) (by omega),show Tryz.prog.elem 203=4 by kernel_rfl,size4,Result.andThen_ok,Int.toNat_natCast]
 unfold sliced
 rw [if_neg (by omega),Nat.mul_one]
 show Result.ok (Value.slice (some ((⟨tb,0,none⟩:Addr).add f)) _ _) w=_
 rw [Addr.add_mid,Nat.zero_add]
theorem cut_both (tb n f m:Nat) (hm:1<=m) (hf:f+m<=n) (w:World):(Instr.sliceAt 203 (.slice (some ⟨tb,0,none⟩) n n) (some (.int .i64 (f:Int))) (some (.int .i64 ((f:Int)+(m:Int)))) none).run Tryz.prog w = .ok (.slice (some ⟨tb,f,none⟩) m (n-f)) w:=by
 rw [run_sliceAt_slice w 203 _ _ _ _ (by kernel_rfl),run_slice_lh w 203 (some ⟨tb,0,none⟩) n n (by kernel_rfl) .i64 .i64 f (f+m) (by omega) (by omega) (by omega),show Tryz.prog.elem 203=4 by kernel_rfl,size4,Result.andThen_ok]
 unfold sliced
 rw [if_neg (by omega),show ((f:Int)+(m:Int)).toNat-(f:Int).toNat=m by omega,Int.toNat_natCast,Nat.mul_one]
 show Result.ok (Value.slice (some ((⟨tb,0,none⟩:Addr).add f)) m (n-f)) w=_
 rw [Addr.add_mid,Nat.zero_add]
structure FreeRun (T:List Bool) (f m:Nat):Prop where
 le:f+m<=T.length
 free:∀ i,f<=i->i<f+m->T.getD i false=false
 stop:f+m=T.length∨T.getD (f+m) false=true
set_option maxHeartbeats 1000000 in
theorem freeFrom_c (g tb h f:Nat) (T:List Bool) (w:World) (H:PS w g tb h T) (hf:f<T.length) :
  Calls Tryz.prog 127 #[.pointer (some ⟨g,0,none⟩),.int .i64 (f:Int)] w fun e w'=>w'=w∧∃ m,FreeRun T f m∧e = .returned (.int .i64 (m:Int)):=by
 obtain ⟨Post,hPost⟩:∃ Post:Ending->World->Prop,Post=fun e w'=>w'=w∧∃ m,FreeRun T f m∧e = .returned (.int .i64 (m:Int)):=⟨_,rfl⟩
 rw [<- hPost]
 have HP:Hid (∀ m,FreeRun T f m->Post (.returned (.int .i64 (m:Int))) w):=fun m hm=>by rw [hPost];exact ⟨rfl,m,hm,rfl⟩
 clear hPost
 have c0:=H.cells.1
 have hcut:=cut_from tb T.length f hf
 have hrow:=H.row
 have hfew:=H.few
 obtain ⟨n,hn⟩:∃ n,n=T.length:=⟨_,rfl⟩
 rw [<- hn] at c0 hcut
 have Hn:Hid (n=T.length):=hn
 have Hrow:Hid (w.heap[tb]?=some (.cells (bvals T) 4 (0,0))):=hrow
 have hfn:f<n:=by omega
 have hn4:n<=4096:=by omega
 clear hn hrow H hfew hf
 go_enter Tryz.func127,Tryz.ntmps127
 go_wp2_with fail
 refine (index_c tb f (n-f) (n-f) T true w Hrow.out (by have:=Hn.out;omega) (by have:=Hn.out;omega)).mono ?_
 rintro e w' ⟨rfl,j,hj,hA,⟨rfl,rfl⟩|⟨hlt,hT,rfl⟩⟩
 ·have R:=HP.out (n-f) ⟨by have:=Hn.out;omega,fun i h1 h2=>by have:=hA (i-f) (by omega);rw [show f+(i-f)=i by omega] at this;simpa using this,.inl (by have:=Hn.out;omega)⟩
  clear HP hA
  go_wp2
  exact R
 ·have R:=HP.out j ⟨by have:=Hn.out;omega,fun i h1 h2=>by have:=hA (i-f) (by omega);rw [show f+(i-f)=i by omega] at this;simpa using this,.inr hT⟩
  clear HP hA hT
  have hj0:(0:Int)<=(j:Int):=by omega
  go_wp2
  exact R
set_option maxHeartbeats 1000000 in
theorem contains_c (tb o n c:Nat) (T:List Bool) (v:Bool) (w:World) (hrow:w.heap[tb]?=some (.cells (bvals T) 4 (0,0))) (hle:o+n<=T.length) (hfew:T.length<=4096) :
  Calls Tryz.prog 140 #[.slice (some ⟨tb,o,none⟩) n c,.bool v] w fun e w'=>w'=w∧e = .returned (.bool (!allS T o n (!v))):=by
 obtain ⟨Post,hPost⟩:∃ Post:Ending->World->Prop,Post=fun e w'=>w'=w∧e = .returned (.bool (!allS T o n (!v))):=⟨_,rfl⟩
 rw [<- hPost]
 have HP:Hid (∀ b,allS T o n (!v) = !b->Post (.returned (.bool b)) w):=fun b hb=>by rw [hPost];exact ⟨rfl,by rw [hb];simp⟩
 clear hPost
 go_enter Tryz.func140,Tryz.ntmps140
 go_wp2_with fail
 refine (index_c tb o n c T v w hrow hle hfew).mono ?_
 rintro e w' ⟨rfl,j,hj,hA,⟨rfl,rfl⟩|⟨hlt,hT,rfl⟩⟩
 ·have R:=HP.out false (by
   refine (allS_iff hle _).2 (fun i h1 h2=>get_of (by omega) ?_)
   have:=hA (i-o) (by omega)
   rw [show o+(i-o)=i by omega] at this
   cases v <;> simpa using this)
  clear HP hA
  go_wp2
  exact R
 ·have R:=HP.out true (by
   cases hx:allS T o n (!v) with
   | false=>rfl
   | true =>
     have:=getD_of ((allS_iff hle _).1 hx (o+j) (by omega) (by omega))
     rw [hT] at this
     cases v <;> simp at this)
  clear HP hA hT
  have hj0:(0:Int)<=(j:Int):=by omega
  go_wp2
  exact R
def fitB (h n:Nat) (f m:Int):Bool:=decide (1<=m∧(h:Int)<=f∧m<=(n:Int)-f)
theorem mayB_fit (h:Nat) (T:List Bool) (f m:Int) (b:Bool):mayB h T f m b=(fitB h T.length f m && allS T f.toNat m.toNat b):=by
 unfold mayB fitB
 congr 1
 rw [decide_eq_decide]
 omega
theorem wrap_len {n:Nat} {f:Int} (hn:n<=4096) (h0:0<=f) (hf:f<=9223372036854775807) : -9223372036854775808<=(n:Int)-f∧(n:Int)-f<=9223372036854775807:=by omega
set_option maxHeartbeats 1000000 in
theorem may_c (g tb h:Nat) (T:List Bool) (f m:Int) (hf:I64 f) (hm:I64 m) (w:World) (H:PS w g tb h T) :
  Calls Tryz.prog 139 #[.pointer (some ⟨g,0,none⟩),.agg #[.int .i64 f,.int .i64 m]] w fun e w'=>e = .returned (.bool (fitB h T.length f m))∧Below w.heap.size w w':=by
 obtain ⟨Post,hPost⟩:∃ Post:Ending->World->Prop,Post=fun e w'=>e = .returned (.bool (fitB h T.length f m))∧Below w.heap.size w w':=⟨_,rfl⟩
 rw [<- hPost]
 have HP:Hid (∀ r w',fitB h T.length f m=r->Below w.heap.size w w'->Post (.returned (.bool r)) w'):=fun r w' h1 h2=>by rw [hPost,h1];exact ⟨rfl,h2⟩
 clear hPost
 have hb1:Below w.heap.size w (w.alloc (.cells #[.int .i64 f,.int .i64 m] 97)):=(Below.refl _ _).alloc (Nat.le_refl _) _
 have Hb1:Hid (Below w.heap.size w (w.alloc (.cells #[.int .i64 f,.int .i64 m] 97))):=hb1
 obtain ⟨c0,c1⟩:=(H.on hb1).cells
 have x0:(w.alloc (.cells #[.int .i64 f,.int .i64 m] 97)).cell? ⟨w.heap.size,0,none⟩=some (.int .i64 f):=by rw [cell_of_row _ _ _ _ 97 (0,0) (heap_alloc_new w _)];rfl
 have x1:(w.alloc (.cells #[.int .i64 f,.int .i64 m] 97)).cell? ⟨w.heap.size,1,none⟩=some (.int .i64 m):=by rw [cell_of_row _ _ _ _ 97 (0,0) (heap_alloc_new w _)];rfl
 have hfew:=H.few
 obtain ⟨hf1,hf2⟩:=hf
 obtain ⟨hm1,hm2⟩:=hm
 obtain ⟨n,hn⟩:∃ n,n=T.length:=⟨_,rfl⟩
 rw [<- hn] at hfew c0
 have Hn:Hid (T.length=n):=hn.symm
 clear H hb1 hn
 go_enter Tryz.func139,Tryz.ntmps139
 go_wp2_with fail
 generalize w.alloc (.cells #[.int .i64 f,.int .i64 m] 97)=w1 at *
 have HB:Hid (∀ k,Below w.heap.size w (w1.drewN k)):=fun k=>⟨Hb1.out.os,Hb1.out.tape,Hb1.out.output,Hb1.out.size,Hb1.out.block⟩
 by_cases h1:1<=m
 ·have d1:decide (1<=m)=true:=decide_eq_true h1
  by_cases h2:(h:Int)<=f
  ·have d2:decide ((h:Int)<=f)=true:=decide_eq_true h2
   have hw:=wrap_len hfew (by omega) hf2
   obtain ⟨hw1,hw2⟩:=hw
   by_cases h3:m<=(n:Int)-f
   ·have R:=fun k=>HP.out true (w1.drewN k) (by unfold fitB;rw [Hn.out];exact decide_eq_true ⟨h1,h2,h3⟩) (HB.out k)
    have d3:decide (m<=(n:Int)-f)=true:=decide_eq_true h3
    clear HP HB Hb1
    go_big_quiet (fail)
    go_wp2
    exact R _
   ·have R:=fun k=>HP.out false (w1.drewN k) (by unfold fitB;rw [Hn.out];exact decide_eq_false (by omega)) (HB.out k)
    have d3:decide (m<=(n:Int)-f)=false:=decide_eq_false h3
    clear HP HB Hb1
    go_big_quiet (fail)
    go_wp2
    exact R _
  ·have R:=fun k=>HP.out false (w1.drewN k) (by unfold fitB;rw [Hn.out];exact decide_eq_false (by omega)) (HB.out k)
   have d2:decide ((h:Int)<=f)=false:=decide_eq_false h2
   clear HP HB Hb1
   go_big_quiet (fail)
   go_wp2
   exact R _
 ·have R:=fun k=>HP.out false (w1.drewN k) (by unfold fitB;rw [Hn.out];exact decide_eq_false (by omega)) (HB.out k)
  have d1:decide (1<=m)=false:=decide_eq_false h1
  clear HP HB Hb1
  go_big_quiet (fail)
  go_wp2
  exact R _
end Go.Proofs.YtlllmmceoeihkaaGreat.Q
set_option maxRecDepth 20000
namespace Go.Proofs.YtlllmmceoeihkaaGreat.Q
open Go.RowKit
def TurnSay (g tb h:Nat) (T:List Bool) (f m:Int) (c:Bool) (w:World) (e:Ending) (w':World):Prop:=e = .returned (.int .i64 (erS h T f m (!c)))∧PS w' g tb h (doS h T f m (!c) c)∧Chg (fun k=>k=tb) w w'
set_option maxHeartbeats 1000000 in
theorem turn_c (g tb h:Nat) (T:List Bool) (f m:Int) (hf:I64 f) (hm:I64 m) (c:Bool) (w:World) (H:PS w g tb h T) :
  Calls Tryz.prog 125 #[.pointer (some ⟨g,0,none⟩),.agg #[.int .i64 f,.int .i64 m],.bool c] w (TurnSay g tb h T f m c w):=by
 obtain ⟨Post,hPost⟩:∃ Post,Post=TurnSay g tb h T f m c w:=⟨_,rfl⟩
 rw [<- hPost]
 have HP:Hid (∀ e w',TurnSay g tb h T f m c w e w'->Post e w'):=fun e w' h=>by rw [hPost];exact h
 clear hPost
 have hb1:Below w.heap.size w (w.alloc (.cells #[.int .i64 f,.int .i64 m] 97)):=(Below.refl _ _).alloc (Nat.le_refl _) _
 have Hb1:Hid (Below w.heap.size w (w.alloc (.cells #[.int .i64 f,.int .i64 m] 97))):=hb1
 have HR1:Hid (PS (w.alloc (.cells #[.int .i64 f,.int .i64 m] 97)) g tb h T):=H.on hb1
 have HX:Hid ((w.alloc (.cells #[.int .i64 f,.int .i64 m] 97)).heap[w.heap.size]?=some (.cells #[.int .i64 f,.int .i64 m] 97 (0,0))):=heap_alloc_new w _
 have Htb:Hid (tb<w.heap.size∧g<w.heap.size):=⟨(Array.getElem?_eq_some_iff.1 H.row).1,(Array.getElem?_eq_some_iff.1 H.head).1⟩
 have Hle:Hid (h<=T.length∧T.length<=4096):=⟨H.le,H.few⟩
 clear H hb1
 go_enter Tryz.func125,Tryz.ntmps125
 go_wp2_with fail
 generalize w.alloc (.cells #[.int .i64 f,.int .i64 m] 97)=w1 at *
 refine (may_c g tb h T f m hf hm w1 HR1.out).mono ?_
 rintro _ w2 ⟨rfl,hb2⟩
 have HR2:Hid (PS w2 g tb h T):=HR1.out.on hb2
 have Hb2:Hid (Below w.heap.size w w2):=Hb1.out.trans (hb2.mono Hb1.out.size)
 have HX2:Hid (w2.heap[w.heap.size]?=some (.cells #[.int .i64 f,.int .i64 m] 97 (0,0))):=(hb2.block w.heap.size (Array.getElem?_eq_some_iff.1 HX.out).1).trans HX.out
 clear hb2 HR1 Hb1 HX
 cases hfit:fitB h T.length f m with
 | false =>
   have hmay:mayB h T f m (!c)=false:=by rw [mayB_fit,hfit];rfl
   have R:=HP.out (.returned (.int .i64 1)) w2 ⟨by unfold erS;rw [hmay];rfl,by unfold doS;rw [hmay];exact HR2.out,Chg.of_below Hb2.out⟩
   clear HP HR2 Hb2 HX2 hmay
   go_wp2
   exact R
 | true =>
   have hx:=hfit
   unfold fitB at hx
   rw [decide_eq_true_iff] at hx
   obtain ⟨hx1,hx2,hx3⟩:=hx
   have hfew:=Hle.out.2
   obtain ⟨f,rfl⟩:=Int.eq_ofNat_of_zero_le (show 0<=f by omega)
   obtain ⟨m,rfl⟩:=Int.eq_ofNat_of_zero_le (show 0<=m by omega)
   have hfm:f+m<=T.length:=by omega
   have hm1:1<=m:=by omega
   have Hmay:Hid (mayB h T (f:Int) (m:Int) (!c)=allS T f m (!c)):=by show _=_;rw [mayB_fit,hfit,Bool.true_and];rfl
   clear hfit hx1 hx2 hx3 hf hm
   have x0:w2.cell? ⟨w.heap.size,0,none⟩=some (.int .i64 (f:Int)):=by rw [cell_of_row _ _ _ _ 97 (0,0) HX2.out];rfl
   have x1:w2.cell? ⟨w.heap.size,1,none⟩=some (.int .i64 (m:Int)):=by rw [cell_of_row _ _ _ _ 97 (0,0) HX2.out];rfl
   have c0:=HR2.out.cells.1
   have hcut:=cut_both tb T.length f m hm1 hfm
   obtain ⟨n,hn⟩:∃ n,n=T.length:=⟨_,rfl⟩
   rw [<- hn] at c0 hcut
   have Hn:Hid (n=T.length):=hn
   have hfm':f+m<=n:=by omega
   have hn4:n<=4096:=by omega
   have HB:Hid (∀ k,Below w.heap.size w (w2.drewN k)):=fun k=>⟨Hb2.out.os,Hb2.out.tape,Hb2.out.output,Hb2.out.size,Hb2.out.block⟩
   have HR3:Hid (∀ k,PS (w2.drewN k) g tb h T):=fun k=>⟨HR2.out.head,HR2.out.row,HR2.out.ne,HR2.out.le,HR2.out.few⟩
   clear hn hfm hfew HR2 Hb2 HX2
   go_wp2_with fail
   go_big_quiet (fail)
   have HB':Hid (Below w.heap.size w (w2.drewN nq)):=HB.out nq
   have HR':Hid (PS (w2.drewN nq) g tb h T):=HR3.out nq
   clear HB HR3 c0 x0 x1 hcut
   generalize w2.drewN nq=w3 at *
   go_wp2_with fail
   refine (contains_c tb f m (n-f) T c w3 HR'.out.row (by have:=Hn.out;omega) HR'.out.few).mono ?_
   rintro _ w4 ⟨rfl,rfl⟩
   cases hall:allS T f m (!c) with
   | false =>
     have hmay:mayB h T (f:Int) (m:Int) (!c)=false:=by rw [Hmay.out,hall]
     have R:=HP.out (.returned (.int .i64 1)) w4 ⟨by unfold erS;rw [hmay];rfl,by unfold doS;rw [hmay];exact HR'.out,Chg.of_below HB'.out⟩
     clear HP HR' HB' hmay hall Hmay
     go_wp2
     exact R
   | true =>
     have hmay:mayB h T (f:Int) (m:Int) (!c)=true:=by rw [Hmay.out,hall]
     have Hr:Hid (∀ w',PS w' g tb h (setS T f m c)->Chg (fun k=>k=tb) w w'->Post (.returned (.int .i64 0)) w'):=fun w' h1 h2=>HP.out _ w' ⟨by unfold erS;rw [hmay];rfl,by unfold doS;rw [hmay];exact h1,h2⟩
     clear hmay hall Hmay HP
     go_wp2_with fail
     go_loopw [30] (fun v wr=>∃ (j:Nat),j<=m∧v = .int .i64 (j:Int)∧Hid (PS wr g tb h (setS T f j c))∧Hid (Chg (fun k=>k=tb) w wr)) (fun v _=>m-(intOf v).toNat)
     case atStart=>exact ⟨0,Nat.zero_le _,by go_num,by rw [setS_zero];exact HR'.out,Chg.of_below HB'.out⟩
     case round =>
      clear HR' HB'
      obtain ⟨j,hj,rfl,HR,HC⟩:=hrel
      by_cases hlt:j<m
      ·have hlt':(j:Int)<(m:Int):=by omega
       have hlen:(setS T f j c).length=T.length:=setS_len (by have:=Hn.out;omega) _
       have hat:=row_at HR.out.row (i:=f+j) (by rw [hlen];have:=Hn.out;omega)
       have hfr:wr.frozen? ⟨tb,f+j,none⟩=false:=frozen_of_row wr _ _ _ 4 HR.out.row
       have HR':Hid (PS (wr.setCell ⟨tb,f+j,none⟩ (.bool c)) g tb h (setS T f (j+1) c)):=by
        have:=HR.out.set (f+j) c
        rw [setS_next (by have:=Hn.out;omega)] at this
        exact this
       have HC':Hid (Chg (fun k=>k=tb) w (wr.setCell ⟨tb,f+j,none⟩ (.bool c))):=by
        have hO:Only tb wr (wr.setCell ⟨tb,f+j,none⟩ (.bool c)):=(Only.refl _ _).set _ _
        exact ⟨hO.os.trans HC.out.os,hO.tape.trans HC.out.tape,hO.output.trans HC.out.output,by rw [hO.size];exact HC.out.size,fun k hk hf=>(hO.block k hf).trans (HC.out.block k hk hf)⟩
       clear Hr HR HC hlen
       generalize (setS T f j c).getD (f+j) false=t at *
       go_wp2
       go_roundw
       case rel=>exact ⟨j+1,by omega,by go_num,HR',HC'⟩
       case measure=>simp [intOf];omega
      ·obtain rfl:j=m:=by omega
       have hge:¬ (j:Int)<(j:Int):=by omega
       have R:=Hr.out wr HR.out HC.out
       clear Hr HR HC
       go_wp2
       exact R
set_option maxHeartbeats 1000000 in
theorem mark_c (g tb h:Nat) (T:List Bool) (f m:Int) (hf:I64 f) (hm:I64 m) (w:World) (H:PS w g tb h T) :
  Calls Tryz.prog 93 #[.pointer (some ⟨g,0,none⟩),.agg #[.int .i64 f,.int .i64 m]] w fun e w'=>e = .returned (.int .i64 (erS h T f m false))∧PS w' g tb h (doS h T f m false true)∧Chg (fun k=>k=tb) w w':=by
 obtain ⟨Post,hPost⟩:∃ Post:Ending->World->Prop,Post=fun e w'=>e = .returned (.int .i64 (erS h T f m false))∧PS w' g tb h (doS h T f m false true)∧Chg (fun k=>k=tb) w w':=⟨_,rfl⟩
 rw [<- hPost]
 have HP:Hid (∀ e w',e = .returned (.int .i64 (erS h T f m false))->PS w' g tb h (doS h T f m false true)->Chg (fun k=>k=tb) w w'->Post e w'):=fun e w' h1 h2 h3=>by rw [hPost];exact ⟨h1,h2,h3⟩
 clear hPost
 have hb1:Below w.heap.size w (w.alloc (.cells #[.int .i64 f,.int .i64 m] 97)):=(Below.refl _ _).alloc (Nat.le_refl _) _
 have Hb1:Hid (Below w.heap.size w (w.alloc (.cells #[.int .i64 f,.int .i64 m] 97))):=hb1
 have HR1:Hid (PS (w.alloc (.cells #[.int .i64 f,.int .i64 m] 97)) g tb h T):=H.on hb1
 clear H hb1
 go_enter Tryz.func93,Tryz.ntmps93
 go_wp2_with fail
 generalize w.alloc (.cells #[.int .i64 f,.int .i64 m] 97)=w1 at *
 refine (turn_c g tb h T f m hf hm true w1 HR1.out).mono ?_
 rintro e w2 ⟨he,hS,hC⟩
 have R:=HP.out e w2 he hS ((Chg.of_below Hb1.out).trans hC (fun j hj=>.inl hj))
 subst he
 clear hS hC HR1 Hb1 HP
 generalize erS h T f m (!true)=x at *
 go_wp2
 exact R
def NewSay (n h:Int) (w:World) (e:Ending) (w':World):Prop:=Below w.heap.size w w'∧(badNew n h∧e = .returned (.tuple #[.pointer none,.int .i64 1])∨¬ badNew n h∧∃ g tb,w.heap.size<=g∧w.heap.size<=tb∧e = .returned (.tuple #[.pointer (some ⟨g,0,none⟩),.int .i64 0])∧PS w' g tb h.toNat (List.replicate n.toNat false))
set_option maxHeartbeats 1000000 in
theorem new_c (n h:Int) (hn:I64 n) (hh:I64 h) (w:World):Calls Tryz.prog 92 #[.int .i64 n,.int .i64 h] w (NewSay n h w):=by
 obtain ⟨Post,hPost⟩:∃ Post,Post=NewSay n h w:=⟨_,rfl⟩
 rw [<- hPost]
 have HP:Hid (∀ e w',NewSay n h w e w'->Post e w'):=fun e w' h=>by rw [hPost];exact h
 clear hPost
 by_cases hbad:h<0∨n<h∨4096<n
 ·have R:=HP.out _ w ⟨Below.refl _ _,Or.inl ⟨hbad,rfl⟩⟩
  clear HP
  have d1:(decide (h<0) || decide (n<h) || decide (4096<n))=true:=by
   simp only [Bool.or_eq_true,decide_eq_true_iff]
   omega
  by_cases h1:h<0
  ·go_enter Tryz.func92,Tryz.ntmps92
   go_wp2
   exact R
  ·by_cases h2:n<h
   ·go_enter Tryz.func92,Tryz.ntmps92
    go_wp2
    exact R
   ·have h3:4096<n:=by omega
    go_enter Tryz.func92,Tryz.ntmps92
    go_wp2
    exact R
 ·have h1:¬ h<0:=by omega
  have h2:¬ n<h:=by omega
  have h3:¬ 4096<n:=by omega
  obtain ⟨i4,hi4,hz0,hz1,hz2⟩:=info_parts info4
  obtain ⟨N,rfl⟩:=Int.eq_ofNat_of_zero_le (show 0<=n by omega)
  obtain ⟨Hd,rfl⟩:=Int.eq_ofNat_of_zero_le (show 0<=h by omega)
  have Hbad:Hid (¬ ((Hd:Int)<0∨(N:Int)<Hd∨4096<(N:Int))):=hbad
  clear hbad
  go_enter Tryz.func92,Tryz.ntmps92
  go_wp2_with (at_make;refine wpList_make_full _ rfl _ _ 203 rfl w.heap.size 4 i4 _ 1 Tryz.underlying203 hi4 hz0 hz1 .i64 .i64 (N:Int) (N:Int) N rfl rfl rfl rfl (by rw [hz2];omega) (by unfold maxLen;omega) (Nat.le_refl _) ?_;intro w1 hrow1 hg1)
  have hrow:=own_full hrow1
  have hb1:Below w.heap.size w w1:=(Below.refl _ _).grown hg1 (Nat.le_refl _) (by simp)
  have hlt1:w.heap.size<w1.heap.size:=(Array.getElem?_eq_some_iff.1 hrow).1
  refine HP.out _ _ ⟨hb1.alloc hb1.size _,Or.inr ⟨Hbad.out,w1.heap.size,w.heap.size,hb1.size,Nat.le_refl _,rfl,?_⟩⟩
  refine ⟨?_,?_,by omega,by rw [List.length_replicate];omega,by rw [List.length_replicate];omega⟩
  ·rw [List.length_replicate]
   exact heap_alloc_new w1 _
  ·rw [heap_alloc_old _ _ hlt1,hrow]
   congr 2
   simp [bvals,madeCells,Value.cells,Nat.mod_one]
   rw [List.map_const',List.length_range,List.toArray_replicate]
end Go.Proofs.YtlllmmceoeihkaaGreat.Q
