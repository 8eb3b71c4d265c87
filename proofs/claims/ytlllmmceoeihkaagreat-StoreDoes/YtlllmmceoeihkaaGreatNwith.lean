/-
  The program's region in memory: a struct with an array of slots.
  The program's region: Div, Need, known, file.
  The program's region: sector, entry; bytes.Clone.
  The program's region: Live, Get.
  The program's region: header, bytesAt and the closure that it hands back.
  The program's region: bytesAt, and what it hands back.
  The program's region: blocks.
  The program's region: apart.
  The program's region: fits.
  The program's region: with.
-/
import Derived.Test.YtlllmmceoeihkaaGreatJSrcs
import Derived.StillTailTactics
set_option maxRecDepth 20000
namespace Go.Proofs.YtlllmmceoeihkaaGreat
section
open Go.RowKit
structure Sm where
 f:Nat
 m:Nat
 a:Option Addr
 c:Nat
 b:List Int
def Sm.sp (s:Sm):Sp:=(s.f,s.m)
def smv (s:Sm):List Value:=[.int .i64 (s.f:Int),.int .i64 (s.m:Int),.slice s.a s.b.length s.c]
def smvs (l:List Sm):List Value:=l.flatMap smv
theorem smvs_len (l:List Sm):(smvs l).length=3*l.length:=by
 induction l with
 | nil=>rfl
 | cons x r ih =>
   show (smv x++smvs r).length=_
   rw [List.length_append,ih,List.length_cons]
   show 3+_=_
   omega
theorem smvs_at:∀ (l:List Sm) (k j:Nat) (h:k<l.length),j<3->(smvs l)[k*3+j]?=(smv l[k])[j]?
 | [],k,_,h,_=>absurd h (Nat.not_lt_zero _)
 | p::r,0,j,_,hj=>by
   show (smv p++smvs r)[0*3+j]?=_
   rw [Nat.zero_mul,Nat.zero_add,List.getElem?_append_left (by simpa [smv] using hj)]
   rfl
 | p::r,k+1,j,h,hj=>by
   show (smv p++smvs r)[(k+1)*3+j]?=_
   rw [List.getElem?_append_right (by simp [smv];omega)]
   have:(k+1)*3+j-(smv p).length=k*3+j:=by simp [smv];omega
   rw [this]
   exact smvs_at r k j (by simpa using h) hj
theorem smvs_set:∀ (l:List Sm) (k j:Nat) (v:Value) (s':Sm) (h:k<l.length),j<3->smv s'=(smv l[k]).set j v->(smvs l).set (k*3+j) v=smvs (l.set k s')
 | [],k,_,_,_,h,_,_=>absurd h (Nat.not_lt_zero _)
 | p::r,0,j,v,s',_,hj,e=>by
   show (smv p++smvs r).set (0*3+j) v=smv s'++smvs r
   rw [Nat.zero_mul,Nat.zero_add,List.set_append_left _ _ (by simpa [smv] using hj),e]
   rfl
 | p::r,k+1,j,v,s',h,hj,e=>by
   show (smv p++smvs r).set ((k+1)*3+j) v=smv p++smvs (r.set k s')
   rw [List.set_append_right _ _ (by simp [smv];omega)]
   have:(k+1)*3+j-(smv p).length=k*3+j:=by simp [smv];omega
   rw [this,smvs_set r k j v s' (by simpa using h) hj (by simpa using e)]
def rgv (x z:Int) (l:List Sm):List Value:=.int .i64 x :: .int .i64 z::smvs l
structure RB (w:World) (g:Nat) (x z:Int) (l:List Sm):Prop where
 head:w.heap[g]?=some (.cells (rgv x z l).toArray 134 (0,0))
 n:l.length=16
section
variable {w w':World} {g:Nat} {x z:Int} {l:List Sm}
theorem RB.lt (H:RB w g x z l):g<w.heap.size:=(Array.getElem?_eq_some_iff.1 H.head).1
theorem RB.keep (H:RB w g x z l) (h:w'.heap[g]?=w.heap[g]?):RB w' g x z l:=⟨h.trans H.head,H.n⟩
theorem RB.on (H:RB w g x z l) (hb:Below w.heap.size w w'):RB w' g x z l:=H.keep (hb.block g H.lt)
theorem RB.xz (H:RB w g x z l):w.cell? ⟨g,0,none⟩=some (.int .i64 x)∧w.cell? ⟨g,1,none⟩=some (.int .i64 z):=by
 refine ⟨?_,?_⟩
 ·rw [cell_of_row w g 0 _ 134 (0,0) H.head];rfl
 ·rw [cell_of_row w g 1 _ 134 (0,0) H.head];rfl
theorem RB.cell (H:RB w g x z l) (k j:Nat) (hk:k<l.length) (hj:j<3):w.cell? ⟨g,2+k*3+j,none⟩=(smv l[k])[j]?:=by
 rw [cell_of_row w g _ _ 134 (0,0) H.head,<- smvs_at l k j hk hj,List.getElem?_toArray]
 show (rgv x z l)[2+k*3+j]?=_
 rw [show 2+k*3+j=(k*3+j)+1+1 by omega]
 rfl
theorem RB.cells (H:RB w g x z l) (k:Nat) (hk:k<l.length):w.cell? ⟨g,2+k*3,none⟩=some (.int .i64 (l[k].f:Int))∧w.cell? ⟨g,2+k*3+1,none⟩=some (.int .i64 (l[k].m:Int))∧w.cell? ⟨g,2+k*3+2,none⟩=some (.slice l[k].a l[k].b.length l[k].c) :=
 ⟨H.cell k 0 hk (by omega),H.cell k 1 hk (by omega),H.cell k 2 hk (by omega)⟩
theorem RB.free (H:RB w g x z l) (j:Nat):w.frozen? ⟨g,j,none⟩=false:=frozen_of_row w _ _ _ 134 H.head
theorem RB.range (H:RB w g x z l):w.rangeAt g 2 (smvs l):=fun j v hj=>by
 rw [cell_of_row w g _ _ 134 (0,0) H.head,List.getElem?_toArray]
 show (rgv x z l)[2+j]?=_
 rw [show 2+j=j+1+1 by omega]
 exact hj
theorem RB.set (H:RB w g x z l) (k j:Nat) (v:Value) (s':Sm) (hk:k<l.length) (hj:j<3) (e:smv s'=(smv l[k]).set j v):RB (w.setCell ⟨g,2+k*3+j,none⟩ v) g x z (l.set k s'):=by
 refine ⟨?_,by rw [List.length_set];exact H.n⟩
 rw [heap_setCell_same w g _ _ 134 _ H.head,List.setIfInBounds_toArray]
 have:(rgv x z l).set (2+k*3+j) v=rgv x z (l.set k s'):=by
  rw [show 2+k*3+j=(k*3+j)+1+1 by omega]
  show _::_::(smvs l).set (k*3+j) v=_
  rw [smvs_set l k j v s' hk hj e]
  rfl
 rw [this]
theorem RB.setAt (H:RB w g x z l) (k:Nat) (f m:Nat) (hk:k<l.length):RB ((w.setCell ⟨g,2+k*3,none⟩ (.int .i64 (f:Int))).setCell ⟨g,2+k*3+1,none⟩ (.int .i64 (m:Int))) g x z (l.set k ⟨f,m,l[k].a,l[k].c,l[k].b⟩):=by
 have h1:=H.set k 0 (.int .i64 (f:Int)) ⟨f,l[k].m,l[k].a,l[k].c,l[k].b⟩ hk (by omega) rfl
 have h2:=h1.set k 1 (.int .i64 (m:Int)) ⟨f,m,l[k].a,l[k].c,l[k].b⟩ (by rw [List.length_set];exact hk) (by omega) (by rw [List.getElem_set_self];rfl)
 rw [List.set_set] at h2
 exact h2
theorem RB.setDat (H:RB w g x z l) (k:Nat) (a:Option Addr) (c:Nat) (b:List Int) (hk:k<l.length):RB (w.setCell ⟨g,2+k*3+2,none⟩ (.slice a b.length c)) g x z (l.set k ⟨l[k].f,l[k].m,a,c,b⟩) :=
 H.set k 2 _ ⟨l[k].f,l[k].m,a,c,b⟩ hk (by omega) rfl
theorem RB.no_u8 (H:RB w g x z l) {j:Nat} {y:Int}:w.cell? ⟨g,j,none⟩≠some (.int .u8 y):=by
 rw [cell_of_row w g _ _ 134 (0,0) H.head,List.getElem?_toArray]
 intro h
 have hm:=List.mem_of_getElem? h
 simp only [rgv,List.mem_cons] at hm
 rcases hm with hm | hm | hm
 ·cases hm
 ·cases hm
 ·unfold smvs at hm
  obtain ⟨s,_,hs⟩:=List.mem_flatMap.1 hm
  simp [smv] at hs
end
theorem bytes_away {w:World} {g:Nat} {x z:Int} {l:List Sm} (H:RB w g x z l) {a:Option Addr} {n:Nat} {xs:List Int} (h:Bytes w a n xs) (w':World) (hO:Only g w w'):Bytes w' a n xs:=by
 refine ⟨h.n,?_,h.fit⟩
 rcases h.cells with e | ⟨b,off,e,hc⟩
 ·exact Or.inl e
 ·refine Or.inr ⟨b,off,e,fun k hk=>?_⟩
  have hne:b≠g:=fun eq=>by
   subst eq
   exact H.no_u8 (hc k hk)
  rw [<- hc k hk]
  exact World.cell?_of_block (a:=⟨b,off+k,none⟩) (hO.block b hne)
theorem size132:(Tryz.prog.info? 132).map (·.size)=some 48:=by kernel_rfl
theorem size134:(Tryz.prog.info? 134).map (·.size)=some 50:=by kernel_rfl
theorem smvs_one (l:List Sm):∀ v∈smvs l,v.oneCell'=true:=by
 intro v hv
 unfold smvs at hv
 obtain ⟨s,_,hs⟩:=List.mem_flatMap.1 hv
 simp only [smv,List.mem_cons,List.not_mem_nil,or_false] at hs
 rcases hs with rfl | rfl | rfl <;> rfl
theorem rgv_one (x z:Int) (l:List Sm):(rgv x z l).toArray.all (·.oneCell')=true:=all_oneCell_toArray (fun v hv=>by
 simp only [rgv,List.mem_cons] at hv
 rcases hv with rfl | rfl | hv
 ·rfl
 ·rfl
 ·exact smvs_one l v hv)
theorem rgv_size {l:List Sm} (hn:l.length=16) (x z:Int):(rgv x z l).toArray.size=50:=by
 rw [List.size_toArray]
 show (smvs l).length+1+1=50
 rw [smvs_len,hn]
theorem ix132 {l:List Sm} (k:Nat) (hk:k<l.length) (hn:l.length=16) (w:World):(Instr.index 132 (.agg (smvs l).toArray) (.int .i64 (k:Int))).run Tryz.prog w = .ok (.agg #[.int .i64 (l[k].f:Int),.int .i64 (l[k].m:Int),.slice l[k].a l[k].b.length l[k].c]) w:=by
 have h0:=smvs_at l k 0 hk (by omega)
 have h1:=smvs_at l k 1 hk (by omega)
 have h2:=smvs_at l k 2 hk (by omega)
 have hlen:=smvs_len l
 rw [hn] at hlen
 generalize smvs l=Z at *
 have hsz:(sizeOf 131).run Tryz.prog w = .ok 3 w:=by kernel_rfl
 have hx:(Z.drop (k*3)).take 3=[.int .i64 (l[k].f:Int),.int .i64 (l[k].m:Int),.slice l[k].a l[k].b.length l[k].c]:=by
  apply List.ext_getElem?
  intro i
  rw [List.getElem?_take]
  by_cases hi:i<3
  ·rw [if_pos hi,List.getElem?_drop]
   match i,hi with
   | 0,_=>exact h0
   | 1,_=>exact h1
   | 2,_=>exact h2
  ·rw [if_neg hi,List.getElem?_eq_none (by simp;omega)]
 have hk':k<16:=by omega
 simp [Instr.index,run_underlying Tryz.underlying132,asIntOf,Go.part,hsz,hx,Sem.run_bind,hk']
end
section
open Go.RowKit
set_option maxHeartbeats 1000000 in
theorem div_c (n:Int) (h0:0<=n) (h1:n<=9223372036854775807) (w:World):Calls Tryz.prog 81 #[.int .i64 n,.int .i64 32] w fun e w'=>e = .returned (.int .i64 (n/32))∧w'=w:=by
 have et:n.tdiv 32=n/32:=Int.tdiv_eq_ediv_of_nonneg h0
 have em:n.tmod 32=n%32:=Int.tmod_eq_emod_of_nonneg h0
 have hm:¬ n%32<0:=by omega
 go_enter Tryz.func81,Tryz.ntmps81
 go_wp2
 go_ret
 exact ⟨by first | rfl | (rw [et]),rfl⟩
set_option maxHeartbeats 1000000 in
theorem need_c (n:Int) (hn:I64 n) (w:World):Calls Tryz.prog 57 #[.int .i64 n] w fun e w'=>e = .returned (.int .i64 (needI n))∧w'=w:=by
 obtain ⟨h1,h2⟩:=hn
 by_cases h:n<1
 ·have e:needI n=0:=by unfold needI;rw [if_pos h]
  rw [e]
  go_enter Tryz.func57,Tryz.ntmps57
  go_wp2
  go_ret
  exact ⟨rfl,rfl⟩
 ·have e:needI n=(n-1)/32+1:=by unfold needI;rw [if_neg h]
  obtain ⟨Post,hPost⟩:∃ Post:Ending->World->Prop,Post=fun e w'=>e = .returned (.int .i64 (needI n))∧w'=w:=⟨_,rfl⟩
  rw [<- hPost]
  have R:Post (.returned (.int .i64 ((n-1)/32+1))) w:=by rw [hPost];exact ⟨by rw [e],rfl⟩
  clear hPost e
  go_enter Tryz.func57,Tryz.ntmps57
  go_wp2_with fail
  refine (div_c (n-1) (by omega) (by omega) w).mono ?_
  rintro _ w' ⟨rfl,rfl⟩
  have hd:(n-1)/32<=9223372036854775806:=by omega
  have hd0:0<=(n-1)/32:=by omega
  generalize (n-1)/32=q at *
  go_wp2
  exact R
theorem need_n (n:Nat) (hn:n<=9223372036854775807) (w:World):Calls Tryz.prog 57 #[.int .i64 (n:Int)] w fun e w'=>e = .returned (.int .i64 (needS n:Int))∧w'=w:=by
 refine (need_c (n:Int) ⟨by omega,by omega⟩ w).mono ?_
 rintro e w' ⟨he,hw⟩
 exact ⟨by rw [he,needI_nat],hw⟩
set_option maxHeartbeats 1000000 in
theorem gknown_c (n:Int) (w:World):Calls Tryz.prog 66 #[.int .i64 n] w fun e w'=>e = .returned (.bool (decide (0<=n∧n<16)))∧w'=w:=by
 by_cases h:0<=n
 ·by_cases h2:n<16
  ·have d:decide (0<=n∧n<16)=true:=decide_eq_true ⟨h,h2⟩
   rw [d]
   go_enter Tryz.func66,Tryz.ntmps66
   go_wp2
   go_ret
   exact ⟨rfl,rfl⟩
  ·have d:decide (0<=n∧n<16)=false:=decide_eq_false (by omega)
   rw [d]
   go_enter Tryz.func66,Tryz.ntmps66
   go_wp2
   go_ret
   exact ⟨rfl,rfl⟩
 ·have d:decide (0<=n∧n<16)=false:=decide_eq_false (by omega)
  rw [d]
  go_enter Tryz.func66,Tryz.ntmps66
  go_wp2
  go_ret
  exact ⟨rfl,rfl⟩
theorem wp_region_tail {P:Program} {id:Nat} {Q:Exit->Act->World->Prop} {a:Act} {w:World} {l:List Oper} (n:Nat) (hm:P.follows .mixedOrders=true) (hB:Region.lexTailB .any l.toArray n=true)
  (h:wpStill P l.toArray (w.drewN 1) (fun a'=>wpList P l.toArray Q (l.drop n) a' (w.drewN 1)) (l.take n) a):(Code.region id l.toArray true).wp P Q a w :=
 wp_region_still_tail n hm hB h
theorem below_setRow {B g:Nat} {w0 w:World} {cs:Array Value} (hb:Below B w0 w) (hg:B<=g):Below B w0 (w.setRow g cs) :=
 ⟨hb.os,hb.tape,hb.output,by rw [setRow_size];exact hb.size,fun k hk=>(setRow_other w g k cs (by omega)).trans (hb.block k hk)⟩
theorem only_setRow (g:Nat) (w:World) (cs:Array Value):Only g w (w.setRow g cs):=⟨rfl,rfl,rfl,setRow_size w g cs,fun k hk=>setRow_other w g k cs hk⟩
set_option maxHeartbeats 1000000 in
theorem file_c (g:Nat) (x z:Int) (l:List Sm) (w:World) (H:RB w g x z l):Calls Tryz.prog 120 #[.pointer (some ⟨g,0,none⟩)] w fun e w'=>e = .returned (.agg #[.int .i64 2,.int .i64 x,.int .i64 z])∧Below w.heap.size w w':=by
 obtain ⟨Post,hPost⟩:∃ Post:Ending->World->Prop,Post=fun e w'=>e = .returned (.agg #[.int .i64 2,.int .i64 x,.int .i64 z])∧Below w.heap.size w w':=⟨_,rfl⟩
 rw [<- hPost]
 have HP:Hid (∀ w',Below w.heap.size w w'->Post (.returned (.agg #[.int .i64 2,.int .i64 x,.int .i64 z])) w'):=fun w' h=>by rw [hPost];exact ⟨rfl,h⟩
 clear hPost
 obtain ⟨c0,c1⟩:=H.xz
 have hg:=H.lt
 clear H
 go_enter Tryz.func120,Tryz.ntmps120
 go_wp2_with fail
 have hb1:Below w.heap.size w (w.alloc (.cells #[.int .i64 0,.int .i64 0,.int .i64 0] 179)):=(Below.refl _ _).alloc (Nat.le_refl _) _
 have hn:=heap_alloc_new w (.cells #[.int .i64 0,.int .i64 0,.int .i64 0] 179)
 have c0':=(cell_below c0 hb1)
 have c1':=(cell_below c1 hb1)
 generalize w.alloc (.cells #[.int .i64 0,.int .i64 0,.int .i64 0] 179)=w1 at *
 have d0:(w1.drewN 1).cell? ⟨g,0,none⟩=some (.int .i64 x):=c0'
 have d1:(w1.drewN 1).cell? ⟨g,1,none⟩=some (.int .i64 z):=c1'
 refine wp_region_tail 9 (by kernel_rfl) (by kernel_rfl) ?_
 simp only [List.take_succ_cons,List.take_zero,List.drop_succ_cons,List.drop_zero]
 repeat still_step
 refine wpStill_nil ?_
 have hn1:(w1.drewN 1).heap[w.heap.size]?=some (.cells #[.int .i64 0,.int .i64 0,.int .i64 0] 179 (0,0)):=hn
 have hb2:Below w.heap.size w (w1.drewN 1):=⟨hb1.os,hb1.tape,hb1.output,hb1.size,hb1.block⟩
 clear hn hb1 c0 c1 c0' c1' d0 d1
 generalize w1.drewN 1=w2 at *
 have Hb2:Hid (Below w.heap.size w w2):=hb2
 have Hn1:Hid (w2.heap[w.heap.size]?=some (.cells #[.int .i64 0,.int .i64 0,.int .i64 0] 179 (0,0))):=hn1
 clear hb2 hn1
 refine wpList_store_row rfl 179 (.tmp 2) (.tmp 11) rfl w.heap.size #[.int .i64 2,.int .i64 x,.int .i64 z] rfl rfl 179 _ Hn1.out (by kernel_rfl) rfl (by simp [Value.oneCell']) ?_
 have hr:=setRow_heap w2 w.heap.size _ #[.int .i64 2,.int .i64 x,.int .i64 z] 179 (0,0) Hn1.out
 have hb3:Below w.heap.size w (w2.setRow w.heap.size #[.int .i64 2,.int .i64 x,.int .i64 z]):=below_setRow Hb2.out (Nat.le_refl _)
 have R:=HP.out _ hb3
 clear HP Hb2 Hn1 hb3
 generalize w2.setRow w.heap.size #[.int .i64 2,.int .i64 x,.int .i64 z]=w3 at *
 have Hr:Hid (w3.heap[w.heap.size]?=some (.cells #[.int .i64 2,.int .i64 x,.int .i64 z] 179 (0,0))):=hr
 clear hr
 go_wp2_with fail
 exact bodyPost_ret (results_cell_row rfl _ _ w.heap.size 179 _ (0,0) _ rfl Hr.out Tryz.underlying179 rfl (by kernel_rfl)) rfl R
end
section
open Go.RowKit
theorem size5N (w:World):(sizeOf 5).run Tryz.prog w = .ok 1 w:=by kernel_rfl
theorem cut_tail (g o n c f:Nat) (hf:f<c) (hfn:f<=n) (w:World):(Instr.sliceAt 61 (.slice (some ⟨g,o,none⟩) n c) (some (.int .i64 (f:Int))) none none).run Tryz.prog w = .ok (.slice (some ⟨g,o+f,none⟩) (n-f) (c-f)) w:=by
 rw [run_sliceAt_slice w 61 _ _ _ _ (by kernel_rfl),run_slice_l w 61 (some ⟨g,o,none⟩) n c (by kernel_rfl) .i64 f (by omega) (by omega),show Tryz.prog.elem 61=5 by kernel_rfl,size5N,Result.andThen_ok,Int.toNat_natCast]
 unfold sliced
 rw [if_neg (by omega),Nat.mul_one]
 show Result.ok (Value.slice (some ((⟨g,o,none⟩:Addr).add f)) _ _) w=_
 rw [Addr.add_mid]
theorem bytes_tail {w:World} {g o n f:Nat} {xs:List Int} (h:Bytes w (some ⟨g,o,none⟩) n xs) (hf:f<=n):Bytes w (some ⟨g,o+f,none⟩) (n-f) (xs.drop f):=by
 have hn:=h.n
 refine ⟨by rw [List.length_drop,hn],?_,fun z hz=>h.fit z (List.mem_of_mem_drop hz)⟩
 rcases h.cells with e | ⟨b,off,e,hc⟩
 ·exact Or.inl (by rw [e];simp)
 ·obtain ⟨rfl,rfl⟩:g=b∧o=off:=by simpa using e
  refine Or.inr ⟨g,o+f,rfl,fun k hk=>?_⟩
  rw [List.length_drop] at hk
  rw [List.getElem_drop,Nat.add_assoc]
  exact hc (f+k) (by omega)
theorem wpList_copy_most {w:World} {ops:Array Oper} {rest:List Oper} {o:Oper} {a:Act} {Q:Exit->Act->World->Prop} (hgd:o.guard=none) (d s:Operand)
  (ho:o.op = .call { callee:=.builtin .copy,args := #[d,s],argTypes := #[61,61] }) (g dLen dCap:Nat) (sp:Option Addr) (sLen sCap:Nat) (hd:a.eval d = .slice (some ⟨g,0,none⟩) dLen dCap) (hs:a.eval s = .slice sp sLen sCap)
  (zs xs:List Int) (t:TypeId) (hR:w.heap[g]?=some (.cells (vals zs) t (0,0))) (hz:zs.length=dLen) (hX:Bytes w sp sLen xs) (B:Nat) (w0:World) (hb:Below B w0 w) (hBg:B<=g)
  (h:∀ w' y,Hid (w'.heap[g]?=some (.cells (vals (xs.take dLen++zs.drop sLen)) t (0,0)))->Below B w0 w'->wpList Tryz.prog ops Q rest (a.put o.dst y) w'):wpList Tryz.prog ops Q (o::rest) a w:=by
 have hn:=hX.n
 obtain ⟨i,hi,hz0,hz1,hz2⟩:=info_parts Tryz.info5
 refine wpList_copy_splice hgd d s 61 61 ho 5 Tryz.underlying61 (by rw [hi];simp [hz1]) _ sp dLen dCap sLen sCap hd hs g 0 (zs.map (Value.int .u8)) t hR ((xs.take dLen).map (Value.int .u8)) (by rw [List.length_map,List.length_take,hn];exact Nat.min_comm _ _) ?_ (by simp;omega) (ints_oneCell _ _) B w0 hb hBg ?_
 ·intro hp
  rcases hX.cells with e | ⟨b,off,e,hc⟩
  ·simp [e] at hp
  ·refine ⟨rfl,_,e,fun j v hj=>?_⟩
   obtain ⟨hj',hv⟩:=List.getElem?_eq_some_iff.1 hj
   rw [List.length_map,List.length_take] at hj'
   rw [Addr.add_lit,hc j (by omega),<- hv]
   simp
 ·intro w' hw hbel
  refine h w' _ ?_ hbel
  have hw:=hw.out
  show _=_
  rw [hw]
  congr 2
  have e2:min dLen (min sLen zs.length)=min sLen zs.length:=by omega
  simp [splice,vals,hn,e2]
def secP (b:List Int) (k:Nat):List Int:=sec b k++List.replicate (32-(sec b k).length) 0
theorem sec_le (b:List Int) (k:Nat):(sec b k).length<=32:=by unfold sec;rw [List.length_take];omega
theorem secP_len (b:List Int) (k:Nat):(secP b k).length=32:=by
 have:=sec_le b k
 unfold secP
 rw [List.length_append,List.length_replicate]
 omega
theorem secP_fit {b:List Int} (hb:∀ z∈b,0<=z∧z<=255) (k:Nat):∀ z∈secP b k,0<=z∧z<=255:=fun z hz=>by
 unfold secP sec at hz
 rcases List.mem_append.1 hz with h | h
 ·exact hb z (List.mem_of_mem_drop (List.mem_of_mem_take h))
 ·rw [List.eq_of_mem_replicate h];omega
theorem secP_take (b:List Int) (k:Nat):(secP b k).take (sec b k).length=sec b k:=by
 unfold secP
 rw [List.take_append_of_le_length (Nat.le_refl _),List.take_of_length_le (Nat.le_refl _)]
set_option maxHeartbeats 1000000 in
theorem sector_c (a:Option Addr) (n c k:Nat) (bs:List Int) (w:World) (hB:Bytes w a n bs) (hk:k*32<n) (hn:n<=1000000000) (hc:n<=c) :
  Calls Tryz.prog 145 #[.slice a n c,.int .i64 (k:Int)] w fun e w'=>e = .returned (.slice (some ⟨w.heap.size,0,none⟩) 32 32)∧Row w' w.heap.size (secP bs k)∧Below w.heap.size w w':=by
 obtain ⟨Post,hPost⟩:∃ Post:Ending->World->Prop,Post=fun e w'=>e = .returned (.slice (some ⟨w.heap.size,0,none⟩) 32 32)∧Row w' w.heap.size (secP bs k)∧Below w.heap.size w w':=⟨_,rfl⟩
 rw [<- hPost]
 have HP:Hid (∀ w',Row w' w.heap.size (secP bs k)->Below w.heap.size w w'->Post (.returned (.slice (some ⟨w.heap.size,0,none⟩) 32 32)) w'):=fun w' h1 h2=>by rw [hPost];exact ⟨rfl,h1,h2⟩
 clear hPost
 obtain ⟨g,o,_,rfl,_⟩:=hB.get 0 (by omega)
 have HB:Hid (Bytes w (some ⟨g,o,none⟩) n bs):=hB
 have hcut:=cut_tail g o n c (32*k) (by omega) (by omega)
 have hmul:IntKind.i64.wrap ((k:Int)*32)=((32*k:Nat):Int):=by rw [IntKind.wrap_i64];omega
 clear hB
 go_enter Tryz.func145,Tryz.ntmps145
 have eS:Hid (((bs.drop (32*k)).take 32)++(List.replicate 32 (0:Int)).drop (n-32*k)=secP bs k):=by
  have hbn:=HB.out.n
  show _=_
  unfold secP sec
  rw [List.drop_replicate,List.length_take,List.length_drop]
  congr 2
  omega
 go_wp2_with (first
  | (at_make;refine wpList_make_bytes w rfl _ _ rfl 32 32 rfl rfl rfl (by omega) ?_;intro w1 HR1 hb1)
  | (refine wpList_copy_most rfl (.tmp 7) (.tmp 11) rfl w.heap.size 32 32 _ _ _ rfl rfl (List.replicate 32 0) _ 5 HR1.out (by simp) (bytes_tail (HB.out.later hb1) (show 32*k<=n by omega)) w.heap.size w hb1 (Nat.le_refl _) ?_;clear hb1;intro w2 y HR2 hb2))
 refine HP.out _ ?_ hb2
 have:=HR2.out
 rw [eS.out] at this
 exact this
theorem entry_c (f m:Nat) (a:Option Addr) (n c:Nat) (w:World) (hf:f<256) (hm:m<256) (hn:n<65536) :
  Calls Tryz.prog 149 #[.agg #[.int .i64 (f:Int),.int .i64 (m:Int),.slice a n c]] w fun e w'=>e = .returned (.agg #[.int .u8 (f:Int),.int .u8 (m:Int),.int .u8 ((n%256:Nat):Int),.int .u8 ((n/256:Nat):Int)])∧Below w.heap.size w w':=by
 go_enter Tryz.func149,Tryz.ntmps149
 go_wp2
 have hb1:Below w.heap.size w (w.alloc (Obj.cells #[Value.int IntKind.i64 ↑f,Value.int IntKind.i64 ↑m,Value.slice a n c] 131)):=(Below.refl _ _).alloc (Nat.le_refl _) _
 have hsz:(w.alloc (Obj.cells #[Value.int IntKind.i64 ↑f,Value.int IntKind.i64 ↑m,Value.slice a n c] 131)).heap.size=w.heap.size+1:=by simp
 generalize w.alloc (Obj.cells #[Value.int IntKind.i64 ↑f,Value.int IntKind.i64 ↑m,Value.slice a n c] 131)=w1 at *
 have hr:=heap_alloc_new w1 (Obj.cells #[Value.int IntKind.u8 ↑f,Value.int IntKind.u8 ↑m,Value.int IntKind.u8 (↑n%256),Value.int IntKind.u8 (↑n/256)] 198)
 rw [hsz] at hr
 exact bodyPost_ret (results_cell_row rfl _ _ (w.heap.size+1) 198 _ (0,0) _ rfl hr Tryz.underlying198 rfl (by kernel_rfl)) rfl ⟨rfl,hb1.alloc (by omega) _⟩
set_option maxHeartbeats 1000000 in
theorem clone_c (a:Option Addr) (n c:Nat) (bs:List Int) (w:World) (hB:Bytes w a n bs) (hnil:a=none->c=0) (hn:n<=1000000000) :
  Calls Tryz.prog 67 #[.slice a n c] w fun e w'=>Below w.heap.size w w'∧∃ a' c',e = .returned (.slice a' n c')∧Bytes w' a' n bs:=by
 obtain ⟨Post,hPost⟩:∃ Post:Ending->World->Prop,Post=fun e w'=>Below w.heap.size w w'∧∃ a' c',e = .returned (.slice a' n c')∧Bytes w' a' n bs:=⟨_,rfl⟩
 rw [<- hPost]
 have HP:Hid (∀ w' a' c',Bytes w' a' n bs->Below w.heap.size w w'->Post (.returned (.slice a' n c')) w'):=fun w' a' c' h1 h2=>by rw [hPost];exact ⟨h2,_,_,rfl,h1⟩
 clear hPost
 cases a with
 | none =>
   obtain rfl:=hnil rfl
   have h0:n=0:=by
    rcases hB.cells with e | ⟨b,off,e,_⟩
    ·rw [<- hB.n,e];rfl
    ·cases e
   subst h0
   have R:=HP.out w none 0 hB (Below.refl _ _)
   clear HP hB hnil
   have he:(binOp .eql 61 (.slice none 0 0) (.slice none 0 0)).run Tryz.prog w = .ok (.bool true) w:=by kernel_rfl
   go_enter Tryz.func67,Tryz.ntmps67
   go_wp2
   exact R
 | some ad =>
   have HB:Hid (Bytes w (some ad) n bs):=hB
   clear hB hnil
   have he:(binOp .eql 61 (.slice (some ad) n c) (.slice none 0 0)).run Tryz.prog w = .ok (.bool false) w:=by kernel_rfl
   go_enter Tryz.func67,Tryz.ntmps67
   have hown:Own (w.alloc (.cells #[] 5)) w.heap.size (some ⟨w.heap.size,0,none⟩) 0 []:=⟨by simp,.inr ⟨w.heap.size,0,#[],rfl,Nat.le_refl _,heap_alloc_new w _,Nat.le_refl _,by simp,rfl,rfl⟩⟩
   have hb1:Below w.heap.size w (w.alloc (.cells #[] 5)):=(Below.refl _ _).alloc (Nat.le_refl _) _
   have hB1:=HB.out.later hb1
   have Hb1:Hid (Below w.heap.size w (w.alloc (.cells #[] 5))):=hb1
   have HB1:Hid (Bytes (w.alloc (.cells #[] 5)) (some ad) n bs):=hB1
   have Hown:Hid (Own (w.alloc (.cells #[] 5)) w.heap.size (some ⟨w.heap.size,0,none⟩) 0 []):=hown
   have Hsz:Hid (w.heap.size<=(w.alloc (.cells #[] 5)).heap.size):=by show _<=_;simp
   clear hown hb1 hB1 HB
   go_wp2_with (at_builtin;refine wpList_append_bytes rfl _ _ rfl w.heap.size (some ⟨w.heap.size,0,none⟩) 0 0 [] rfl rfl Hown.out (some ad) n c bs rfl HB1.out (fun h=>by cases h) (by omega) w Hb1.out Hsz.out ?_;intro a' c' w' Ho Hb _)
   refine HP.out _ _ _ ?_ Hb
   exact Ho.out.bytes HB1.out.fit _ HB1.out.n
end
section
open Go.RowKit
def SRow (w:World) (b:Nat) (l:List Sp):Prop:=w.heap[b]?=some (.cells (spCells l).toArray 97 (0,0))
theorem SRow.lt {w:World} {b:Nat} {l:List Sp} (H:SRow w b l):b<w.heap.size:=(Array.getElem?_eq_some_iff.1 H).1
theorem SRow.on {w w':World} {b:Nat} {l:List Sp} (H:SRow w b l) (hb:Below w.heap.size w w'):SRow w' b l:=(hb.block b H.lt).trans H
theorem SRow.cells {w:World} {b:Nat} {l:List Sp} (H:SRow w b l) {k:Nat} (hk:k<l.length):w.cell? ⟨b,k*2,none⟩=some (.int .i64 (l[k].1:Int))∧w.cell? ⟨b,k*2+1,none⟩=some (.int .i64 (l[k].2:Int)):=by
 have:=spCells_at l k hk
 refine ⟨?_,?_⟩
 ·rw [cell_of_row w b _ _ 97 (0,0) H,List.getElem?_toArray];exact this.1
 ·rw [cell_of_row w b _ _ 97 (0,0) H,List.getElem?_toArray];exact this.2
theorem SRow.free {w:World} {b:Nat} {l:List Sp} (H:SRow w b l) (j:Nat):w.frozen? ⟨b,j,none⟩=false:=frozen_of_row w _ _ _ 97 H
theorem spCells_set:∀ (l:List Sp) (k:Nat) (s:Sp),k<l.length->((spCells l).set (k*2) (.int .i64 (s.1:Int))).set (k*2+1) (.int .i64 (s.2:Int))=spCells (l.set k s)
 | [],k,_,h=>absurd h (Nat.not_lt_zero _)
 | a::r,0,s,_=>rfl
 | a::r,k+1,s,h=>by
   have ih:=spCells_set r k s (by simpa using h)
   show (((spc a++spCells r).set ((k+1)*2) _).set ((k+1)*2+1) _)=spc a++spCells (r.set k s)
   rw [List.set_append_right _ _ (by simp [spc];omega),List.set_append_right _ _ (by simp [spc];omega),show (k+1)*2-(spc a).length=k*2 by simp [spc];omega,show (k+1)*2+1-(spc a).length=k*2+1 by simp [spc];omega,ih]
theorem SRow.set {w:World} {b:Nat} {l:List Sp} (H:SRow w b l) {k:Nat} (hk:k<l.length) (s:Sp):SRow ((w.setCell ⟨b,k*2,none⟩ (.int .i64 (s.1:Int))).setCell ⟨b,k*2+1,none⟩ (.int .i64 (s.2:Int))) b (l.set k s):=by
 unfold SRow
 have h1:=heap_setCell_same w b (k*2) _ 97 (.int .i64 (s.1:Int)) H
 rw [heap_setCell_same _ b (k*2+1) _ 97 _ h1,List.setIfInBounds_toArray,List.setIfInBounds_toArray,spCells_set l k s hk]
theorem SRow.at {w:World} {b:Nat} {l:List Sp} (H:SRow w b l):SpsAt w (some ⟨b,0,none⟩) l:=.inr ⟨b,0,rfl,fun j u hj=>by
 rw [Nat.zero_add,cell_of_row w b _ _ 97 (0,0) H,List.getElem?_toArray];exact hj⟩
theorem made_sps (n:Nat):madeCells #[.int .i64 0,.int .i64 0] (n*2)=(spCells (List.replicate n (0,0))).toArray:=by
 apply Array.ext
 ·simp [madeCells,spCells_len]
 ·intro i h1 h2
  have h3:i<n*2:=by simpa [madeCells] using h1
  have key:(spCells (List.replicate n (0,0)))[i]?=some (.int .i64 0):=by
   have:=spCells_at (List.replicate n (0,0)) (i/2) (by rw [List.length_replicate];omega)
   rw [List.getElem_replicate] at this
   rcases Nat.mod_two_eq_zero_or_one i with e | e
   ·rw [show i=i/2*2 by omega];exact this.1
   ·rw [show i=i/2*2+1 by omega];exact this.2
  have e2:(spCells (List.replicate n (0,0))).toArray[i] = .int .i64 0:=by
   rw [List.getElem_toArray]
   exact (List.getElem?_eq_some_iff.1 key).2
  rw [e2]
  rcases Nat.mod_two_eq_zero_or_one i with e | e <;> simp [madeCells,e]
theorem own_full2 {w:World} {base g N:Nat} {e:TypeId} {xs:List Value} (h:w.ownsRow base e 2 (.slice (some ⟨g,0,none⟩) N N) N xs):w.heap[g]?=some (.cells xs.toArray e (0,0)):=by
 rcases h.2 with ⟨h',_⟩|⟨g',cap,cur,hv,_,hh,_,_,hs,ht⟩
 ·simp at h'
 ·simp only [Value.slice.injEq,Option.some.injEq,Addr.mk.injEq,and_true,true_and] at hv
  obtain ⟨rfl,rfl⟩:=hv
  rw [hh]
  have e1:cur.toList=xs:=by
   rw [List.take_of_length_le (by simp;omega)] at ht
   exact ht
  rw [<- e1]
theorem wpList_make_sps (w:World) {ops:Array Oper} {rest:List Oper} {o:Oper} {a:Act} {Q:Exit->Act->World->Prop}
  (hg:o.guard=none) (l c:Operand) (hop:o.op=Op.makeSlice 95 l c) (L:Int) (n:Nat) (hl:a.eval l = .int .i64 L) (hc:a.eval c = .int .i64 L) (hL:L=(n:Int)) (hn:n<=1000000000)
  (hK:∀ w',Hid (SRow w' w.heap.size (List.replicate n (0,0)))->Below w.heap.size w w'->wpList Tryz.prog ops Q rest (a.put o.dst (.slice (some ⟨w.heap.size,0,none⟩) n n)) w') :
  wpList Tryz.prog ops Q (o::rest) a w:=by
 obtain ⟨i,hi,hz0,hz1,hz2⟩:=info_parts info97
 refine wpList_make_full w hg l c 95 hop w.heap.size 97 i (.agg #[.int .i64 0,.int .i64 0]) 2 Tryz.underlying95 hi hz0 hz1 .i64 .i64 L L n hl hc hL hL (by rw [hz2];omega) (by unfold maxLen;omega) (Nat.le_refl _) ?_
 intro w' hown hgrow
 refine hK w' ?_ ((Below.refl _ _).grown hgrow (Nat.le_refl _) (by simp))
 have:=own_full2 hown
 show SRow _ _ _
 unfold SRow
 rw [this]
 show some (Obj.cells (madeCells #[Value.int .i64 0,Value.int .i64 0] (n*2)) 97 (0,0))=_
 rw [made_sps]
set_option maxHeartbeats 1000000 in
theorem live_c (g:Nat) (x z:Int) (l:List Sm) (w:World) (H:RB w g x z l) :
  Calls Tryz.prog 40 #[.pointer (some ⟨g,0,none⟩)] w fun e w'=>Below w.heap.size w w'∧e = .returned (.slice (some ⟨w.heap.size,0,none⟩) 16 16)∧SRow w' w.heap.size (l.map Sm.sp):=by
 obtain ⟨Post,hPost⟩:∃ Post:Ending->World->Prop,Post=fun e w'=>Below w.heap.size w w'∧e = .returned (.slice (some ⟨w.heap.size,0,none⟩) 16 16)∧SRow w' w.heap.size (l.map Sm.sp):=⟨_,rfl⟩
 rw [<- hPost]
 have HP:Hid (∀ w',SRow w' w.heap.size (l.map Sm.sp)->Below w.heap.size w w'->Post (.returned (.slice (some ⟨w.heap.size,0,none⟩) 16 16)) w'):=fun w' h1 h2=>by rw [hPost];exact ⟨h2,rfl,h1⟩
 clear hPost
 have HB:Hid (RB w g x z l):=H
 have hgl:=H.lt
 obtain ⟨Z,hZ⟩:∃ Z,Z=smvs l:=⟨_,rfl⟩
 have HZ:Hid (Z=smvs l):=hZ
 clear H hZ
 go_enter Tryz.func40,Tryz.ntmps40
 go_wp2_with (first
  | (at_make;refine wpList_make_sps w rfl _ _ rfl 16 16 rfl rfl rfl (by omega) ?_;intro w1 HR1 hb1)
  | (refine wpList_load_mid rfl 132 (.tmp 11) rfl g 2 rfl Z _ (by rw [HZ.out];exact (HB.out.on hb1).range) Tryz.underlying132 rfl (by rw [HZ.out,smvs_len,HB.out.n];exact size132) ?_))
 have Hb1:Hid (Below w.heap.size w w1):=hb1
 have hlt:=HR1.out.lt
 clear hb1
 have HB1:Hid (RB w1 g x z l):=HB.out.on Hb1.out
 clear HB
 go_loopw [13] (fun v wr=>∃ (j:Nat),j<=16∧v = .int .i64 (j:Int)∧Hid (SRow wr w.heap.size ((l.map Sm.sp).take j++List.replicate (16-j) (0,0)))∧Hid (Below w.heap.size w wr)) (fun v _=>16-(intOf v).toNat)
 case atStart=>exact ⟨0,Nat.zero_le _,by go_num,(show SRow _ _ _ by simpa using HR1.out),Hb1.out⟩
 case round =>
  clear HR1 Hb1
  obtain ⟨j,hj,rfl,HS,HBe⟩:=hrel
  have hn:=HB1.out.n
  by_cases hlt:j<16
  ·have hlt':(j:Int)<16:=by omega
   have hjl:j<l.length:=by omega
   have hix:=ix132 j hjl hn
   rw [<- HZ.out] at hix
   have hlen:((l.map Sm.sp).take j++List.replicate (16-j) (0,0)).length=16:=by simp;omega
   obtain ⟨q0,q1⟩:=HS.out.cells (k:=j) (by omega)
   have f0:=HS.out.free (j*2)
   have f1:=HS.out.free (j*2+1)
   have hsl:=HS.out.lt
   have HN:Hid (∀ (W W':World),SRow W w.heap.size ((l.map Sm.sp).take j++List.replicate (16-j) (0,0))->W'=((W.setCell ⟨w.heap.size,j*2,none⟩ (.int .i64 (l[j].f:Int))).setCell ⟨w.heap.size,j*2+1,none⟩ (.int .i64 (l[j].m:Int)))->SRow W' w.heap.size ((l.map Sm.sp).take (j+1)++List.replicate (16-(j+1)) (0,0))):=fun W W' hS hW=>by
    have:=hS.set (k:=j) (by omega) (l[j].f,l[j].m)
    rw [hW]
    refine (congrArg (SRow _ w.heap.size) ?_).mp this
    apply List.ext_getElem?
    intro i
    rw [List.getElem?_set,hlen]
    by_cases h1:j=i
    ·subst h1
     rw [if_pos rfl,if_pos hlt,List.getElem?_append_left (by simp;omega),List.getElem?_take,if_pos (by omega),List.getElem?_map,List.getElem?_eq_getElem hjl]
     rfl
    ·rw [if_neg h1]
     by_cases h2:i<j
     ·rw [List.getElem?_append_left (by simp;omega),List.getElem?_append_left (by simp;omega),List.getElem?_take,List.getElem?_take,if_pos h2,if_pos (by omega)]
     ·rw [List.getElem?_append_right (by simp;omega),List.getElem?_append_right (by simp;omega),List.getElem?_replicate,List.getElem?_replicate]
      simp only [List.length_take,List.length_map]
      by_cases h3:i<16
      ·rw [if_pos (by omega),if_pos (by omega)]
      ·rw [if_neg (by omega),if_neg (by omega)]
   generalize l[j].f=F at *
   generalize l[j].m=M at *
   generalize l[j].a=A at *
   generalize l[j].b.length=N at *
   generalize l[j].c=C at *
   generalize ((l.map Sm.sp).take j++List.replicate (16-j) (0,0))[j].1=o0 at *
   generalize ((l.map Sm.sp).take j++List.replicate (16-j) (0,0))[j].2=o1 at *
   have HS':Hid (SRow (((wr.setCell ⟨w.heap.size,j*2,none⟩ (.int .i64 (F:Int))).setCell ⟨w.heap.size,j*2+1,none⟩ (.int .i64 (M:Int))).alloc (.cells #[.int .i64 (F:Int),.int .i64 (M:Int),.slice A N C] 131)) w.heap.size ((l.map Sm.sp).take (j+1)++List.replicate (16-(j+1)) (0,0))):=(HN.out wr _ HS.out rfl).on ((Below.refl _ _).alloc (Nat.le_refl _) _)
   have HB':Hid (Below w.heap.size w (((wr.setCell ⟨w.heap.size,j*2,none⟩ (.int .i64 (F:Int))).setCell ⟨w.heap.size,j*2+1,none⟩ (.int .i64 (M:Int))).alloc (.cells #[.int .i64 (F:Int),.int .i64 (M:Int),.slice A N C] 131))):=((HBe.out.setCell (p:=⟨w.heap.size,j*2,none⟩) (Nat.le_refl _) _).setCell (p:=⟨w.heap.size,j*2+1,none⟩) (Nat.le_refl _) _).alloc (by have:=HBe.out.size;simpa using this) _
   have hwl:w.heap.size≠wr.heap.size:=by omega
   clear hlen HN HS HBe HP
   go_wp2
   go_roundw
   case rel=>exact ⟨j+1,by omega,by go_num,HS',HB'⟩
   case measure=>simp [intOf];omega
  ·obtain rfl:j=16:=by omega
   have hge:¬ ((16:Nat):Int)<16:=by omega
   have R:=HP.out wr (by have:=HS.out;rwa [Nat.sub_self,List.replicate_zero,List.append_nil,List.take_of_length_le (by rw [List.length_map];omega)] at this) HBe.out
   clear HP HS HBe
   go_wp2
   exact R
set_option maxHeartbeats 1000000 in
theorem get_c (g:Nat) (x z:Int) (l:List Sm) (i:Int) (w:World) (H:RB w g x z l) (hD:∀ s∈l,Bytes w s.a s.b.length s.b∧(s.a=none->s.c=0)∧s.b.length<=1000000000) :
  Calls Tryz.prog 36 #[.pointer (some ⟨g,0,none⟩),.int .i64 i] w fun e w'=>Below w.heap.size w w'∧∃ a c,e = .returned (.slice a (if 0<=i∧i<16 then (l.map Sm.b).getD i.toNat [] else []).length c)∧Bytes w' a (if 0<=i∧i<16 then (l.map Sm.b).getD i.toNat [] else []).length (if 0<=i∧i<16 then (l.map Sm.b).getD i.toNat [] else []):=by
 by_cases hi:0<=i∧i<16
 ·rw [if_pos hi]
  have hn:=H.n
  obtain ⟨I,rfl⟩:=Int.eq_ofNat_of_zero_le hi.1
  have hI:I<l.length:=by omega
  have eD:(l.map Sm.b).getD (I:Int).toNat []=l[I].b:=by
   rw [Int.toNat_natCast,List.getD_eq_getElem?_getD,List.getElem?_map,List.getElem?_eq_getElem hI]
   rfl
  rw [eD]
  obtain ⟨h1,h2,h3⟩:=hD l[I] (List.getElem_mem _)
  have q2:=(H.cells I hI).2.2
  obtain ⟨Post,hPost⟩:∃ Post:Ending->World->Prop,Post=fun e w'=>Below w.heap.size w w'∧∃ a c,e = .returned (.slice a l[I].b.length c)∧Bytes w' a l[I].b.length l[I].b:=⟨_,rfl⟩
  rw [<- hPost]
  have HP:Hid (∀ a c w',Below w.heap.size w w'->Bytes w' a l[I].b.length l[I].b->Post (.returned (.slice a l[I].b.length c)) w'):=fun a c w' h1 h2=>by rw [hPost];exact ⟨h1,a,c,rfl,h2⟩
  clear hPost eD
  have HB:Hid (Bytes w l[I].a l[I].b.length l[I].b):=h1
  clear h1 hD
  generalize l[I].a=A at *
  generalize l[I].c=C at *
  generalize l[I].b=bs at *
  generalize bs.length=N at *
  have hlt:(I:Int)<16:=by omega
  have hI0:I<16:=by omega
  clear hi
  go_enter Tryz.func36,Tryz.ntmps36
  go_wp2_with (first | (go_at_call 66;refine (gknown_c (I:Int) w).mono ?_;rw [decide_eq_true (show 0<=(I:Int)∧(I:Int)<16 by omega)];rintro _ w1 ⟨rfl,hw⟩;replace hw:=hw.symm;subst hw) | (go_at_call 67;refine (clone_c A N C bs w HB.out h2 (by omega)).mono ?_;rintro _ w1 ⟨hb,a',c',rfl,hB'⟩))
  exact HP.out _ _ _ hb hB'
 ·rw [if_neg hi]
  obtain ⟨Post,hPost⟩:∃ Post:Ending->World->Prop,Post=fun e w'=>Below w.heap.size w w'∧∃ a c,e = .returned (.slice a ([]:List Int).length c)∧Bytes w' a ([]:List Int).length []:=⟨_,rfl⟩
  rw [<- hPost]
  have R:Post (.returned (.slice none 0 0)) w:=by rw [hPost];exact ⟨Below.refl _ _,none,0,rfl,⟨rfl,.inl rfl,fun z hz=>by simp at hz⟩⟩
  clear hPost
  go_enter Tryz.func36,Tryz.ntmps36
  go_wp2_with (go_at_call 66;refine (gknown_c i w).mono ?_;rw [decide_eq_false hi];rintro _ w1 ⟨rfl,rfl⟩)
  exact R
end
end Go.Proofs.YtlllmmceoeihkaaGreat
set_option maxRecDepth 20000
namespace Go.Proofs.YtlllmmceoeihkaaGreat
section
open Go.RowKit
def hdrL (l:List Sm):List Int:=l.flatMap fun s=>hdr1 s.sp s.b
theorem hdrL_len (l:List Sm):(hdrL l).length=4*l.length:=by
 induction l with
 | nil=>rfl
 | cons s r ih =>
   show (hdr1 s.sp s.b++hdrL r).length=_
   rw [List.length_append,ih,List.length_cons]
   show 4+_=_
   omega
theorem hdrL_R (l:List Sm):hdrL l=hdrR (l.map Sm.sp) (l.map Sm.b):=by
 unfold hdrR hdrL
 induction l with
 | nil=>rfl
 | cons s r ih=>rw [List.flatMap_cons,List.map_cons,List.map_cons,List.zip_cons_cons,List.map_cons,List.flatten_cons,<- ih]
theorem hdrL_snoc (l:List Sm) (s:Sm):hdrL (l++[s])=hdrL l++hdr1 s.sp s.b:=by simp [hdrL]
def Small (l:List Sm):Prop:=∀ s∈l,s.f<256∧s.m<256∧s.b.length<65536
theorem hdrL_fit {l:List Sm} (h:Small l):∀ y∈hdrL l,0<=y∧y<=255:=fun y hy=>by
 obtain ⟨s,hs,hy⟩:=List.mem_flatMap.1 hy
 obtain ⟨h1,h2,h3⟩:=h s hs
 simp only [hdr1,Sm.sp,List.mem_cons,List.not_mem_nil,or_false] at hy
 omega
set_option maxHeartbeats 1000000 in
theorem header_c (g:Nat) (x z:Int) (l:List Sm) (w:World) (H:RB w g x z l) (hI:Small l) :
  Calls Tryz.prog 143 #[.pointer (some ⟨g,0,none⟩)] w fun e w'=>Below w.heap.size w w'∧∃ a c,e = .returned (.slice a 64 c)∧Own w' w.heap.size a c (hdrL l):=by
 obtain ⟨Post,hPost⟩:∃ Post:Ending->World->Prop,Post=fun e w'=>Below w.heap.size w w'∧∃ a c,e = .returned (.slice a 64 c)∧Own w' w.heap.size a c (hdrL l):=⟨_,rfl⟩
 rw [<- hPost]
 have HP:Hid (∀ w' a c,Own w' w.heap.size a c (hdrL l)->Below w.heap.size w w'->Post (.returned (.slice a 64 c)) w'):=fun w' a c h1 h2=>by rw [hPost];exact ⟨h2,a,c,rfl,h1⟩
 clear hPost
 have HB:Hid (RB w g x z l):=H
 have HI:Hid (Small l):=hI
 obtain ⟨Z,hZ⟩:∃ Z,Z=smvs l:=⟨_,rfl⟩
 have HZ:Hid (Z=smvs l):=hZ
 clear H hZ hI
 go_enter Tryz.func143,Tryz.ntmps143
 go_wp2_with (refine wpList_load_mid rfl 132 (.tmp 9) rfl g 2 rfl Z _ (by rw [HZ.out];exact HB.out.range) Tryz.underlying132 rfl (by rw [HZ.out,smvs_len,HB.out.n];exact size132) ?_)
 go_loopw [3,11] (fun s v wr=>∃ (j:Nat) (av:Option Addr) (cv:Nat),j<=16∧v = .int .i64 (j:Int)∧s = .slice av (4*j) cv∧Hid (Own wr w.heap.size av cv (hdrL (l.take j)))∧Hid (Below w.heap.size w wr)) (fun _ v _=>16-(intOf v).toNat)
 case atStart=>exact ⟨0,none,0,Nat.zero_le _,by go_num,rfl,Own.nil _ _,Below.refl _ _⟩
 case round =>
  obtain ⟨j,av,cv,hj,rfl,rfl,HO,HBe⟩:=hrel
  have hn:=HB.out.n
  by_cases hlt:j<16
  ·have hlt':(j:Int)<16:=by omega
   have hjl:j<l.length:=by omega
   have hix:=ix132 j hjl hn
   rw [<- HZ.out] at hix
   obtain ⟨hF,hM,hN⟩:=HI.out l[j] (List.getElem_mem _)
   have HN:Hid (hdrL (l.take (j+1))=hdrL (l.take j)++[(l[j].f:Int),(l[j].m:Int),((l[j].b.length%256:Nat):Int),((l[j].b.length/256:Nat):Int)]):=by
    show _=_
    rw [List.take_succ_eq_append_getElem hjl]
    exact hdrL_snoc _ _
   have Hlen:Hid ((hdrL (l.take j)).length=4*j):=by show _=_;rw [hdrL_len,List.length_take];omega
   generalize l[j].f=F at *
   generalize l[j].m=M at *
   generalize l[j].a=A at *
   generalize l[j].b.length=N at *
   generalize l[j].c=C at *
   have Hb2:Hid (Below wr.heap.size wr (wr.alloc (.cells #[.int .i64 (F:Int),.int .i64 (M:Int),.slice A N C] 131))):=(Below.refl _ _).alloc (Nat.le_refl _) _
   generalize hdrL (l.take j)=T at *
   go_wp2_with fail
   generalize wr.alloc (.cells #[.int .i64 (F:Int),.int .i64 (M:Int),.slice A N C] 131)=w2 at *
   refine (entry_c F M A N C w2 hF hM hN).mono ?_
   rintro _ w3 ⟨rfl,hb3⟩
   have hb23:=Hb2.out.trans (hb3.mono Hb2.out.size)
   have hO3:=HO.out.later hb23
   have hB3:=HBe.out.trans (hb23.mono HBe.out.size)
   obtain ⟨n2,hn2⟩:∃ n2:Int,n2=((N%256:Nat):Int):=⟨_,rfl⟩
   obtain ⟨n3,hn3⟩:∃ n3:Int,n3=((N/256:Nat):Int):=⟨_,rfl⟩
   have hfit:∀ y∈[(F:Int),(M:Int),n2,n3],0<=y∧y<=255:=fun y hy=>by
    simp only [List.mem_cons,List.not_mem_nil,or_false] at hy
    omega
   rw [<- hn2,<- hn3] at HN ⊢
   have hb4:Below w3.heap.size w3 (w3.alloc (.cells #[.int .u8 (F:Int),.int .u8 (M:Int),.int .u8 n2,.int .u8 n3] 198)):=(Below.refl _ _).alloc (Nat.le_refl _) _
   have hr4:=heap_alloc_new w3 (.cells #[.int .u8 (F:Int),.int .u8 (M:Int),.int .u8 n2,.int .u8 n3] 198)
   have HY:Hid (Bytes (w3.alloc (.cells #[.int .u8 (F:Int),.int .u8 (M:Int),.int .u8 n2,.int .u8 n3] 198)) (some ⟨w3.heap.size,0,none⟩) 4 [(F:Int),(M:Int),n2,n3]):=⟨rfl,.inr ⟨w3.heap.size,0,rfl,fun k hk=>by
    rw [cell_of_row _ _ _ _ 198 (0,0) hr4]
    match k,hk with
    | 0,_=>rfl
    | 1,_=>rfl
    | 2,_=>rfl
    | 3,_=>rfl⟩,hfit⟩
   have HO4:Hid (Own (w3.alloc (.cells #[.int .u8 (F:Int),.int .u8 (M:Int),.int .u8 n2,.int .u8 n3] 198)) w.heap.size av cv T):=hO3.later hb4
   have Hb4:Hid (Below w.heap.size w (w3.alloc (.cells #[.int .u8 (F:Int),.int .u8 (M:Int),.int .u8 n2,.int .u8 n3] 198))):=hB3.alloc hB3.size _
   clear hb4 hr4 hO3 hB3 hb23 hb3 hfit HO HBe Hb2 HP hn2 hn3
   have hcut:∀ w',(Instr.sliceAt 198 (.pointer (some ⟨w3.heap.size,0,none⟩)) none none none).run Tryz.prog w' = .ok (.slice (some ⟨w3.heap.size,0,none⟩) 4 4) w':=fun w'=>by kernel_rfl
   have hbd:4*j+4<=140737488355328:=by omega
   go_wp2_with (at_builtin;refine wpList_append_bytes rfl _ _ rfl w.heap.size av (4*j) cv T Hlen.out rfl HO4.out (some ⟨w3.heap.size,0,none⟩) 4 4 _ rfl HY.out (fun h=>by cases h) hbd w Hb4.out Hb4.out.size ?_;intro a' c' w' HO' Hb' _)
   go_roundw
   case rel=>exact ⟨j+1,a',c',by omega,by go_num,by rw [Nat.mul_add],by rw [HN.out];exact HO'.out,Hb'⟩
   case measure=>simp [intOf];omega
  ·obtain rfl:j=16:=by omega
   have hge:¬ ((16:Nat):Int)<16:=by omega
   have R:=HP.out wr av cv (by have:=HO.out;rwa [List.take_of_length_le (by omega)] at this) HBe.out
   clear HP HO HBe
   go_wp2
   exact R
end
section
open Go.RowKit
structure Dt (w:World) (s:Sm):Prop where
 by_:Bytes w s.a s.b.length s.b
 nil:s.a=none->s.c=0
 cap:s.b.length<=s.c
theorem Dt.on {w w':World} {s:Sm} (h:Dt w s) (hb:Below w.heap.size w w'):Dt w' s:=⟨h.by_.later hb,h.nil,h.cap⟩
def Fit (l:List Sm):Prop:=∀ s∈l,s.f<256∧s.m<256∧s.b.length<=2000∧s.m=needS s.b.length
theorem Fit.small {l:List Sm} (h:Fit l):Small l:=fun s hs=>by
 obtain ⟨h1,h2,h3,_⟩:=h s hs
 exact ⟨h1,h2,by omega⟩
def secAt (l:List Sm) (i:Nat):Option (List Int):=if i<2 then some (secP (hdrL l) i) else (l.find? (fun s=>covers s.sp i)).map (fun s=>secP s.b (i-s.f))
def AtSay (l:List Sm) (i:Nat) (w:World) (e:Ending) (w':World):Prop:=Below w.heap.size w w'∧((secAt l i=none∧e = .returned (.slice none 0 0))∨∃ p b,secAt l i=some b∧w.heap.size<=p∧e = .returned (.slice (some ⟨p,0,none⟩) 32 32)∧Row w' p b)
structure Bx (w:World) (hb rb g:Nat) (a:Option Addr) (c:Nat) (l:List Sm):Prop where
 h:w.heap[hb]?=some (.cells #[.slice a 64 c] 61 (0,0))
 r:w.heap[rb]?=some (.cells #[.pointer (some ⟨g,0,none⟩)] 73 (0,0))
 by_:Bytes w a 64 (hdrL l)
 cap:64<=c
theorem Bx.on {w w':World} {hb rb g:Nat} {a:Option Addr} {c:Nat} {l:List Sm} (H:Bx w hb rb g a c l) (hB:Below w.heap.size w w'):Bx w' hb rb g a c l :=
 ⟨(hB.block hb (Array.getElem?_eq_some_iff.1 H.h).1).trans H.h,(hB.block rb (Array.getElem?_eq_some_iff.1 H.r).1).trans H.r,H.by_.later hB,H.cap⟩
set_option maxHeartbeats 1000000 in
theorem bytesAt_c (g:Nat) (x z:Int) (l:List Sm) (w:World) (H:RB w g x z l) (hI:Fit l) :
  Calls Tryz.prog 130 #[.pointer (some ⟨g,0,none⟩)] w fun e w'=>Below w.heap.size w w'∧∃ hb rb a c,e = .returned (.func (.func 144) #[] #[.pointer (some ⟨hb,0,none⟩),.pointer (some ⟨rb,0,none⟩)])∧Bx w' hb rb g a c l:=by
 obtain ⟨Post,hPost⟩:∃ Post:Ending->World->Prop,Post=fun e w'=>Below w.heap.size w w'∧∃ hb rb a c,e = .returned (.func (.func 144) #[] #[.pointer (some ⟨hb,0,none⟩),.pointer (some ⟨rb,0,none⟩)])∧Bx w' hb rb g a c l:=⟨_,rfl⟩
 rw [<- hPost]
 have HP:Hid (∀ w' hb rb a c,Bx w' hb rb g a c l->Below w.heap.size w w'->Post (.returned (.func (.func 144) #[] #[.pointer (some ⟨hb,0,none⟩),.pointer (some ⟨rb,0,none⟩)])) w'):=fun w' hb rb a c h1 h2=>by rw [hPost];exact ⟨h2,hb,rb,a,c,rfl,h1⟩
 clear hPost
 have HB:Hid (RB w g x z l):=H
 have HI:Hid (Fit l):=hI
 have Hn:Hid (l.length=16):=H.n
 clear H hI
 have hb1:Below w.heap.size w (w.alloc (.cells #[.pointer (some ⟨g,0,none⟩)] 73)):=(Below.refl _ _).alloc (Nat.le_refl _) _
 have HB1:Hid (RB (w.alloc (.cells #[.pointer (some ⟨g,0,none⟩)] 73)) g x z l):=HB.out.on hb1
 have Hb1:Hid (Below w.heap.size w (w.alloc (.cells #[.pointer (some ⟨g,0,none⟩)] 73))):=hb1
 have Hr1:Hid ((w.alloc (.cells #[.pointer (some ⟨g,0,none⟩)] 73)).heap[w.heap.size]?=some (.cells #[.pointer (some ⟨g,0,none⟩)] 73 (0,0))):=heap_alloc_new w _
 clear hb1 HB
 go_enter Tryz.func130,Tryz.ntmps130
 go_wp2_with fail
 generalize w.alloc (.cells #[.pointer (some ⟨g,0,none⟩)] 73)=w1 at *
 refine (header_c g x z l w1 HB1.out HI.out.small).mono ?_
 rintro _ w2 ⟨hb2,a,c,rfl,hO⟩
 have hlen:(hdrL l).length=64:=by rw [hdrL_len,Hn.out]
 have hby:Bytes w2 a 64 (hdrL l):=hO.bytes (hdrL_fit HI.out.small) 64 hlen
 have hcap:64<=c:=by
  rcases hO.parts with ⟨_,_,e⟩|⟨_,_,_,_,_,_,h⟩
  ·rw [e] at hlen;simp at hlen
  ·omega
 have hr2:w2.heap[w.heap.size]?=some (.cells #[.pointer (some ⟨g,0,none⟩)] 73 (0,0)):=(hb2.block w.heap.size (Array.getElem?_eq_some_iff.1 Hr1.out).1).trans Hr1.out
 have hlt:w.heap.size<w2.heap.size:=(Array.getElem?_eq_some_iff.1 hr2).1
 have hb12:=Hb1.out.trans (hb2.mono Hb1.out.size)
 have hb3:Below w2.heap.size w2 (w2.alloc (.cells #[.slice a 64 c] 61)):=(Below.refl _ _).alloc (Nat.le_refl _) _
 have R:=HP.out (w2.alloc (.cells #[.slice a 64 c] 61)) w2.heap.size w.heap.size a c ⟨heap_alloc_new w2 _,(hb3.block w.heap.size hlt).trans hr2,hby.later hb3,hcap⟩ (hb12.alloc hb12.size _)
 have hmf:∀ w',(Instr.makeFunc (.func 144) #[] #[.pointer (some ⟨w2.heap.size,0,none⟩),.pointer (some ⟨w.heap.size,0,none⟩)]).run Tryz.prog w' = .ok (.func (.func 144) #[] #[.pointer (some ⟨w2.heap.size,0,none⟩),.pointer (some ⟨w.heap.size,0,none⟩)]) w':=fun w'=>by rfl
 clear HP hby hcap hr2 hb12 hb3 hO hb2 HB1 Hb1 Hr1 hlen
 go_wp2
 exact R
set_option maxHeartbeats 1000000 in
theorem at_c (i hb rb g:Nat) (x z:Int) (a:Option Addr) (c:Nat) (l:List Sm) (w:World) (H:RB w g x z l) (hI:Fit l) (hD:∀ s∈l,Dt w s) (hX:Bx w hb rb g a c l) (hi:i<40) :
  Calls Tryz.prog 144 #[.int .i64 (i:Int),.pointer (some ⟨hb,0,none⟩),.pointer (some ⟨rb,0,none⟩)] w (AtSay l i w):=by
 obtain ⟨Post,hPost⟩:∃ Post:Ending->World->Prop,Post=AtSay l i w:=⟨_,rfl⟩
 rw [<- hPost]
 have HPn:Hid (secAt l i=none->∀ w',Below w.heap.size w w'->Post (.returned (.slice none 0 0)) w'):=fun h1 w' h2=>by rw [hPost];exact ⟨h2,.inl ⟨h1,rfl⟩⟩
 have HPs:Hid (∀ p b,secAt l i=some b->w.heap.size<=p->∀ w',Row w' p b->Below w.heap.size w w'->Post (.returned (.slice (some ⟨p,0,none⟩) 32 32)) w'):=fun p b h1 h2 w' h3 h4=>by rw [hPost];exact ⟨h4,.inr ⟨p,b,h1,h2,rfl,h3⟩⟩
 clear hPost
 have hc0:w.cell? ⟨hb,0,none⟩=some (.slice a 64 c):=by rw [cell_of_row w hb 0 _ 61 (0,0) hX.h];rfl
 have hr0:w.cell? ⟨rb,0,none⟩=some (.pointer (some ⟨g,0,none⟩)):=by rw [cell_of_row w rb 0 _ 73 (0,0) hX.r];rfl
 have HX:Hid (Bytes w a 64 (hdrL l)∧64<=c):=⟨hX.by_,hX.cap⟩
 have HB:Hid (RB w g x z l):=H
 have HI:Hid (Fit l):=hI
 have HD:Hid (∀ s∈l,Dt w s):=hD
 obtain ⟨Z,hZ⟩:∃ Z,Z=smvs l:=⟨_,rfl⟩
 have HZ:Hid (Z=smvs l):=hZ
 clear H hZ hI hD hX
 by_cases h2:i<2
 ·have h2':(i:Int)<2:=by omega
  have Hs:Hid (secAt l i=some (secP (hdrL l) i)):=by show _=_;unfold secAt;rw [if_pos h2]
  clear HPn
  go_enter Tryz.func144,Tryz.ntmps144
  go_wp2_with fail
  refine (sector_c a 64 c i (hdrL l) w HX.out.1 (by omega) (by omega) HX.out.2).mono ?_
  rintro _ w1 ⟨rfl,hR,hb1⟩
  have R:=HPs.out _ _ Hs.out (Nat.le_refl _) w1 hR hb1
  clear HPs hR hb1
  go_wp2
  exact R
 ·have h2':¬ (i:Int)<2:=by omega
  have Hs:Hid (secAt l i=(l.find? (fun s=>covers s.sp i)).map (fun s=>secP s.b (i-s.f))):=by show _=_;unfold secAt;rw [if_neg h2]
  go_enter Tryz.func144,Tryz.ntmps144
  go_wp2_with (refine wpList_load_mid rfl 132 (.tmp 15) rfl g 2 rfl Z _ (by rw [HZ.out];exact HB.out.range) Tryz.underlying132 rfl (by rw [HZ.out,smvs_len,HB.out.n];exact size132) ?_)
  go_loopw [17] (fun v wr=>∃ (j:Nat),j<=16∧v = .int .i64 (j:Int)∧Hid (∀ s∈l.take j,covers s.sp i=false)∧Hid (Below w.heap.size w wr)) (fun v _=>16-(intOf v).toNat)
  case atStart=>exact ⟨0,Nat.zero_le _,by go_num,fun s hs=>by simp at hs,Below.refl _ _⟩
  case round =>
   obtain ⟨j,hj,rfl,HN,HBe⟩:=hrel
   have hn:=HB.out.n
   by_cases hlt:j<16
   ·have hlt':(j:Int)<16:=by omega
    have hjl:j<l.length:=by omega
    have hix:=ix132 j hjl hn
    rw [<- HZ.out] at hix
    obtain ⟨hF,hM,hL,hm⟩:=HI.out l[j] (List.getElem_mem _)
    obtain ⟨hB,hnil,hcap⟩:=HD.out l[j] (List.getElem_mem _)
    have HYes:Hid (covers l[j].sp i=true->secAt l i=some (secP l[j].b (i-l[j].f))):=fun hc=>by
     rw [Hs.out]
     have:l.find? (fun s=>covers s.sp i)=some l[j]:=by
      rw [List.find?_eq_some_iff_append]
      refine ⟨hc,l.take j,l.drop (j+1),?_,fun s hs=>by rw [HN.out s hs];rfl⟩
      rw [<- List.drop_eq_getElem_cons hjl,List.take_append_drop]
     rw [this]
     rfl
    have HNo:Hid (covers l[j].sp i=false->∀ s∈l.take (j+1),covers s.sp i=false):=fun hc s hs=>by
     rw [List.take_succ_eq_append_getElem hjl] at hs
     rcases List.mem_append.1 hs with h | h
     ·exact HN.out s h
     ·rw [List.mem_singleton.1 h];exact hc
    have ecov:covers l[j].sp i=decide (l[j].f<=i∧i<l[j].f+l[j].m):=rfl
    rw [ecov] at HYes HNo
    clear ecov
    generalize l[j].f=F at *
    generalize l[j].m=M at *
    generalize l[j].a=A at *
    generalize l[j].c=C at *
    generalize l[j].b=bs at *
    obtain ⟨N,hN⟩:∃ N,N=bs.length:=⟨_,rfl⟩
    rw [<- hN] at hix hL hm hB hcap
    have HBy:Hid (Bytes w A N bs):=hB
    clear hB hN
    have Hb2:Hid (Below w.heap.size w (wr.alloc (.cells #[.int .i64 (F:Int),.int .i64 (M:Int),.slice A N C] 131))):=HBe.out.alloc HBe.out.size _
    unfold needS at hm
    have Hm:Hid (M=(N+31)/32):=hm
    clear hm
    by_cases hc:F<=i
    ·obtain ⟨K0,hK0⟩:∃ K0:Nat,K0=i-F:=⟨_,rfl⟩
     have hk:(i:Int)-(F:Int)=(K0:Int):=by omega
     have HK0:Hid (K0=i-F):=hK0
     have hK1:K0<40:=by omega
     clear hK0
     by_cases hd:i<F+M
     ·have hd':(K0:Int)<(M:Int):=by have:=HK0.out;omega
      have hy:=HYes.out (decide_eq_true ⟨hc,hd⟩)
      rw [<- HK0.out] at hy
      have HW:Hid (Bytes (wr.alloc (.cells #[.int .i64 (F:Int),.int .i64 (M:Int),.slice A N C] 131)) A N bs):=(HBy.out.later Hb2.out)
      have HPs2:Hid (∀ p,w.heap.size<=p->∀ w',Row w' p (secP bs K0)->Below w.heap.size w w'->Post (.returned (.slice (some ⟨p,0,none⟩) 32 32)) w'):=fun p h1 w' h2 h3=>HPs.out p _ hy h1 w' h2 h3
      clear HPs HPn HYes HNo hy hc hd
      go_wp2_with fail
      generalize wr.alloc (.cells #[.int .i64 (F:Int),.int .i64 (M:Int),.slice A N C] 131)=w2 at *
      refine (sector_c A N C K0 bs w2 HW.out (by have:=Hm.out;omega) (by omega) hcap).mono ?_
      rintro _ w3 ⟨rfl,hR,hb3⟩
      have R:=HPs2.out _ Hb2.out.size w3 hR (Hb2.out.trans (hb3.mono Hb2.out.size))
      clear HPs2 hR hb3 HW
      go_wp2
      exact R
     ·have hd':¬ (K0:Int)<(M:Int):=by have:=HK0.out;omega
      have Hn2:Hid (∀ s∈l.take (j+1),covers s.sp i=false):=HNo.out (decide_eq_false (by omega))
      clear HPs HPn HYes HNo hc hd HBe
      go_wp2
      go_roundw
      case rel=>exact ⟨j+1,by omega,by go_num,Hn2,Hb2⟩
      case measure=>simp [intOf];omega
    ·obtain ⟨K0,hK0⟩:∃ K0:Int,K0=(i:Int)-(F:Int):=⟨_,rfl⟩
     have hk:(i:Int)-(F:Int)=K0:=hK0.symm
     have hneg:¬ 0<=K0:=by omega
     have hlo : -1000<=K0:=by omega
     have Hn2:Hid (∀ s∈l.take (j+1),covers s.sp i=false):=HNo.out (decide_eq_false (by omega))
     clear HPs HPn HYes HNo hc HBe hK0
     go_wp2
     go_roundw
     case rel=>exact ⟨j+1,by omega,by go_num,Hn2,Hb2⟩
     case measure=>simp [intOf];omega
   ·obtain rfl:j=16:=by omega
    have hge:¬ ((16:Nat):Int)<16:=by omega
    have R:=HPn.out (by
     rw [Hs.out]
     have:l.find? (fun s=>covers s.sp i)=none:=by
      rw [List.find?_eq_none]
      intro s hs
      rw [HN.out s (by rwa [List.take_of_length_le (by omega)])]
      decide
     rw [this]
     rfl) wr HBe.out
    clear HPn HPs HN HBe Hs
    go_wp2
    exact R
end
section
open Go.RowKit
def pbc (f:Fl) (o:Pb):List Value:=[.int .i64 f.1,.int .i64 f.2.1,.int .i64 f.2.2,.int .i64 (o.i:Int),.slice o.a 32 o.c]
def pbCells (f:Fl) (l:List Pb):List Value:=l.flatMap (pbc f)
theorem pbCells_len (f:Fl) (l:List Pb):(pbCells f l).length=l.length*5:=by
 induction l with
 | nil=>rfl
 | cons x r ih =>
   show (pbc f x++pbCells f r).length=_
   rw [List.length_append,ih,List.length_cons]
   show 5+_=_
   omega
theorem pbCells_at (f:Fl):∀ (l:List Pb) (k j:Nat) (h:k<l.length),j<5->(pbCells f l)[k*5+j]?=(pbc f l[k])[j]?
 | [],k,_,h,_=>absurd h (Nat.not_lt_zero _)
 | p::r,0,j,_,hj=>by
   show (pbc f p++pbCells f r)[0*5+j]?=_
   rw [Nat.zero_mul,Nat.zero_add,List.getElem?_append_left (by simpa [pbc] using hj)]
   rfl
 | p::r,k+1,j,h,hj=>by
   show (pbc f p++pbCells f r)[(k+1)*5+j]?=_
   rw [List.getElem?_append_right (by simp [pbc];omega)]
   have:(k+1)*5+j-(pbc f p).length=k*5+j:=by simp [pbc];omega
   rw [this]
   exact pbCells_at f r k j (by simpa using h) hj
def OwnPb (w:World) (lo:Nat) (a:Option Addr) (c:Nat) (f:Fl) (l:List Pb):Prop:=w.ownsRow lo 181 5 (.slice a l.length c) l.length (pbCells f l)
theorem info181:(Tryz.prog.info? 181).map (fun i=>(i.zero,i.size,i.bytes))=some (some (.agg #[.int .i64 0,.int .i64 0,.int .i64 0,.int .i64 0,.slice none 0 0]),5,56):=by kernel_rfl
def PbRows (B:Nat) (w:World) (l:List Pb):Prop:=∀ p∈l,∃ q,B<=q∧p.a=some ⟨q,0,none⟩∧Row w q p.b∧p.c=32
theorem PbRows.on {B:Nat} {w w':World} {l:List Pb} (H:PbRows B w l) (hb:Below w.heap.size w w'):PbRows B w' l:=fun p hp=>by
 obtain ⟨q,h1,h2,h3,h4⟩:=H p hp
 exact ⟨q,h1,h2,h3.below hb h3.lt,h4⟩
theorem PbRows.grown {B lo:Nat} {w w':World} {l:List Pb} (H:PbRows B w l) {v:Value} {n:Nat} {xs:List Value} (ho:w.ownsRow lo 181 5 v n xs) (hg:w.grownBy w' v.ownBlock):PbRows B w' l:=fun p hp=>by
 obtain ⟨q,h1,h2,h3,h4⟩:=H p hp
 refine ⟨q,h1,h2,?_,h4⟩
 unfold Row
 rw [hg.block q h3.lt ?_]
 ·exact h3
 ·intro e
  rcases ho.2 with ⟨hv,_⟩|⟨g,cap,cur,hv,_,hh,_⟩
  ·rw [hv] at e;cases e
  ·rw [hv] at e
   obtain rfl:q=g:=by simpa [Value.ownBlock] using e
   unfold Row at h3
   rw [hh] at h3
   simp at h3
theorem OwnPb.nil (w:World) (B:Nat) (f:Fl):OwnPb w B none 0 f []:=World.ownsRow_nil w B 181 5
theorem OwnPb.later {w w':World} {B:Nat} {a:Option Addr} {c:Nat} {f:Fl} {l:List Pb} (h:OwnPb w B a c f l) (hb:Below w.heap.size w w'):OwnPb w' B a c f l:=by
 refine ⟨h.1,?_⟩
 rcases h.2 with h2 | ⟨g,cap,cur,hv,hg,hh,r⟩
 ·exact .inl h2
 ·exact .inr ⟨g,cap,cur,hv,hg,by rw [hb.block g (Array.getElem?_eq_some_iff.1 hh).1];exact hh,r⟩
theorem wpList_append_pb {w:World} {ops:Array Oper} {rest:List Oper} {o:Oper} {a:Act} {Q:Exit->Act->World->Prop} (hgd:o.guard=none) (s x:Operand)
  (ho:o.op = .call { callee:=.builtin .append,args := #[s,x],argTypes := #[112,112] }) (B:Nat) (f:Fl) (av:Option Addr) (n cv:Nat) (L:List Pb) (hn:L.length=n) (hs:a.eval s = .slice av n cv) (hown:OwnPb w B av cv f L)
  (q:Nat) (p:Pb) (hx:a.eval x = .slice (some ⟨q,0,none⟩) 1 1) (hX:w.heap[q]?=some (.cells (pbc f p).toArray 181 (0,0))) (hle:n<=1000) (w0:World) (hb:Below B w0 w) (hB:B<=w.heap.size) (B':Nat) (R:List Pb) (hR:PbRows B' w R)
  (h:∀ a' c' w',Hid (OwnPb w' B a' c' f (L++[p]))->Below B w0 w'->Hid (PbRows B' w' R)->wpList Tryz.prog ops Q rest (a.put o.dst (.slice a' (n+1) c')) w'):wpList Tryz.prog ops Q (o::rest) a w:=by
 obtain ⟨i,hi,hz0,hz1,hz2⟩:=info_parts info181
 subst hn
 refine wpList_append_own w hgd s x 112 ho B 181 i (.agg #[.int .i64 0,.int .i64 0,.int .i64 0,.int .i64 0,.slice none 0 0]) 5 56 Tryz.underlying112 hi hz0 hz1 hz2 rfl (by decide) _ _ _ hs hown ⟨q,0,none⟩ 1 1 (pbc f p) hx rfl ?_ (fun u hu=>by
  simp only [pbc,List.mem_cons,List.not_mem_nil,or_false] at hu
  rcases hu with rfl | rfl | rfl | rfl | rfl <;> rfl) (by unfold maxLen;omega) (by omega) hB ?_
 ·intro j u hj
  rw [Addr.add_mid,Nat.zero_add,cell_of_row w q j _ 181 (0,0) hX,List.getElem?_toArray]
  exact hj
 ·intro v' w' h1 h2 _
  have hb':Below B w0 w':=hb.grown h2 hB (fun k hk=>(World.ownsRow.lt hown k hk).1)
  have e:∃ a' c',v' = .slice a' (L.length+1) c':=by
   rcases h1.2 with ⟨hv,hn⟩|⟨g,cap,_,hv,_⟩
   ·exact ⟨none,0,by rw [hv,hn]⟩
   ·exact ⟨_,_,hv⟩
  obtain ⟨a',c',rfl⟩:=e
  refine h a' c' w' ?_ hb' (hR.grown hown h2)
  show OwnPb _ _ _ _ _ _
  unfold OwnPb
  have e2:pbCells f (L++[p])=pbCells f L++pbc f p:=by simp [pbCells]
  rw [List.length_append,e2]
  exact h1
def blkL (l:List Sm) (n:Nat):List (Nat×List Int):=(List.range n).filterMap fun i=>(secAt l i).map fun b=>(i,b)
theorem blkL_next (l:List Sm) (n:Nat):blkL l (n+1)=blkL l n++((secAt l n).map fun b=>(n,b)).toList:=by
 unfold blkL
 rw [List.range_succ,List.filterMap_append]
 cases h:secAt l n <;> simp [h]
set_option maxHeartbeats 1000000 in
theorem blocks_c (g:Nat) (x z:Int) (l:List Sm) (w:World) (H:RB w g x z l) (hI:Fit l) (hD:∀ s∈l,Dt w s) :
  Calls Tryz.prog 101 #[.pointer (some ⟨g,0,none⟩)] w fun e w'=>Below w.heap.size w w'∧∃ a c ps,e = .returned (.slice a ps.length c)∧OwnPb w' w.heap.size a c (2,x,z) ps∧PbRows w.heap.size w' ps∧ps.map (fun p=>(p.i,p.b))=blkL l 40:=by
 obtain ⟨Post,hPost⟩:∃ Post:Ending->World->Prop,Post=fun e w'=>Below w.heap.size w w'∧∃ a c ps,e = .returned (.slice a ps.length c)∧OwnPb w' w.heap.size a c (2,x,z) ps∧PbRows w.heap.size w' ps∧ps.map (fun p=>(p.i,p.b))=blkL l 40:=⟨_,rfl⟩
 rw [<- hPost]
 have HP:Hid (∀ w' a c ps,OwnPb w' w.heap.size a c (2,x,z) ps->PbRows w.heap.size w' ps->ps.map (fun p=>(p.i,p.b))=blkL l 40->Below w.heap.size w w'->Post (.returned (.slice a ps.length c)) w'):=fun w' a c ps h1 h2 h3 h4=>by rw [hPost];exact ⟨h4,a,c,ps,rfl,h1,h2,h3⟩
 clear hPost
 have HB:Hid (RB w g x z l):=H
 have HI:Hid (Fit l):=hI
 have HD:Hid (∀ s∈l,Dt w s):=hD
 clear H hI hD
 go_enter Tryz.func101,Tryz.ntmps101
 go_wp2_with fail
 refine (bytesAt_c g x z l w HB.out HI.out).mono ?_
 rintro _ w1 ⟨hb1,hb,rb,ha,hc,rfl,hX⟩
 have HX1:Hid (Bx w1 hb rb g ha hc l):=hX
 have HB1:Hid (RB w1 g x z l):=HB.out.on hb1
 have HD1:Hid (∀ s∈l,Dt w1 s):=fun s hs=>(HD.out s hs).on hb1
 have Hb1:Hid (Below w.heap.size w w1):=hb1
 clear hX hb1 HB HD
 go_wp2_with fail
 go_loopw [3,9] (fun s v wr=>∃ (j:Nat) (av:Option Addr) (n cv:Nat) (ps:List Pb),j<=40∧v = .int .i64 (j:Int)∧s = .slice av n cv∧n<=j∧Hid (ps.length=n)∧Hid (OwnPb wr w1.heap.size av cv (2,x,z) ps)∧Hid (PbRows w1.heap.size wr ps)∧Hid (ps.map (fun p=>(p.i,p.b))=blkL l j)∧Hid (Below w1.heap.size w1 wr)) (fun _ v _=>40-(intOf v).toNat)
 case atStart=>exact ⟨0,none,0,0,[],Nat.zero_le _,by go_num,rfl,Nat.le_refl _,rfl,OwnPb.nil _ _ _,fun p hp=>by simp at hp,rfl,Below.refl _ _⟩
 case round =>
  obtain ⟨j,av,n,cv,ps,hj,rfl,rfl,hnj,Hn,HO,HR,HL,HBe⟩:=hrel
  by_cases hlt:j<40
  ·have hlt':(j:Int)<40:=by omega
   have HX:Hid (Bx wr hb rb g ha hc l):=HX1.out.on HBe.out
   have HBw:Hid (RB wr g x z l):=HB1.out.on HBe.out
   have HDw:Hid (∀ s∈l,Dt wr s):=fun s hs=>(HD1.out s hs).on HBe.out
   go_wp2_with fail
   refine (at_c j hb rb g x z ha hc l wr HBw.out HI.out HDw.out HX.out hlt).mono ?_
   rintro _ w2 ⟨hb2,⟨hs,rfl⟩|⟨p,b,hs,hp,rfl,hRow⟩⟩
   ·have hne:(binOp .neq 61 (.slice none 0 0) (.slice none 0 0)).run Tryz.prog w2 = .ok (.bool false) w2:=by kernel_rfl
    have HO2:Hid (OwnPb w2 w1.heap.size av cv (2,x,z) ps):=HO.out.later hb2
    have HR2:Hid (PbRows w1.heap.size w2 ps):=HR.out.on hb2
    have HL2:Hid (ps.map (fun p=>(p.i,p.b))=blkL l (j+1)):=by show _=_;rw [blkL_next,hs,HL.out];simp
    have HBe2:Hid (Below w1.heap.size w1 w2):=HBe.out.trans (hb2.mono HBe.out.size)
    clear hb2 hs HP HO HR HL HBe HX HBw HDw
    go_wp2
    go_roundw
    case rel=>exact ⟨j+1,av,n,cv,ps,by omega,by go_num,rfl,by omega,Hn,HO2,HR2,HL2,HBe2⟩
    case measure=>simp [intOf];omega
   ·have hne:(binOp .neq 61 (.slice (some ⟨p,0,none⟩) 32 32) (.slice none 0 0)).run Tryz.prog w2 = .ok (.bool true) w2:=by kernel_rfl
    have HO2:Hid (OwnPb w2 w1.heap.size av cv (2,x,z) ps):=HO.out.later hb2
    have HR2:Hid (PbRows w1.heap.size w2 (ps++[⟨j,b,some ⟨p,0,none⟩,32⟩])):=fun o ho=>by
     rcases List.mem_append.1 ho with h | h
     ·exact (HR.out.on hb2) o h
     ·rw [List.mem_singleton.1 h]
      exact ⟨p,Nat.le_trans HBe.out.size hp,rfl,hRow,rfl⟩
    have HL2:Hid ((ps++[(⟨j,b,some ⟨p,0,none⟩,32⟩:Pb)]).map (fun p=>(p.i,p.b))=blkL l (j+1)):=by show _=_;rw [blkL_next,hs,List.map_append,HL.out];rfl
    have HBe2:Hid (Below w1.heap.size w1 w2):=HBe.out.trans (hb2.mono HBe.out.size)
    have HBw2:Hid (RB w2 g x z l):=HBw.out.on hb2
    clear hb2 hs HP HO HR HL HBe HX HBw HDw hRow hp
    go_wp2_with fail
    refine (file_c g x z l w2 HBw2.out).mono ?_
    rintro _ w3 ⟨rfl,hb3⟩
    have HO3:Hid (OwnPb (w3.alloc (.cells (pbc (2,x,z) ⟨j,b,some ⟨p,0,none⟩,32⟩).toArray 181)) w1.heap.size av cv (2,x,z) ps):=(HO2.out.later hb3).later ((Below.refl _ _).alloc (Nat.le_refl _) _)
    have HR3:Hid (PbRows w1.heap.size (w3.alloc (.cells (pbc (2,x,z) ⟨j,b,some ⟨p,0,none⟩,32⟩).toArray 181)) (ps++[⟨j,b,some ⟨p,0,none⟩,32⟩])):=(HR2.out.on hb3).on ((Below.refl _ _).alloc (Nat.le_refl _) _)
    have hbe3:=HBe2.out.trans (hb3.mono HBe2.out.size)
    have HBe3:Hid (Below w1.heap.size w1 (w3.alloc (.cells (pbc (2,x,z) ⟨j,b,some ⟨p,0,none⟩,32⟩).toArray 181))):=hbe3.alloc hbe3.size _
    have HA3:Hid ((w3.alloc (.cells (pbc (2,x,z) ⟨j,b,some ⟨p,0,none⟩,32⟩).toArray 181)).heap[w3.heap.size]?=some (.cells (pbc (2,x,z) ⟨j,b,some ⟨p,0,none⟩,32⟩).toArray 181 (0,0))):=heap_alloc_new w3 _
    clear hb3 HO2 HR2 HBe2 HBw2 hbe3
    have hn1:n<=1000:=by omega
    go_wp2_with (at_builtin;go_loud (refine wpList_append_pb rfl _ _ rfl w1.heap.size (2,x,z) av n cv ps Hn.out rfl HO3.out w3.heap.size ⟨j,b,some ⟨p,0,none⟩,32⟩ rfl HA3.out hn1 w1 HBe3.out HBe3.out.size w1.heap.size _ HR3.out ?_);intro a' c' w' HO' Hb' HR')
    go_roundw
    case rel=>exact ⟨j+1,a',n+1,c',_,by omega,by go_num,rfl,by omega,by show _=_;rw [List.length_append,Hn.out];rfl,HO',HR',HL2,Hb'⟩
    case measure=>simp [intOf];omega
  ·obtain rfl:j=40:=by omega
   have hge:¬ ((40:Nat):Int)<40:=by omega
   have R:=HP.out wr av cv ps (by
    refine ⟨HO.out.1,?_⟩
    rcases HO.out.2 with h | ⟨b,cap,cur,hv,hb,r⟩
    ·exact .inl h
    ·exact .inr ⟨b,cap,cur,hv,Nat.le_trans Hb1.out.size hb,r⟩) (fun p hp=>by
    obtain ⟨q,h1,h2⟩:=HR.out p hp
    exact ⟨q,Nat.le_trans Hb1.out.size h1,h2⟩) HL.out (Hb1.out.trans (HBe.out.mono Hb1.out.size))
   rw [Hn.out] at R
   clear HP HO HR HL HBe
   go_wp2
   exact R
end
end Go.Proofs.YtlllmmceoeihkaaGreat
set_option maxRecDepth 20000
namespace Go.Proofs.YtlllmmceoeihkaaGreat
section
open Go.RowKit
theorem row_atT {w:World} {tb:Nat} {t:TypeId} {T:List Bool} (H:w.heap[tb]?=some (.cells (bvals T) t (0,0))) {i:Nat} (hi:i<T.length):w.cell? ⟨tb,i,none⟩=some (.bool (T.getD i false)):=by
 rw [cell_of_row w tb i _ t (0,0) H,List.getD_eq_getElem?_getD,List.getElem?_eq_getElem hi]
 simp [bvals,hi]
theorem row_setT {w:World} {tb:Nat} {t:TypeId} {T:List Bool} (H:w.heap[tb]?=some (.cells (bvals T) t (0,0))) (i:Nat) (b:Bool):(w.setCell ⟨tb,i,none⟩ (.bool b)).heap[tb]?=some (.cells (bvals (T.set i b)) t (0,0)):=by
 rw [heap_setCell_same w tb i _ t _ H]
 simp [bvals]
set_option maxHeartbeats 1000000 in
theorem apart_c (d:List (List Int)) (a:Option Addr) (n c:Nat) (l:List Cg) (w:World) (hC:CgsAt w a l) (hn:l.length=n) (hM:n<=maxLen) :
  Calls Tryz.prog 97 #[.slice a n c] w fun e w'=>e = .returned (.bool (chgAll d [] (l.map Cg.cs)).isSome)∧Below w.heap.size w w':=by
 obtain ⟨Post,hPost⟩:∃ Post:Ending->World->Prop,Post=fun e w'=>e = .returned (.bool (chgAll d [] (l.map Cg.cs)).isSome)∧Below w.heap.size w w':=⟨_,rfl⟩
 rw [<- hPost]
 have HP:Hid (∀ b w',(chgAll d [] (l.map Cg.cs)).isSome=b->Below w.heap.size w w'->Post (.returned (.bool b)) w'):=fun b w' h1 h2=>by rw [hPost];exact ⟨by rw [h1],h2⟩
 clear hPost
 have HC:Hid (CgsAt w a l):=hC
 have Hn:Hid (l.length=n):=hn
 have hM':n<=9223372036854775807:=by unfold maxLen at hM;omega
 clear hC hn hM
 have Hb1:Hid (Below w.heap.size w (w.alloc (.cells (bvals (hadR [])) 209))):=(Below.refl _ _).alloc (Nat.le_refl _) _
 have Hh1:Hid ((w.alloc (.cells (bvals (hadR [])) 209)).heap[w.heap.size]?=some (.cells (bvals (hadR [])) 209 (0,0))):=heap_alloc_new w _
 have e16:bvals (hadR []) = #[.bool false,.bool false,.bool false,.bool false,.bool false,.bool false,.bool false,.bool false,.bool false,.bool false,.bool false,.bool false,.bool false,.bool false,.bool false,.bool false]:=by rfl
 rw [e16] at Hb1 Hh1
 go_enter Tryz.func97,Tryz.ntmps97
 go_wp2_with fail
 generalize w.alloc (.cells #[.bool false,.bool false,.bool false,.bool false,.bool false,.bool false,.bool false,.bool false,.bool false,.bool false,.bool false,.bool false,.bool false,.bool false,.bool false,.bool false] 209)=w1 at *
 rw [<- e16] at Hh1
 clear e16
 go_loopw [8] (fun v wr=>∃ (j:Nat) (dj:List (List Int)) (hd:List Nat),j<=n∧v = .int .i64 (j:Int)∧Hid (wr.heap[w.heap.size]?=some (.cells (bvals (hadR hd)) 209 (0,0)))∧Hid (Below w.heap.size w wr)∧Hid ((chgAll d [] (l.map Cg.cs)).isSome=(chgAll dj hd ((l.map Cg.cs).drop j)).isSome)) (fun v _=>n-(intOf v).toNat)
 case atStart=>exact ⟨0,d,[],Nat.zero_le _,by go_num,Hh1,Hb1,rfl⟩
 case round =>
  clear Hh1 Hb1
  obtain ⟨j,dj,hd,hj,rfl,Hh,HBe,HE⟩:=hrel
  by_cases hlt:j<n
  ·have hlt':(j:Int)<(n:Int):=by omega
   have hjl:j<l.length:=by rw [Hn.out];exact hlt
   obtain ⟨cb,co,rfl,hc⟩:=(HC.out.on HBe.out) j hjl
   have hdr:(l.map Cg.cs).drop j=l[j].cs::(l.map Cg.cs).drop (j+1):=by
    rw [List.drop_eq_getElem_cons (by rw [List.length_map];exact hjl),List.getElem_map]
   have hE:=HE.out
   rw [hdr] at hE
   obtain ⟨⟨s,da,dn,dc,db⟩,hci⟩:∃ c,l[j]=c:=⟨_,rfl⟩
   rw [hci] at hc hE
   have c0:=hc.c0
   have c1:=hc.c1
   simp only at c0 c1
   obtain ⟨hs1,hs2⟩:=hc.bd
   simp only at hs1 hs2
   have Hb2:Hid (Below w.heap.size w (wr.alloc (.cells #[.int .i64 s,.slice da dn dc] 145))):=HBe.out.alloc HBe.out.size _
   have hbl:w.heap.size<wr.heap.size:=(Array.getElem?_eq_some_iff.1 Hh.out).1
   clear hdr hci hc HE
   by_cases hk:0<=s∧s<16
   ·obtain ⟨S,rfl⟩:=Int.eq_ofNat_of_zero_le hk.1
    have hS16:S<16:=by omega
    have hS':(S:Int)<16:=by omega
    have hat:=row_atT Hh.out (i:=S) (by rw [hadR_len];exact hS16)
    rw [hadR_at hd hS16] at hat
    have hfr:wr.frozen? ⟨w.heap.size,S,none⟩=false:=frozen_of_row wr _ _ _ 209 Hh.out
    have hwl:w.heap.size≠wr.heap.size:=by omega
    by_cases hin:S∈hd
    ·rw [decide_eq_true hin] at hat
     have R:=HP.out false _ (by rw [hE,chg_bad (c:=Cg.cs ⟨S,da,dn,dc,db⟩) (fun h=>h.2.2 (by simpa [Cg.cs] using hin))];rfl) Hb2.out
     clear HP hE HBe Hb2 Hh hk
     go_wp2_with (go_at_call 66;refine (gknown_c (S:Int) _).mono ?_;rw [decide_eq_true (show 0<=(S:Int)∧(S:Int)<16 by omega)];rintro _ w2 ⟨rfl,hw⟩;replace hw:=hw.symm;subst hw)
     exact R
    ·rw [decide_eq_false hin] at hat
     have hE2:=hE.trans (congrArg Option.isSome (chg_ok (c:=Cg.cs ⟨S,da,dn,dc,db⟩) ⟨hk.1,hk.2,by simpa [Cg.cs] using hin⟩))
     have HE2:Hid ((chgAll d [] (l.map Cg.cs)).isSome=(chgAll (dj.set S db) (S::hd) ((l.map Cg.cs).drop (j+1))).isSome):=hE2
     have Hh2:Hid (((wr.setCell ⟨w.heap.size,S,none⟩ (.bool true)).alloc (.cells #[.int .i64 (S:Int),.slice da dn dc] 145)).heap[w.heap.size]?=some (.cells (bvals (hadR (S::hd))) 209 (0,0))):=by
      show _=_
      rw [heap_alloc_old _ _ (by simpa [World.setCell] using hbl),row_setT Hh.out S true,hadR_set hd hS16]
     have Hb3:Hid (Below w.heap.size w ((wr.setCell ⟨w.heap.size,S,none⟩ (.bool true)).alloc (.cells #[.int .i64 (S:Int),.slice da dn dc] 145))):=(HBe.out.setCell (p:=⟨w.heap.size,S,none⟩) (Nat.le_refl _) _).alloc (by have:=HBe.out.size;simpa [World.setCell] using this) _
     clear HP hE hE2 HBe Hb2 Hh hk hin
     go_wp2_with (go_at_call 66;refine (gknown_c (S:Int) _).mono ?_;rw [decide_eq_true (show 0<=(S:Int)∧(S:Int)<16 by omega)];rintro _ w2 ⟨rfl,hw⟩;replace hw:=hw.symm;subst hw)
     go_roundw
     case rel=>exact ⟨j+1,_,_,by omega,by go_num,Hh2,Hb3,HE2⟩
     case measure=>simp [intOf];omega
   ·have R:=HP.out false _ (by rw [hE,chg_bad (c:=Cg.cs ⟨s,da,dn,dc,db⟩) (fun h=>hk ⟨h.1,h.2.1⟩)];rfl) Hb2.out
    have dk:decide (0<=s∧s<16)=false:=decide_eq_false hk
    clear HP hE HBe Hb2 Hh
    go_wp2_with (go_at_call 66;refine (gknown_c s _).mono ?_;rw [dk];rintro _ w2 ⟨rfl,hw⟩;replace hw:=hw.symm;subst hw)
    exact R
  ·obtain rfl:j=n:=by omega
   have hge:¬ (j:Int)<(j:Int):=by omega
   have R:=HP.out true wr (by rw [HE.out,List.drop_of_length_le (by rw [List.length_map,Hn.out];exact Nat.le_refl _)];rfl) HBe.out
   clear HP HE HBe Hh
   go_wp2
   exact R
end
section
open Go.RowKit
def lvals (xs:List Nat):List Value:=xs.map fun (x:Nat)=>Value.int .i64 (x:Int)
def LRow (w:World) (b:Nat) (xs:List Nat):Prop:=w.heap[b]?=some (.cells (lvals xs).toArray 162 (0,0))
theorem LRow.lt {w:World} {b:Nat} {xs:List Nat} (H:LRow w b xs):b<w.heap.size:=(Array.getElem?_eq_some_iff.1 H).1
theorem LRow.on {w w':World} {b:Nat} {xs:List Nat} (H:LRow w b xs) (hb:Below w.heap.size w w'):LRow w' b xs:=(hb.block b H.lt).trans H
theorem LRow.at {w:World} {b:Nat} {xs:List Nat} (H:LRow w b xs) {i:Nat} (hi:i<xs.length):w.cell? ⟨b,i,none⟩=some (.int .i64 (xs[i]:Int)):=by
 rw [cell_of_row w b i _ 162 (0,0) H]
 simp [lvals,hi]
theorem LRow.free {w:World} {b:Nat} {xs:List Nat} (H:LRow w b xs) (i:Nat):w.frozen? ⟨b,i,none⟩=false:=frozen_of_row w _ _ _ 162 H
theorem LRow.set {w:World} {b:Nat} {xs:List Nat} (H:LRow w b xs) (i x:Nat):LRow (w.setCell ⟨b,i,none⟩ (.int .i64 (x:Int))) b (xs.set i x):=by
 unfold LRow
 rw [heap_setCell_same w b i _ 162 _ H]
 simp [lvals]
theorem size162:(Tryz.prog.info? 162).map (·.size)=some 16:=by kernel_rfl
theorem ix162 {xs:List Nat} (k:Nat) (hk:k<xs.length) (hn:xs.length=16) (w:World):(Instr.index 162 (.agg (lvals xs).toArray) (.int .i64 (k:Int))).run Tryz.prog w = .ok (.int .i64 (xs[k]:Int)) w:=by
 have hsz:(sizeOf 3).run Tryz.prog w = .ok 1 w:=by kernel_rfl
 have hk':k<16:=by omega
 have hg:(lvals xs)[k]?=some (.int .i64 (xs[k]:Int)):=by simp [lvals,hk]
 generalize lvals xs=Z at *
 simp [Instr.index,run_underlying Tryz.underlying162,asIntOf,Go.part,hsz,Sem.run_bind,hk',hg]
def slens (sl:List Sm):List Nat:=sl.map fun (s:Sm)=>s.b.length
theorem slens_len (sl:List Sm):(slens sl).length=sl.length:=by simp [slens]
theorem pad_set {α:Type} {L:List α} {z v:α} {j:Nat} (hn:L.length=16) (e:L[j]?=some v):(L.take j++List.replicate (16-j) z).set j v=L.take (j+1)++List.replicate (16-(j+1)) z:=by
 have hlt:j<L.length:=(List.getElem?_eq_some_iff.1 e).1
 apply List.ext_getElem?
 intro i
 have hlen:(L.take j++List.replicate (16-j) z).length=16:=by rw [List.length_append,List.length_take,List.length_replicate];omega
 rw [List.getElem?_set,hlen]
 by_cases h1:j=i
 ·subst h1
  rw [if_pos rfl,if_pos (by omega),List.getElem?_append_left (by rw [List.length_take];omega),List.getElem?_take,if_pos (by omega),e]
 ·rw [if_neg h1]
  by_cases h2:i<j
  ·rw [List.getElem?_append_left (by rw [List.length_take];omega),List.getElem?_append_left (by rw [List.length_take];omega),List.getElem?_take,List.getElem?_take,if_pos h2,if_pos (by omega)]
  ·rw [List.getElem?_append_right (by rw [List.length_take];omega),List.getElem?_append_right (by rw [List.length_take];omega),List.getElem?_replicate,List.getElem?_replicate]
   simp only [List.length_take]
   by_cases h3:i<16
   ·rw [if_pos (by omega),if_pos (by omega)]
   ·rw [if_neg (by omega),if_neg (by omega)]
set_option maxHeartbeats 1000000 in
theorem fits_c (g:Nat) (x z:Int) (sl:List Sm) (d':List (List Int)) (a:Option Addr) (n c:Nat) (l:List Cg) (w:World) (H:RB w g x z sl) (hsm:∀ s∈sl,s.b.length<=2000) (hC:CgsAt w a l) (hn:l.length=n) (hM:n<=maxLen) (hd:chgAll (sl.map Sm.b) [] (l.map Cg.cs)=some d') :
  Calls Tryz.prog 98 #[.pointer (some ⟨g,0,none⟩),.slice a n c] w fun e w'=>e = .returned (.bool (decide (2+needAll d'<=40)))∧Below w.heap.size w w':=by
 obtain ⟨Post,hPost⟩:∃ Post:Ending->World->Prop,Post=fun e w'=>e = .returned (.bool (decide (2+needAll d'<=40)))∧Below w.heap.size w w':=⟨_,rfl⟩
 rw [<- hPost]
 have HP:Hid (∀ b w',decide (2+needAll d'<=40)=b->Below w.heap.size w w'->Post (.returned (.bool b)) w'):=fun b w' h1 h2=>by rw [hPost];exact ⟨by rw [h1],h2⟩
 clear hPost
 have HB:Hid (RB w g x z sl):=H
 have Hsm:Hid (∀ s∈sl,s.b.length<=2000):=hsm
 have HC:Hid (CgsAt w a l):=hC
 have Hn:Hid (l.length=n):=hn
 have Hd:Hid (chgAll (sl.map Sm.b) [] (l.map Cg.cs)=some d'):=hd
 have hM':n<=9223372036854775807:=by unfold maxLen at hM;omega
 obtain ⟨Z,hZ⟩:∃ Z,Z=smvs sl:=⟨_,rfl⟩
 have HZ:Hid (Z=smvs sl):=hZ
 clear H hsm hC hn hM hd hZ
 have Hb1:Hid (Below w.heap.size w (w.alloc (.cells (lvals (List.replicate 16 0)).toArray 162))):=(Below.refl _ _).alloc (Nat.le_refl _) _
 have Hh1:Hid (LRow (w.alloc (.cells (lvals (List.replicate 16 0)).toArray 162)) w.heap.size (List.replicate 16 0)):=heap_alloc_new w _
 have HB1:Hid (RB (w.alloc (.cells (lvals (List.replicate 16 0)).toArray 162)) g x z sl):=HB.out.on Hb1.out
 have e16:(lvals (List.replicate 16 0)).toArray = #[.int .i64 0,.int .i64 0,.int .i64 0,.int .i64 0,.int .i64 0,.int .i64 0,.int .i64 0,.int .i64 0,.int .i64 0,.int .i64 0,.int .i64 0,.int .i64 0,.int .i64 0,.int .i64 0,.int .i64 0,.int .i64 0]:=by rfl
 rw [e16] at Hb1 Hh1 HB1
 go_enter Tryz.func98,Tryz.ntmps98
 go_wp2_with (refine wpList_load_mid rfl 132 (.tmp 15) rfl g 2 rfl Z _ (by rw [HZ.out];exact HB1.out.range) Tryz.underlying132 rfl (by rw [HZ.out,smvs_len,HB1.out.n];exact size132) ?_)
 generalize w.alloc (.cells #[.int .i64 0,.int .i64 0,.int .i64 0,.int .i64 0,.int .i64 0,.int .i64 0,.int .i64 0,.int .i64 0,.int .i64 0,.int .i64 0,.int .i64 0,.int .i64 0,.int .i64 0,.int .i64 0,.int .i64 0,.int .i64 0] 162)=w1 at *
 clear e16 HB
 go_loopw [17] (fun v wr=>∃ (j:Nat),j<=16∧v = .int .i64 (j:Int)∧Hid (LRow wr w.heap.size ((slens sl).take j++List.replicate (16-j) 0))∧Hid (Below w.heap.size w wr)) (fun v _=>16-(intOf v).toNat)
 case atStart=>exact ⟨0,Nat.zero_le _,by go_num,(show LRow _ _ _ by simpa using Hh1.out),Hb1.out⟩
 case round =>
  clear Hh1 Hb1
  obtain ⟨j,hj,rfl,HL,HBe⟩:=hrel
  have hn16:=HB1.out.n
  by_cases hlt:j<16
  ·have hlt':(j:Int)<16:=by omega
   have hjl:j<sl.length:=by omega
   have hix:=ix132 j hjl hn16
   rw [<- HZ.out] at hix
   have hlen:((slens sl).take j++List.replicate (16-j) 0).length=16:=by rw [List.length_append,List.length_take,slens_len,List.length_replicate];omega
   have q0:=HL.out.at (i:=j) (by omega)
   have f0:=HL.out.free j
   have hbl:=HL.out.lt
   have HN:Hid (((slens sl).take j++List.replicate (16-j) 0).set j sl[j].b.length=(slens sl).take (j+1)++List.replicate (16-(j+1)) 0):=by
    have e:(slens sl)[j]?=some sl[j].b.length:=by unfold slens;rw [List.getElem?_map,List.getElem?_eq_getElem hjl];rfl
    exact pad_set (by rw [slens_len];exact hn16) e
   have HL2:=HL.out.set j sl[j].b.length
   rw [HN.out] at HL2
   generalize sl[j].f=F at *
   generalize sl[j].m=M at *
   generalize sl[j].a=A at *
   generalize sl[j].b.length=N at *
   generalize sl[j].c=C at *
   generalize ((slens sl).take j++List.replicate (16-j) 0)[j]=o0 at *
   have HL3:Hid (LRow ((wr.setCell ⟨w.heap.size,j,none⟩ (.int .i64 (N:Int))).alloc (.cells #[.int .i64 (F:Int),.int .i64 (M:Int),.slice A N C] 131)) w.heap.size ((slens sl).take (j+1)++List.replicate (16-(j+1)) 0)):=HL2.on ((Below.refl _ _).alloc (Nat.le_refl _) _)
   have HB3:Hid (Below w.heap.size w ((wr.setCell ⟨w.heap.size,j,none⟩ (.int .i64 (N:Int))).alloc (.cells #[.int .i64 (F:Int),.int .i64 (M:Int),.slice A N C] 131))):=(HBe.out.setCell (p:=⟨w.heap.size,j,none⟩) (Nat.le_refl _) _).alloc (by have:=HBe.out.size;simpa [World.setCell] using this) _
   have hwl:w.heap.size≠wr.heap.size:=by omega
   clear hlen HN HL HL2 HBe HP
   go_wp2
   go_roundw
   case rel=>exact ⟨j+1,by omega,by go_num,HL3,HB3⟩
   case measure=>simp [intOf];omega
  ·obtain rfl:j=16:=by omega
   have hge:¬ ((16:Nat):Int)<16:=by omega
   have HL1:Hid (LRow wr w.heap.size ((sl.map Sm.b).map List.length)):=by
    have:=HL.out
    rw [Nat.sub_self,List.replicate_zero,List.append_nil,List.take_of_length_le (by rw [slens_len];omega)] at this
    show LRow _ _ _
    rw [List.map_map]
    exact this
   have Hbs:Hid (∀ b∈sl.map Sm.b,b.length<=140737488351232):=fun b hb=>by
    obtain ⟨s,hs,rfl⟩:=List.mem_map.1 hb
    have:=Hsm.out s hs
    omega
   have Hdl:Hid ((sl.map Sm.b).length=16):=by show _=_;rw [List.length_map];exact hn16
   obtain ⟨d0,hd0⟩:∃ d0,d0=sl.map Sm.b:=⟨_,rfl⟩
   rw [<- hd0] at HL1 Hbs Hd Hdl
   clear HL hd0 HB1 Hsm HZ
   go_wp2_with fail
   obtain ⟨wq,hwq⟩:∃ wq,wq=wr:=⟨_,rfl⟩
   subst hwq
   go_loopw [29] (fun v wr=>∃ (j:Nat) (dj:List (List Int)) (hd:List Nat),j<=n∧v = .int .i64 (j:Int)∧Hid (LRow wr w.heap.size (dj.map List.length))∧Hid (Below w.heap.size w wr)∧Hid (chgAll dj hd ((l.map Cg.cs).drop j)=some d')∧Hid (dj.length=16)∧Hid (∀ b∈dj,b.length<=140737488351232)) (fun v _=>n-(intOf v).toNat)
   case atStart=>exact ⟨0,d0,[],Nat.zero_le _,by go_num,HL1,HBe,Hd,Hdl,Hbs⟩
   case round =>
    clear HL1 HBe Hd Hdl Hbs
    obtain ⟨j,dj,hd,hj,rfl,HL,HBe,HE,Hdl,Hbs⟩:=hrel
    by_cases hlt:j<n
    ·have hlt':(j:Int)<(n:Int):=by omega
     have hjl:j<l.length:=by rw [Hn.out];exact hlt
     obtain ⟨cb,co,rfl,hc⟩:=(HC.out.on HBe.out) j hjl
     have hdr:(l.map Cg.cs).drop j=l[j].cs::(l.map Cg.cs).drop (j+1):=by
      rw [List.drop_eq_getElem_cons (by rw [List.length_map];exact hjl),List.getElem_map]
     have hE:=HE.out
     rw [hdr] at hE
     obtain ⟨⟨s,da,dn,dc,db⟩,hci⟩:∃ c,l[j]=c:=⟨_,rfl⟩
     rw [hci] at hc hE
     have c0:=hc.c0
     have c1:=hc.c1
     have hdn:db.length=dn:=hc.by_.n
     have hsz:dn<=140737488351232:=hc.sz
     simp only at c0 c1
     have hok:0<=s∧s<16∧s.toNat∉hd:=by
      by_cases h:0<=s∧s<16∧s.toNat∉hd
      ·exact h
      ·rw [chg_bad (c:=Cg.cs ⟨s,da,dn,dc,db⟩) h] at hE
       cases hE
     rw [chg_ok (c:=Cg.cs ⟨s,da,dn,dc,db⟩) hok] at hE
     obtain ⟨S,rfl⟩:=Int.eq_ofNat_of_zero_le hok.1
     have hS16:S<16:=by omega
     have hS':(S:Int)<16:=by omega
     have HE2:Hid (chgAll (dj.set S db) (S::hd) ((l.map Cg.cs).drop (j+1))=some d'):=hE
     have q0:=HL.out.at (i:=S) (by rw [List.length_map,Hdl.out];exact hS16)
     have f0:=HL.out.free S
     have hbl:=HL.out.lt
     have hwl:w.heap.size≠wr.heap.size:=by omega
     have HL2:=HL.out.set S dn
     have e1:(dj.map List.length).set S dn=(dj.set S db).map List.length:=by rw [List.map_set,hdn]
     rw [e1] at HL2
     have HL3:Hid (LRow ((wr.setCell ⟨w.heap.size,S,none⟩ (.int .i64 (dn:Int))).alloc (.cells #[.int .i64 (S:Int),.slice da dn dc] 145)) w.heap.size ((dj.set S db).map List.length)):=HL2.on ((Below.refl _ _).alloc (Nat.le_refl _) _)
     have HB3:Hid (Below w.heap.size w ((wr.setCell ⟨w.heap.size,S,none⟩ (.int .i64 (dn:Int))).alloc (.cells #[.int .i64 (S:Int),.slice da dn dc] 145))):=(HBe.out.setCell (p:=⟨w.heap.size,S,none⟩) (Nat.le_refl _) _).alloc (by have:=HBe.out.size;simpa [World.setCell] using this) _
     have Hdl2:Hid ((dj.set S db).length=16):=by show _=_;rw [List.length_set];exact Hdl.out
     have Hbs2:Hid (∀ b∈dj.set S db,b.length<=140737488351232):=fun b hb=>by
      rcases List.mem_or_eq_of_mem_set hb with h | h
      ·exact Hbs.out b h
      ·rw [h,hdn];exact hsz
     generalize (dj.map List.length)[S]'(by rw [List.length_map,Hdl.out];exact hS16)=o0 at *
     clear HP hE HBe HL HL2 e1 hok hc hdr hci HE Hdl Hbs hdn
     go_wp2
     go_roundw
     case rel=>exact ⟨j+1,_,_,by omega,by go_num,HL3,HB3,HE2,Hdl2,Hbs2⟩
     case measure=>simp [intOf];omega
    ·obtain rfl:j=n:=by omega
     have hge:¬ (j:Int)<(j:Int):=by omega
     have hE:=HE.out
     rw [List.drop_of_length_le (by rw [List.length_map,Hn.out];exact Nat.le_refl _)] at hE
     obtain rfl:dj=d':=Option.some.inj hE
     clear HE hE HC Hn
     obtain ⟨Y,hY⟩:∃ Y,Y=(lvals (dj.map List.length)).toArray:=⟨_,rfl⟩
     have HY:Hid (Y=(lvals (dj.map List.length)).toArray):=hY
     have HLw:Hid (wr.heap[w.heap.size]?=some (.cells Y 162 (0,0))):=by show _=_;rw [hY];exact HL.out
     have Hys:Hid (Y.size=16):=by show _=_;rw [hY];simp [lvals];exact Hdl.out
     clear hY HL
     go_wp2_with (refine wpList_load_row rfl 162 (.tmp 5) rfl w.heap.size rfl 162 Y (0,0) _ HLw.out Tryz.underlying162 rfl (by rw [Hys.out];exact size162) ?_)
     have HPb:Hid (decide (2+needAll dj<=40)=true->Post (.returned (.bool true)) wr):=fun h=>HP.out true wr h HBe.out
     have HPn:Hid (decide (2+needAll dj<=40)=false->Post (.returned (.bool false)) wr):=fun h=>HP.out false wr h HBe.out
     obtain ⟨wp,hwp⟩:∃ wp,wp=wr:=⟨_,rfl⟩
     subst hwp
     clear HLw HP HBe
     go_loopw [10,41] (fun u v wr=>∃ (j q:Nat),j<=16∧v = .int .i64 (j:Int)∧u = .int .i64 (q:Int)∧q<=2+j*4398046511104∧wr=wp∧Hid (q=2+((dj.take j).map fun (b:List Int)=>needS b.length).sum)) (fun _ v _=>16-(intOf v).toNat)
     case atStart=>exact ⟨0,2,Nat.zero_le _,by go_num,by go_num,by omega,rfl,rfl⟩
     case round =>
      obtain ⟨i,q,hi,rfl,rfl,hq,rfl,HQ⟩:=hrel
      by_cases hlt:i<16
      ·have hlt':(i:Int)<16:=by omega
       have hil:i<dj.length:=by rw [Hdl.out];exact hlt
       have hix:=ix162 (xs:=dj.map List.length) i (by rw [List.length_map];exact hil) (by rw [List.length_map];exact Hdl.out)
       rw [<- HY.out,List.getElem_map] at hix
       have hb:=Hbs.out dj[i] (List.getElem_mem _)
       have HQ2:Hid (q+needS dj[i].length=2+((dj.take (i+1)).map fun (b:List Int)=>needS b.length).sum):=by
        show _=_
        rw [List.take_succ_eq_append_getElem hil,List.map_append,List.sum_append,HQ.out]
        simp [Nat.add_assoc]
       generalize dj[i].length=N at *
       have hneed:needS N<=4398046511104:=by unfold needS;omega
       clear HPb HPn HQ
       go_wp2_with fail
       refine (need_n N (by omega) wr).mono ?_
       rintro _ w3 ⟨rfl,hw⟩
       replace hw:=hw.symm
       subst hw
       generalize needS N=R at *
       have hq3:q+R<=2+(i+1)*4398046511104:=by omega
       have hqb:(q:Int)+(R:Int)<=1000000000000000:=by omega
       go_wp2
       go_roundw
       case rel=>exact ⟨i+1,q+R,by omega,by go_num,by go_num,hq3,trivial,HQ2⟩
       case measure=>simp [intOf];omega
      ·obtain rfl:i=16:=by omega
       have hge2:¬ ((16:Nat):Int)<16:=by omega
       have hQ:=HQ.out
       rw [List.take_of_length_le (by rw [Hdl.out];exact Nat.le_refl _)] at hQ
       change q=2+needAll dj at hQ
       by_cases hle:q<=40
       ·have hle':(q:Int)<=40:=by omega
        have R:=HPb.out (decide_eq_true (by omega))
        clear HPb HPn HQ hQ
        go_wp2
        exact R
       ·have hle':¬ (q:Int)<=40:=by omega
        have R:=HPn.out (decide_eq_false (by omega))
        clear HPb HPn HQ hQ
        go_wp2
        exact R
end
section
open Go.RowKit
theorem step_bytes_any {w:World} {ops:Array Oper} {o:Oper} {a:Act} {K:Act->World->Prop} {Q:Exit->Act->World->Prop} {E:Prop} (hgd:o.guard=none) (x:Operand)
  (ho:o.op = .call { callee:=.builtin .append,args := #[.const (.slice none 0 0),x],argTypes := #[61,61] }) (sp:Option Addr) (m sc:Nat) (xs:List Int) (hx:a.eval x = .slice sp m sc) (hX:Bytes w sp m xs) (hnil:sp=none->sc=0) (hle:m<=reachBytes)
  (h:∀ p cp w',Own w' w.heap.size p cp xs->Below w.heap.size w w'->K (a.put o.dst (.slice p m cp)) w') :
  if Region.wanted o (yielded ops a.tmps)=true then Oper.wp Tryz.prog o a w K Q else E:=by
 have hw:Region.wanted o (yielded ops a.tmps)=true:=by simp [Region.wanted,hgd]
 rw [if_pos hw]
 have hm:=hX.n
 obtain ⟨i,hi,hz0,hz1,hz2⟩:=info_parts Tryz.info5
 unfold reachBytes at hle
 cases sp with
 | none =>
   obtain rfl:=hnil rfl
   have hxs:xs=[]:=by
    rcases hX.cells with e | ⟨b,off,e,_⟩
    ·exact e
    ·cases e
   subst hxs
   simp at hm
   subst hm
   have hrun:=run_append_owned_none (P:=Tryz.prog) (w:=w) 0 61 o.type 5 i 1 Tryz.underlying61 hi (.slice none 0 0) 0 [] (World.ownsRow_nil _ _ _ _)
   have hev:a.eval (.const (.slice none 0 0)) = .slice none 0 0:=rfl
   unfold Oper.wp
   simp [execOp,ho,resolve,invoke,builtin,hx,hev,hrun,Result.andThen]
   exact h none 0 w (Own.nil _ _) (Below.refl _ _)
 | some ad =>
   refine wp_append_own w (.const (.slice none 0 0)) x 61 ho w.heap.size 5 i (.int .u8 0) 1 1 Tryz.underlying61 hi hz0 hz1 hz2 rfl (by decide) (.slice none 0 0) 0 [] rfl (World.ownsRow_nil _ _ _ _) ad m sc (xs.map (Value.int .u8)) hx (by simpa using hm) ?_ (ints_oneCell _ _) (by unfold maxLen;omega) (by omega) (Nat.le_refl _) ?_
   ·intro j u hj
    obtain ⟨hj',hv⟩:=List.getElem?_eq_some_iff.1 hj
    rw [List.length_map] at hj'
    rcases hX.cells with e | ⟨b,off,e,hc⟩
    ·subst e;simp at hj'
    ·obtain rfl:=Option.some.inj e
     rw [Addr.add_lit,hc j hj',<- hv]
     simp
   ·intro v' w' h1 h2 _
    have hb':Below w.heap.size w w':=(Below.refl _ _).grown h2 (Nat.le_refl _) (fun k hk=>by cases hk)
    have e:∃ a' c',v' = .slice a' (0+m) c':=by
     rcases h1.2 with ⟨hv,hn⟩|⟨g,cap,_,hv,_⟩
     ·exact ⟨none,0,by rw [hv,hn]⟩
     ·exact ⟨_,_,hv⟩
    obtain ⟨a',c',rfl⟩:=e
    have:=h a' c' w' (by unfold Own;rw [hm];simpa using h1) hb'
    simpa using this
theorem only3 (w:World) (g o:Nat) (a b c:Value) (k:Nat) (hk:k≠g):(w.setCells g o [a,b,c]).heap[k]?=w.heap[k]?:=by
 show (((w.setCell ⟨g,o,none⟩ a).setCell ⟨g,o+1,none⟩ b).setCell ⟨g,o+1+1,none⟩ c).heap[k]?=_
 rw [Below.heap_setCell _ ⟨g,o+1+1,none⟩ _ k hk,Below.heap_setCell _ ⟨g,o+1,none⟩ _ k hk,Below.heap_setCell _ ⟨g,o,none⟩ _ k hk]
theorem only_set3 (w:World) (g o:Nat) (a b c:Value):Only g w (w.setCells g o [a,b,c]):=((Only.refl g w).set o a).set (o+1) b |>.set (o+1+1) c
theorem RB.set3 {w:World} {g:Nat} {x z:Int} {l:List Sm} (H:RB w g x z l) (k:Nat) (p:Option Addr) (cp:Nat) (b:List Int) (n:Nat) (hn:b.length=n) (hk:k<l.length):RB (w.setCells g (2+k*3) [.int .i64 0,.int .i64 0,.slice p n cp]) g x z (l.set k ⟨0,0,p,cp,b⟩):=by
 show RB (((w.setCell ⟨g,2+k*3,none⟩ (.int .i64 0)).setCell ⟨g,2+k*3+1,none⟩ (.int .i64 0)).setCell ⟨g,2+k*3+1+1,none⟩ (.slice p n cp)) g x z _
 subst hn
 have h1:=H.setAt k 0 0 hk
 have h2:=h1.setDat k p cp b (by rw [List.length_set];exact hk)
 rw [List.set_set,List.getElem_set_self] at h2
 exact h2
def New (B:Nat) (s:Sm):Prop:=s.f=0∧s.m=0∧∀ ad,s.a=some ad->B<=ad.block
structure Wi (w:World) (g:Nat) (x z:Int) (sl:List Sm) (d':List (List Int)) (L:List Cs) (j:Nat) (wr:World):Prop where
 it:∃ slj hd,RB wr g x z slj∧(∀ s∈slj,Dt wr s)∧chgAll (slj.map Sm.b) hd (L.drop j)=some d'∧∀ k (h:k<slj.length) (h':k<sl.length),slj[k]=sl[k]∨New w.heap.size slj[k]
 bel:Below w.heap.size w wr
set_option maxHeartbeats 1000000 in
theorem with_c (g:Nat) (x z:Int) (sl:List Sm) (d':List (List Int)) (a:Option Addr) (n c:Nat) (l:List Cg) (w:World) (H:RB w g x z sl) (hD:∀ s∈sl,Dt w s) (hC:CgsAt w a l) (hn:l.length=n) (hM:n<=maxLen) (hd:chgAll (sl.map Sm.b) [] (l.map Cg.cs)=some d') :
  Calls Tryz.prog 99 #[.pointer (some ⟨g,0,none⟩),.slice a n c] w fun e w'=>Below w.heap.size w w'∧e = .returned (.pointer (some ⟨w.heap.size,0,none⟩))∧∃ sl',RB w' w.heap.size x z sl'∧(∀ s∈sl',Dt w' s)∧sl'.map Sm.b=d'∧∀ k (h:k<sl'.length) (h':k<sl.length),sl'[k]=sl[k]∨New w.heap.size sl'[k]:=by
 obtain ⟨Post,hPost⟩:∃ Post:Ending->World->Prop,Post=fun e w'=>Below w.heap.size w w'∧e = .returned (.pointer (some ⟨w.heap.size,0,none⟩))∧∃ sl',RB w' w.heap.size x z sl'∧(∀ s∈sl',Dt w' s)∧sl'.map Sm.b=d'∧∀ k (h:k<sl'.length) (h':k<sl.length),sl'[k]=sl[k]∨New w.heap.size sl'[k]:=⟨_,rfl⟩
 rw [<- hPost]
 have HP:Hid (∀ w',Wi w w.heap.size x z sl d' (l.map Cg.cs) n w'->Post (.returned (.pointer (some ⟨w.heap.size,0,none⟩))) w'):=fun w' h=>by
  obtain ⟨slj,hd,h1,h2,h3,h4⟩:=h.it
  rw [List.drop_of_length_le (by rw [List.length_map,hn];exact Nat.le_refl _)] at h3
  rw [hPost]
  exact ⟨h.bel,rfl,slj,h1,h2,Option.some.inj h3,h4⟩
 clear hPost
 have HB:Hid (RB w g x z sl):=H
 have HD:Hid (∀ s∈sl,Dt w s):=hD
 have HC:Hid (CgsAt w a l):=hC
 have Hn:Hid (l.length=n):=hn
 have Hd:Hid (chgAll (sl.map Sm.b) [] (l.map Cg.cs)=some d'):=hd
 have hM':n<=9223372036854775807:=by unfold maxLen at hM;omega
 obtain ⟨Z,hZ⟩:∃ Z,Z=(rgv x z sl).toArray:=⟨_,rfl⟩
 have HZ:Hid (Z=(rgv x z sl).toArray):=hZ
 have Hz1:Hid (Z.size=50):=by show _=_;rw [hZ];exact rgv_size H.n x z
 have Hz2:Hid (Z.all (·.oneCell')=true):=by show _=_;rw [hZ];exact rgv_one x z sl
 have Hz3:Hid (w.heap[g]?=some (.cells Z 134 (0,0))):=by show _=_;rw [hZ];exact H.head
 clear H hD hC hn hM hd hZ
 go_enter Tryz.func99,Tryz.ntmps99
 go_wp2_with (first
  | (refine wpList_load_row rfl 134 (.tmp 9) rfl g rfl 134 Z (0,0) _ Hz3.out Tryz.underlying134 rfl (by rw [Hz1.out];exact size134) ?_)
  | (refine wpList_store_row rfl 134 (.tmp 5) (.tmp 10) rfl w.heap.size Z rfl rfl 134 _ (heap_alloc_new w _) (by rw [Hz1.out];exact size134) (by rw [Hz1.out];rfl) Hz2.out ?_))
 generalize hO0:(w.alloc _).setRow w.heap.size Z=w1
 have hal:w1.heap[w.heap.size]?=some (.cells Z 134 (0,0)):=by rw [<- hO0];exact setRow_heap _ w.heap.size _ Z 134 (0,0) (heap_alloc_new w _)
 have hbe:Below w.heap.size w w1:=by rw [<- hO0];exact below_setRow ((Below.refl _ _).alloc (Nat.le_refl _) _) (Nat.le_refl _)
 have HW0:Hid (Wi w w.heap.size x z sl d' (l.map Cg.cs) 0 w1):=⟨⟨sl,[],⟨by rw [hal,HZ.out],HB.out.n⟩,fun s hs=>(HD.out s hs).on hbe,Hd.out,fun k h h'=>.inl rfl⟩,hbe⟩
 clear hO0 hal hbe HB HD Hd HZ Hz1 Hz2 Hz3
 go_loopw [13] (fun v wr=>∃ (j:Nat),j<=n∧v = .int .i64 (j:Int)∧Hid (Wi w w.heap.size x z sl d' (l.map Cg.cs) j wr)) (fun v _=>n-(intOf v).toNat)
 case atStart=>exact ⟨0,Nat.zero_le _,by go_num,HW0⟩
 case round =>
  clear HW0
  obtain ⟨j,hj,rfl,HW⟩:=hrel
  by_cases hlt:j<n
  ·have hlt':(j:Int)<(n:Int):=by omega
   have hjl:j<l.length:=by rw [Hn.out];exact hlt
   obtain ⟨slj,hd,hB0,hD0,hE,hrl⟩:=HW.out.it
   have hbel:=HW.out.bel
   obtain ⟨cb,co,rfl,hc⟩:=(HC.out.on hbel) j hjl
   have hdr:(l.map Cg.cs).drop j=l[j].cs::(l.map Cg.cs).drop (j+1):=by
    rw [List.drop_eq_getElem_cons (by rw [List.length_map];exact hjl),List.getElem_map]
   rw [hdr] at hE
   obtain ⟨⟨s,da,dn,dc,db⟩,hci⟩:∃ c,l[j]=c:=⟨_,rfl⟩
   rw [hci] at hc hE
   have c0:=hc.c0
   have c1:=hc.c1
   have hdn:db.length=dn:=hc.by_.n
   have hsz:dn<=140737488351232:=hc.sz
   simp only at c0 c1
   have hok:0<=s∧s<16∧s.toNat∉hd:=by
    by_cases h:0<=s∧s<16∧s.toNat∉hd
    ·exact h
    ·rw [chg_bad (c:=Cg.cs ⟨s,da,dn,dc,db⟩) h] at hE
     cases hE
   rw [chg_ok (c:=Cg.cs ⟨s,da,dn,dc,db⟩) hok] at hE
   obtain ⟨S,rfl⟩:=Int.eq_ofNat_of_zero_le hok.1
   have hS16:S<16:=by omega
   have hS':(S:Int)<16:=by omega
   have hszr:dn<=reachBytes:=by unfold reachBytes;omega
   have hb2:Below wr.heap.size wr (wr.alloc (.cells #[.int .i64 (S:Int),.slice da dn dc] 145)):=(Below.refl _ _).alloc (Nat.le_refl _) _
   have HBw:Hid (RB (wr.alloc (.cells #[.int .i64 (S:Int),.slice da dn dc] 145)) w.heap.size x z slj):=hB0.on hb2
   have HDw:Hid (∀ s∈slj,Dt (wr.alloc (.cells #[.int .i64 (S:Int),.slice da dn dc] 145)) s):=fun s hs=>(hD0 s hs).on hb2
   have HDd:Hid (Bytes (wr.alloc (.cells #[.int .i64 (S:Int),.slice da dn dc] 145)) da dn db):=hc.by_.on hb2
   have Hnil:Hid (da=none->dc=0):=hc.nil
   have HBe:Hid (Below w.heap.size w (wr.alloc (.cells #[.int .i64 (S:Int),.slice da dn dc] 145))):=hbel.alloc hbel.size _
   have hnb:=heap_alloc_new wr (.cells #[.int .i64 (S:Int),.slice da dn dc] 145)
   have hb0:(wr.alloc (.cells #[.int .i64 (S:Int),.slice da dn dc] 145)).cell? ⟨wr.heap.size,0,none⟩=some (.int .i64 (S:Int)):=by rw [cell_of_row _ _ _ _ 145 (0,0) hnb];rfl
   have hb1:(wr.alloc (.cells #[.int .i64 (S:Int),.slice da dn dc] 145)).cell? ⟨wr.heap.size,1,none⟩=some (.slice da dn dc):=by rw [cell_of_row _ _ _ _ 145 (0,0) hnb];rfl
   have hg2:=hB0.lt
   have hbg:w.heap.size≠wr.heap.size:=by omega
   have Hfin:Hid (∀ vb p cp,RB vb w.heap.size x z slj->(∀ s∈slj,Dt vb s)->Below w.heap.size w vb->Own vb (wr.alloc (.cells #[.int .i64 (S:Int),.slice da dn dc] 145)).heap.size p cp db->Wi w w.heap.size x z sl d' (l.map Cg.cs) (j+1) (vb.setCells w.heap.size (2+S*3) [.int .i64 0,.int .i64 0,.slice p dn cp])):=fun vb p cp h1 h2 h3 h4=>by
    have hsl:S<slj.length:=by rw [h1.n];exact hS16
    have hO:Only w.heap.size vb (vb.setCells w.heap.size (2+S*3) [.int .i64 0,.int .i64 0,.slice p dn cp]):=only_set3 _ _ _ _ _ _
    have hDn:Dt (vb.setCells w.heap.size (2+S*3) [.int .i64 0,.int .i64 0,.slice p dn cp]) ⟨0,0,p,cp,db⟩:=by
     have hby:=h4.bytes hc.by_.fit dn hdn
     refine ⟨?_,fun e=>?_,?_⟩
     ·have:=bytes_away h1 hby _ hO
      simp only
      rw [hdn]
      exact this
     ·rcases h4.parts with ⟨_,h,_⟩|⟨g,e2,_⟩
      ·exact h
      ·simp only at e;rw [e] at e2;cases e2
     ·rcases h4.parts with ⟨_,h,e⟩|⟨g,e2,_,_,_,_,h⟩
      ·simp only;rw [e];simp
      ·exact h
    refine ⟨⟨slj.set S ⟨0,0,p,cp,db⟩,S::hd,h1.set3 S p cp db dn hdn hsl,fun s hs=>?_,?_,fun k h h'=>?_⟩,?_⟩
    ·rcases List.mem_or_eq_of_mem_set hs with h | h
     ·obtain ⟨q1,q2,q3⟩:=h2 s h
      exact ⟨bytes_away h1 q1 _ hO,q2,q3⟩
     ·rw [h];exact hDn
    ·rw [List.map_set];exact hE
    ·rw [List.length_set] at h
     by_cases e:S=k
     ·subst e
      rw [List.getElem_set_self]
      refine .inr ⟨rfl,rfl,fun ad hA=>?_⟩
      simp only at hA
      rcases h4.parts with ⟨e2,_⟩|⟨g,e2,hg,_⟩
      ·rw [e2] at hA;cases hA
      ·rw [e2] at hA
       cases hA
       have:=HBe.out.size
       simp only
       omega
     ·rw [List.getElem_set_ne e]
      exact hrl k h h'
    ·exact h3.trans (hO.below (Nat.le_refl _))
   clear HP HW hE hok hdr hci hnb hb2 hB0 hD0 hrl hc HC hbel
   go_wp2_with fail
   obtain ⟨bx,hbx⟩:∃ bx,bx=wr.heap.size:=⟨_,rfl⟩
   obtain ⟨g2,hg2e⟩:∃ g2,g2=w.heap.size:=⟨_,rfl⟩
   rw [<- hbx] at hb0 hb1 hbg ⊢
   rw [<- hg2e] at HBw hbg Hfin ⊢
   have Hg2:Hid (g2=w.heap.size):=hg2e
   clear hbx hg2e hg2
   generalize wr.alloc (.cells #[.int .i64 (S:Int),.slice da dn dc] 145)=wb at *
   refine region_L (fun w':World=>w'.cell? ⟨bx,0,none⟩=some (.int .i64 (S:Int))∧w'.cell? ⟨bx,1,none⟩=some (.slice da dn dc)) 9 (by kernel_rfl) ?_
   have HBa:Hid (RB wb.drew g2 x z slj):=HBw.out.keep rfl
   have HDs:Hid (∀ s∈slj,Dt wb.drew s):=fun s hs=>⟨⟨(HDw.out s hs).by_.n,(HDw.out s hs).by_.cells,(HDw.out s hs).by_.fit⟩,(HDw.out s hs).nil,(HDw.out s hs).cap⟩
   have HDa:Hid (Bytes wb.drew da dn db):=⟨HDd.out.n,HDd.out.cells,HDd.out.fit⟩
   have Hba:Hid (Below w.heap.size w wb.drew):=⟨HBe.out.os,HBe.out.tape,HBe.out.output,HBe.out.size,HBe.out.block⟩
   have hca:wb.drew.cell? ⟨bx,0,none⟩=some (.int .i64 (S:Int))∧wb.drew.cell? ⟨bx,1,none⟩=some (.slice da dn dc):=⟨hb0,hb1⟩
   have Hsz:Hid (wb.heap.size=wb.drew.heap.size):=rfl
   rw [Hsz.out] at Hfin
   clear HBw HDw HDd HBe hb0 hb1 Hsz
   generalize wb.drew=va at *
   have hHeld:(fun w':World=>w'.cell? ⟨bx,0,none⟩=some (.int .i64 (S:Int))∧w'.cell? ⟨bx,1,none⟩=some (.slice da dn dc)) _:=hca
   have hne:Nonempty (Sub (fun w':World=>w'.cell? ⟨bx,0,none⟩=some (.int .i64 (S:Int))∧w'.cell? ⟨bx,1,none⟩=some (.slice da dn dc))):=⟨⟨_,hHeld⟩⟩
   have k0:∀ s:Sub (fun w':World=>w'.cell? ⟨bx,0,none⟩=some (.int .i64 (S:Int))∧w'.cell? ⟨bx,1,none⟩=some (.slice da dn dc)),s.w.cell? ⟨bx,0,none⟩=some (.int .i64 (S:Int)):=fun s=>s.ok.1
   have k1:∀ s:Sub (fun w':World=>w'.cell? ⟨bx,0,none⟩=some (.int .i64 (S:Int))∧w'.cell? ⟨bx,1,none⟩=some (.slice da dn dc)),s.w.cell? ⟨bx,1,none⟩=some (.slice da dn dc):=fun s=>s.ok.2
   refine tn 0 rfl (fun _ _ _ _ h=>h) hHeld fun K hK=>?_;go_simp;refine hK _ ?_;clear hK K
   refine tn 1 rfl (fun _ _ _ _ h=>h) hHeld fun K hK=>?_;go_simp;refine hK _ ?_;clear hK K
   refine tn 2 rfl (fun _ _ _ _ h=>h) hHeld fun K hK=>?_;go_simp;refine hK _ ?_;clear hK K
   refine tn 3 rfl (fun _ _ _ _ h=>h) hHeld fun K hK=>?_;go_simp;refine hK _ ?_;clear hK K
   refine tn 6 rfl (fun _ _ _ _ h=>h) hHeld fun K hK=>?_;go_simp;refine hK _ ?_;clear hK K
   refine ol 4 rfl fun K hK=>?_
   refine step_bytes_any rfl (.tmp 20) rfl da dn dc db rfl HDa.out Hnil.out hszr ?_
   intro p cp vb hOw hbv
   have HBb:Hid (RB vb g2 x z slj):=HBa.out.on hbv
   have HDb:Hid (∀ s∈slj,Dt vb s):=fun s hs=>(HDs.out s hs).on hbv
   have Hbb:Hid (Below w.heap.size w vb):=Hba.out.trans (hbv.mono Hba.out.size)
   have HOw:Hid (Own vb va.heap.size p cp db):=hOw
   clear hOw
   replace hHeld:(fun w':World=>w'.cell? ⟨bx,0,none⟩=some (.int .i64 (S:Int))∧w'.cell? ⟨bx,1,none⟩=some (.slice da dn dc)) _:=⟨cell_below hHeld.1 hbv,cell_below hHeld.2 hbv⟩
   refine hK.out _ _ (fun _=>hHeld) ?_
   clear hK K
   refine tn 5 rfl (fun _ _ _ _ h=>h) hHeld fun K hK=>?_;go_simp;refine hK _ ?_;clear hK K
   refine tn 7 rfl (fun _ _ _ _ h=>h) hHeld fun K hK=>?_;go_simp;refine hK _ ?_;clear hK K
   refine ol 8 rfl fun K hK=>?_
   have hslS:S<slj.length:=by rw [HBb.out.n];exact hS16
   refine step_plain rfl (wp_store_mid 131 (.tmp 24) (.tmp 22) rfl g2 (2+S*3) #[.int .i64 0,.int .i64 0,.slice p dn cp] rfl rfl ?_ (by kernel_rfl) (by simp [Value.oneCell']) ?_)
   ·intro i hi
    have hi3:i<3:=hi
    refine ⟨?_,HBb.out.free _⟩
    rw [HBb.out.cell S i hslS hi3]
    match i,hi3 with
    | 0,_=>rfl
    | 1,_=>rfl
    | 2,_=>rfl
   have hfin:=Hfin.out vb p cp HBb.out HDb.out (by rw [Hg2.out];exact Hbb.out) HOw.out
   replace hHeld:(fun w':World=>w'.cell? ⟨bx,0,none⟩=some (.int .i64 (S:Int))∧w'.cell? ⟨bx,1,none⟩=some (.slice da dn dc)) _:=⟨(World.cell?_of_block (a:=⟨bx,0,none⟩) (only3 vb g2 (2+S*3) (.int .i64 0) (.int .i64 0) (.slice p dn cp) bx (Ne.symm hbg))).trans hHeld.1,(World.cell?_of_block (a:=⟨bx,1,none⟩) (only3 vb g2 (2+S*3) (.int .i64 0) (.int .i64 0) (.slice p dn cp) bx (Ne.symm hbg))).trans hHeld.2⟩
   refine hK.out _ _ (fun _=>hHeld) ?_
   clear hK K
   refine done_L (by kernel_rfl) ?_ _
   have hgg:=Hg2.out
   subst hgg
   have HF:Hid (Wi w w.heap.size x z sl d' (l.map Cg.cs) (j+1) (vb.setCells w.heap.size (2+S*3) [.int .i64 0,.int .i64 0,.slice p dn cp])):=hfin
   clear hfin hHeld Hbb HOw HDb HBb Hfin HDs HBa HDa Hba hca
   have hsc:vb.setCells w.heap.size (2+S*3) (#[Value.int .i64 0,.int .i64 0,.slice p dn cp]).toList=vb.setCells w.heap.size (2+S*3) [.int .i64 0,.int .i64 0,.slice p dn cp]:=rfl
   rw [hsc]
   clear hsc
   generalize vb.setCells w.heap.size (2+S*3) [.int .i64 0,.int .i64 0,.slice p dn cp]=vc at *
   go_simp
   go_wp2
   go_roundw
   case rel=>exact ⟨j+1,by omega,by go_num,HF⟩
   case measure=>simp [intOf];omega
  ·obtain rfl:j=n:=by omega
   have hge:¬ (j:Int)<(j:Int):=by omega
   have R:=HP.out wr HW.out
   clear HP HW
   go_wp2
   exact R
end
end Go.Proofs.YtlllmmceoeihkaaGreat
