/-
  The program's Decode: what gives up is caught.
  Places are packed one by one.
  The document's store: Region, place, Load, Need.
  The document's store: sum.
-/
import Derived.Test.YtlllmmceoeihkaaGreatKDchunk
import Derived.Recover
import Derived.Test.YtlllmmceoeihkaaGreatSr
import Derived.Laws.BitsAllLaws
import Derived.Test.YtlllmmceoeihkaaGreatDv
import Derived.Test.YtlllmmceoeihkaaGreatKRenp
import Derived.Deep.RegionWith
import Derived.Test.YtlllmmceoeihkaaGreatCl
namespace Go.Proofs.YtlllmmceoeihkaaGreat.K
open Go.RowKit
theorem regs_c (a b v:Value) : #[a,b]++((Array.replicate 13 undef).setIfInBounds 3 v).setIfInBounds 0 v = #[a,b,v,undef,undef,v,undef,undef,undef,undef,undef,undef,undef,undef,undef]:=rfl
theorem catch_panicking (g h:Nat) (E x:Int) (pv:Option Addr) (older:List PanicEntry) (w:World) (hgh:g≠h) (hc:w.cell? ⟨g,0,none⟩=some (.pointer pv)) (hf:w.frozen? ⟨g,0,none⟩=false) (hc2:w.cell? ⟨h,0,none⟩=some (.int .i64 x)) (hf2:w.frozen? ⟨h,0,none⟩=false) :
  CallsD Tryz.prog 83 #[.pointer (some ⟨g,0,none⟩),.pointer (some ⟨h,0,none⟩)] (.panicking ({ v:=.iface 28 (.int .i64 E),recovered:=false }::older)) w fun e u' w' =>
   e = .returned (.tuple #[])∧u' = .panicking ({ v:=.iface 28 (.int .i64 E),recovered:=true }::older)∧w'=((w.setCell ⟨g,0,none⟩ (.pointer none)).setCell ⟨h,0,none⟩ (.int .i64 4)).setCell ⟨h,0,none⟩ (.int .i64 E):=by
 refine callsD_of_wpS Tryz.func83 rfl fun c₀ cs hu=>?_
 apply wpS_seq
 apply wpS_region
 simp [wpOpsS,go_sem,recoverD,hu,Tryz.ntmps83,Exit.thenS]
 refine wpS_of_wp ?_
 rw [regs_c]
 have hne:(⟨h,0,none⟩:Addr)≠⟨g,0,none⟩:=by intro e;cases e;exact hgh rfl
 have hc3:(w.setCell ⟨g,0,none⟩ (.pointer none)).cell? ⟨h,0,none⟩=some (.int .i64 x):=by rw [World.cell?_setCell_other _ _ _ _ (fun e=>hne e.symm)];exact hc2
 have hta:∀ w,(Instr.typeAssert (.iface 28 (.int .i64 E)) 20 28 true).run Tryz.prog w = .ok (.tuple #[.int .i64 E,.bool true]) w:=fun w=>by kernel_rfl
 go_wp2
 refine ⟨rfl,_,rfl,.tuple #[],results_none rfl _ _ _,rfl,rfl,rfl⟩
theorem catch_idle (p r:Addr) (w:World) :
  CallsD Tryz.prog 83 #[.pointer (some p),.pointer (some r)] .returning w fun e u' w'=>e = .returned (.tuple #[])∧u' = .returning∧w'=w:=by
 refine callsD_of_wpS Tryz.func83 rfl fun c₀ cs hu=>?_
 apply wpS_seq
 apply wpS_region
 simp [wpOpsS,go_sem,recoverD,hu,Tryz.ntmps83,Exit.thenS]
 refine wpS_of_wp ?_
 rw [regs_c]
 go_wp2
 refine ⟨rfl,_,rfl,.tuple #[],results_none rfl _ _ _,rfl,hu,rfl⟩
theorem three_new (w:World) (o1 o2 o3:Obj):(((w.alloc o1).alloc o2).alloc o3).heap[w.heap.size]?=some o1∧(((w.alloc o1).alloc o2).alloc o3).heap[w.heap.size+1]?=some o2∧(((w.alloc o1).alloc o2).alloc o3).heap[w.heap.size+1+1]?=some o3 ∧
  Below w.heap.size w (((w.alloc o1).alloc o2).alloc o3):=by
 have h3:=heap_new_two (w.alloc o1) o2 o3
 have h2:=heap_new_one (w.alloc o1) o2 o3
 rw [World.size_alloc] at h2 h3
 have hb:Below w.heap.size w (w.alloc o1):=(Below.refl _ _).alloc (Nat.le_refl _) _
 have hb2:Below (w.heap.size+1) (w.alloc o1) ((w.alloc o1).alloc o2):=(Below.refl _ _).alloc (by rw [World.size_alloc];omega) _
 have hb3:Below (w.heap.size+1) (w.alloc o1) (((w.alloc o1).alloc o2).alloc o3):=hb2.alloc (by rw [World.size_alloc,World.size_alloc];omega) _
 refine ⟨?_,h2,h3,hb.trans (hb3.mono (by omega))⟩
 rw [hb3.block _ (by omega)]
 exact heap_alloc_new w o1
def DecSay (D:Int×List Int) (w:World) (e:Ending) (w':World):Prop:=Below w.heap.size w w'∧((D.1=0∧∃ g,w.heap.size<=g∧e = .returned (.tuple #[.pointer (some ⟨g,0,none⟩),.int .i64 0])∧Blk w' g 122 D.2)∨(D.1≠0∧e = .returned (.tuple #[.pointer none,.int .i64 D.1])))
set_option maxHeartbeats 1000000 in
theorem decode_of (a:Option Addr) (n c:Nat) (D:Int×List Int) (w:World)
  (hc:Calls Tryz.prog 84 #[.pointer (some ⟨w.heap.size+1+1,0,none⟩)] (((w.alloc (.cells #[.pointer none] 63)).alloc (.cells #[.int .i64 0] 28)).alloc (.cells #[.slice a n c] 157))
   (ChunkSay D (w.heap.size+1+1) (((w.alloc (.cells #[.pointer none] 63)).alloc (.cells #[.int .i64 0] 28)).alloc (.cells #[.slice a n c] 157)))) :
  Calls Tryz.prog 53 #[.slice a n c] w (DecSay D w):=by
 have hmf:∀ (fn:Fn) (first cap:Array Value) (w:World),(Instr.makeFunc fn first cap).run Tryz.prog w = .ok (.func fn first cap) w:=fun _ _ _ _=>rfl
 obtain ⟨Post,hPost⟩:∃ Post,Post=DecSay D w:=⟨_,rfl⟩
 rw [<- hPost]
 have HP:Hid (Post=DecSay D w):=hPost
 clear hPost
 go_enter_defers Tryz.func53,Tryz.ntmps53
 go_wp2_with fail
 refine hc.mono ?_
 clear hc
 obtain ⟨h1,h2,h3,hb⟩:=three_new w (.cells #[.pointer none] 63) (.cells #[.int .i64 0] 28) (.cells #[.slice a n c] 157)
 generalize ((w.alloc (.cells #[.pointer none] 63)).alloc (.cells #[.int .i64 0] 28)).alloc (.cells #[.slice a n c] 157)=w3 at *
 rintro e w4 ⟨hb4,⟨hD,rfl⟩|⟨hD,g,hg,rfl,hG⟩⟩
 ·have k1:w4.heap[w.heap.size]?=some (.cells #[.pointer none] 63 (0,0)):=(hb4.block _ (by omega)).trans h1
  have k2:w4.heap[w.heap.size+1]?=some (.cells #[.int .i64 0] 28 (0,0)):=(hb4.block _ (by omega)).trans h2
  have hB:Below w.heap.size w w4:=hb.trans (hb4.mono (by omega))
  have R:Post (.returned (.tuple #[.pointer none,.int .i64 D.1])) (((w4.setCell ⟨w.heap.size,0,none⟩ (.pointer none)).setCell ⟨w.heap.size+1,0,none⟩ (.int .i64 4)).setCell ⟨w.heap.size+1,0,none⟩ (.int .i64 D.1)):=by
   rw [HP.out]
   exact ⟨((hB.setCell (p:=⟨w.heap.size,0,none⟩) (by simp) _).setCell (p:=⟨w.heap.size+1,0,none⟩) (by simp) _).setCell (p:=⟨w.heap.size+1,0,none⟩) (by simp) _,Or.inr ⟨hD,rfl⟩⟩
  have c1:w4.cell? ⟨w.heap.size,0,none⟩=some (.pointer none):=by rw [cell_of_row w4 _ 0 _ 63 (0,0) k1];rfl
  have c2:w4.cell? ⟨w.heap.size+1,0,none⟩=some (.int .i64 0):=by rw [cell_of_row w4 _ 0 _ 28 (0,0) k2];rfl
  have z1:=frozen_of_row w4 w.heap.size 0 _ 63 k1
  have z2:=frozen_of_row w4 (w.heap.size+1) 0 _ 28 k2
  clear hb4 h1 h2 h3 hb hB HP hD
  generalize D.1=E at *
  go_wp2
  refine leaves_cons (f:=83) (args := #[.pointer (some ⟨w.heap.size,0,none⟩),.pointer (some ⟨w.heap.size+1,0,none⟩)]) (by simp) (by simp [go_sem]) ?_
  refine (catch_panicking w.heap.size (w.heap.size+1) E 0 none [] w4 (by omega) c1 z1 c2 z2).mono ?_
  have f1:(((w4.setCell ⟨w.heap.size,0,none⟩ (.pointer none)).setCell ⟨w.heap.size+1,0,none⟩ (.int .i64 4)).setCell ⟨w.heap.size+1,0,none⟩ (.int .i64 E)).cell? ⟨w.heap.size,0,none⟩=some (.pointer none):=by
   have h1:=heap_setCell_same w4 w.heap.size 0 _ 63 (.pointer none) k1
   have h2:=Below.heap_setCell (w4.setCell ⟨w.heap.size,0,none⟩ (.pointer none)) ⟨w.heap.size+1,0,none⟩ (.int .i64 4) w.heap.size (by simp)
   have h3:=Below.heap_setCell ((w4.setCell ⟨w.heap.size,0,none⟩ (.pointer none)).setCell ⟨w.heap.size+1,0,none⟩ (.int .i64 4)) ⟨w.heap.size+1,0,none⟩ (.int .i64 E) w.heap.size (by simp)
   rw [cell_of_row _ w.heap.size 0 _ 63 (0,0) (h3.trans (h2.trans h1))]
   rfl
  have f2:(((w4.setCell ⟨w.heap.size,0,none⟩ (.pointer none)).setCell ⟨w.heap.size+1,0,none⟩ (.int .i64 4)).setCell ⟨w.heap.size+1,0,none⟩ (.int .i64 E)).cell? ⟨w.heap.size+1,0,none⟩=some (.int .i64 E):=by
   have h1:=(Below.heap_setCell w4 ⟨w.heap.size,0,none⟩ (.pointer none) (w.heap.size+1) (by simp)).trans k2
   have h2:=heap_setCell_same (w4.setCell ⟨w.heap.size,0,none⟩ (.pointer none)) (w.heap.size+1) 0 _ 28 (.int .i64 4) h1
   have h3:=heap_setCell_same _ (w.heap.size+1) 0 _ 28 (.int .i64 E) h2
   rw [cell_of_row _ (w.heap.size+1) 0 _ 28 (0,0) h3]
   rfl
  rintro e u' w5 ⟨rfl,rfl,e5⟩
  rw [<- e5] at f1 f2 R
  clear e5 k1 k2 c1 c2 z1 z2
  simp [Leaves,settle,results,Tryz.results53,go_sem,f1,f2]
  exact R
 ·have k1:w4.heap[w.heap.size]?=some (.cells #[.pointer none] 63 (0,0)):=(hb4.block _ (by omega)).trans h1
  have k2:w4.heap[w.heap.size+1]?=some (.cells #[.int .i64 0] 28 (0,0)):=(hb4.block _ (by omega)).trans h2
  have hB:Below w.heap.size w w4:=hb.trans (hb4.mono (by omega))
  have R:Post (.returned (.tuple #[.pointer (some ⟨g,0,none⟩),.int .i64 0])) ((w4.setCell ⟨w.heap.size,0,none⟩ (.pointer (some ⟨g,0,none⟩))).setCell ⟨w.heap.size+1,0,none⟩ (.int .i64 0)):=by
   rw [HP.out]
   refine ⟨(hB.setCell (p:=⟨w.heap.size,0,none⟩) (by simp) _).setCell (p:=⟨w.heap.size+1,0,none⟩) (by simp) _,Or.inl ⟨hD,g,by omega,rfl,(hG.other (by omega)).other (by omega)⟩⟩
  have c1:w4.cell? ⟨w.heap.size,0,none⟩=some (.pointer none):=by rw [cell_of_row w4 _ 0 _ 63 (0,0) k1];rfl
  have z1:=frozen_of_row w4 w.heap.size 0 _ 63 k1
  have q2:(w4.setCell ⟨w.heap.size,0,none⟩ (.pointer (some ⟨g,0,none⟩))).heap[w.heap.size+1]?=some (.cells #[.int .i64 0] 28 (0,0)):=(Below.heap_setCell w4 ⟨w.heap.size,0,none⟩ _ (w.heap.size+1) (by simp)).trans k2
  have c2:(w4.setCell ⟨w.heap.size,0,none⟩ (.pointer (some ⟨g,0,none⟩))).cell? ⟨w.heap.size+1,0,none⟩=some (.int .i64 0):=by rw [cell_of_row _ _ 0 _ 28 (0,0) q2];rfl
  have z2:=frozen_of_row _ (w.heap.size+1) 0 _ 28 q2
  have q1:=heap_setCell_same w4 w.heap.size 0 _ 63 (.pointer (some ⟨g,0,none⟩)) k1
  have f1:((w4.setCell ⟨w.heap.size,0,none⟩ (.pointer (some ⟨g,0,none⟩))).setCell ⟨w.heap.size+1,0,none⟩ (.int .i64 0)).cell? ⟨w.heap.size,0,none⟩=some (.pointer (some ⟨g,0,none⟩)):=by
   rw [cell_of_row _ w.heap.size 0 _ 63 (0,0) ((Below.heap_setCell _ ⟨w.heap.size+1,0,none⟩ (.int .i64 0) w.heap.size (by simp)).trans q1)]
   rfl
  have f2:((w4.setCell ⟨w.heap.size,0,none⟩ (.pointer (some ⟨g,0,none⟩))).setCell ⟨w.heap.size+1,0,none⟩ (.int .i64 0)).cell? ⟨w.heap.size+1,0,none⟩=some (.int .i64 0):=by
   rw [cell_of_row _ (w.heap.size+1) 0 _ 28 (0,0) (heap_setCell_same _ (w.heap.size+1) 0 _ 28 (.int .i64 0) q2)]
   rfl
  clear hb4 h1 h2 h3 hb hB HP hD hG k1 k2 q1 q2
  go_wp2
  refine leaves_cons (f:=83) (args := #[.pointer (some ⟨w.heap.size,0,none⟩),.pointer (some ⟨w.heap.size+1,0,none⟩)]) (by simp) (by simp [go_sem]) ?_
  refine (catch_idle ⟨w.heap.size,0,none⟩ ⟨w.heap.size+1,0,none⟩ _).mono ?_
  rintro e u' w5 ⟨rfl,rfl,e5⟩
  rw [<- e5] at f1 f2 R
  clear e5 c1 c2 z1 z2
  simp [Leaves,settle,results,Tryz.results53,go_sem,f1,f2]
  exact R
theorem decode_c (a:Option Addr) (n c:Nat) (bs:List Int) (w:World) (hB:Bytes w a n bs) (hn:n<=c) (h6:n<=1000000):Calls Tryz.prog 53 #[.slice a n c] w (DecSay (decL bs) w):=by
 refine decode_of a n c (decL bs) w ?_
 obtain ⟨h1,h2,h3,hb⟩:=three_new w (.cells #[.pointer none] 63) (.cells #[.int .i64 0] 28) (.cells #[.slice a n c] 157)
 generalize ((w.alloc (.cells #[.pointer none] 63)).alloc (.cells #[.int .i64 0] 28)).alloc (.cells #[.slice a n c] 157)=w3 at *
 have hR:Rdr w3 (w.heap.size+1+1) a n c:=h3
 have hB3:Bytes w3 a n bs:=hB.later hb
 by_cases h:n<2
 ·exact dchunk_short _ a n c bs w3 hR hB3 h
 ·obtain ⟨b,off,z,rfl,hc,_⟩:=hB.get 0 (by omega)
  have hbl:=World.block_lt_of_cell? w _ hc
  exact dchunk_c _ b bs w3 ⟨off,n,c,hR,hB3,hn,by simp at hbl;omega,h6⟩ (by have:=hB.n;omega)
end Go.Proofs.YtlllmmceoeihkaaGreat.K
namespace Go.Proofs.YtlllmmceoeihkaaGreat.K
open Go.RowKit
theorem undig_snoc (w:Nat):∀ (ps:List Int) (p:Int),undig w (ps++[p])=undig w ps+p*2 ^ (w*ps.length)
 | [],p=>by simp [undig]
 | q::r,p=>by
   have ih:=undig_snoc w r p
   rw [List.cons_append,undig,undig,ih,List.length_cons,Nat.mul_add,Nat.mul_one,Int.pow_add,Int.mul_add]
   rw [show p*(2 ^ (w*r.length)*2 ^ w)=2 ^ w*(p*2 ^ (w*r.length)) by rw [Int.mul_comm (2 ^ w) (p*_),Int.mul_assoc]]
   omega
theorem grpP_take (l cs:List Int) (m j I:Nat):grpP l (cs.take I) m j=((cs.drop (j*m)).take (min m (I-j*m))).map fun c=>(plc l c:Int):=by
 unfold grpP
 rw [List.drop_take,List.take_take]
theorem packTo_get (l cs:List Int) (w m:Nat):∀ (n j:Nat),j<n->(packTo l cs w m n).getD j 0=undig w (grpP l cs m j)
 | n+1,j,h=>by
   rw [packTo,List.getD_eq_getElem?_getD]
   by_cases e:j<n
   ·rw [List.getElem?_append_left (by rw [packTo_len];exact e),<- List.getD_eq_getElem?_getD,packTo_get l cs w m n j e]
   ·obtain rfl:j=n:=by omega
    rw [List.getElem?_append_right (by rw [packTo_len];exact Nat.le_refl _),packTo_len,Nat.sub_self]
    rfl
theorem grp_now (l cs:List Int) (m j I:Nat) (hI:I<cs.length) (h1:j*m<=I) (h2:I<j*m+m) :
  grpP l (cs.take (I+1)) m j=grpP l (cs.take I) m j++[(plc l cs[I]:Int)]∧(grpP l (cs.take I) m j).length=I-j*m:=by
 rw [grpP_take,grpP_take,show min m (I+1-j*m)=(I-j*m)+1 by omega,show min m (I-j*m)=I-j*m by omega]
 constructor
 ·rw [List.take_add_one,List.map_append,List.getElem?_drop,show j*m+(I-j*m)=I by omega,List.getElem?_eq_getElem hI]
  rfl
 ·rw [List.length_map,List.length_take,List.length_drop]
  omega
theorem pack_step (l cs:List Int) (w m n I j:Nat) (hI:I<cs.length) (hj:j<n) (h1:j*m<=I) (h2:I<j*m+m) :
  packTo l (cs.take (I+1)) w m n=(packTo l (cs.take I) w m n).set j ((packTo l (cs.take I) w m n).getD j 0+(plc l cs[I]:Int)*2 ^ (w*(I-j*m))):=by
 refine getD_ext (by rw [List.length_set,packTo_len,packTo_len]) fun i hi=>?_
 rw [packTo_len] at hi
 obtain ⟨g1,g2⟩:=grp_now l cs m j I hI h1 h2
 rw [packTo_get _ _ _ _ _ _ hi]
 by_cases e:i=j
 ·subst e
  rw [List.getD_eq_getElem?_getD (l:=List.set _ _ _),List.getElem?_set_self (by rw [packTo_len];exact hi),Option.getD_some,packTo_get _ _ _ _ _ _ hi,g1,undig_snoc,g2]
 ·rw [List.getD_eq_getElem?_getD,List.getElem?_set_ne (fun h=>e h.symm),<- List.getD_eq_getElem?_getD,packTo_get _ _ _ _ _ _ hi,grpP_take,grpP_take]
  have:min m (I+1-i*m)=min m (I-i*m):=by
   rcases Nat.lt_or_gt_of_ne e with h | h
   ·have:=Nat.mul_le_mul_right m (show i+1<=j from h)
    rw [Nat.add_mul,Nat.one_mul] at this
    omega
   ·have:=Nat.mul_le_mul_right m (show j+1<=i from h)
    rw [Nat.add_mul,Nat.one_mul] at this
    omega
  rw [this]
theorem byte_now (l cs:List Int) (w m n I j:Nat) (hI:I<cs.length) (hj:j<n) (h1:j*m<=I) (h2:I<j*m+m) (hm:∀ x∈cs,x∈l) (hw:l.length<=2 ^ w) :
  0<=(packTo l (cs.take I) w m n).getD j 0∧(packTo l (cs.take I) w m n).getD j 0<2 ^ (w*(I-j*m))∧(plc l cs[I]:Int)<2 ^ w:=by
 obtain ⟨_,g2⟩:=grp_now l cs m j I hI h1 h2
 have hp:∀ x∈cs,(plc l x:Int)<2 ^ w:=fun x hx=>by
  have:=plc_lt (hm x hx)
  have h3:plc l x<2 ^ w:=by omega
  exact_mod_cast h3
 rw [packTo_get _ _ _ _ _ _ hj]
 have:=undig_fit w (grpP l (cs.take I) m j) (fun p hp'=>by
  unfold grpP at hp'
  obtain ⟨x,hx,rfl⟩:=List.mem_map.1 hp'
  exact ⟨Int.natCast_nonneg _,hp x (List.mem_of_mem_take (List.mem_of_mem_drop (List.mem_of_mem_take hx)))⟩)
 rw [g2] at this
 exact ⟨this.1,this.2,hp _ (List.getElem_mem hI)⟩
theorem or8_join (a p:Int) (s:Nat) (h0:0<=a) (h1:a<2 ^ s) (hp:0<=p) (hs:a+p*2 ^ s<256):bits .or .u8 a (p*2 ^ s)=a+p*2 ^ s:=by
 obtain ⟨A,rfl⟩:=Int.eq_ofNat_of_zero_le h0
 obtain ⟨P,rfl⟩:=Int.eq_ofNat_of_zero_le hp
 have e:(P:Int)*2 ^ s=((P*2 ^ s:Nat):Int):=by simp
 rw [e] at hs ⊢
 have hA:A<2 ^ s:=by exact_mod_cast h1
 rw [u8_or_nat A (P*2 ^ s) (by omega) (by omega),Nat.or_comm,nat_join s (P*2 ^ s) A (Nat.mul_mod_left _ _) hA]
 omega
theorem byte_fit {a p:Int} {w m r:Nat} (h8:w*m=8) (h1:a<2 ^ (w*r)) (hp:p<2 ^ w) (hr:r<m):a+p*2 ^ (w*r)<256:=by
 have hk:w*(r+1)<=8:=by rw [<- h8];exact Nat.mul_le_mul_left w hr
 have h2:(2:Int) ^ (w*(r+1))<=256:=by
  have h:(2:Nat) ^ (w*(r+1))<=256:=Nat.pow_le_pow_right (n:=2) (by omega) hk
  have h':=Int.ofNat_le.2 h
  rw [Int.natCast_pow] at h'
  exact h'
 rw [Nat.mul_add,Nat.mul_one,Int.pow_add] at h2
 have hpos:(0:Int)<2 ^ (w*r):=Int.pow_pos (by omega)
 have h3:(p+1)*2 ^ (w*r)<=2 ^ w*2 ^ (w*r):=Int.mul_le_mul_of_nonneg_right (by omega) (Int.le_of_lt hpos)
 rw [Int.add_mul,Int.one_mul] at h3
 rw [Int.mul_comm (2 ^ (w*r)) (2 ^ w)] at h2
 omega
theorem packTo_zero (l cs:List Int) (w m n:Nat):packTo l (cs.take 0) w m n=List.replicate n 0:=by
 refine getD_ext (by rw [packTo_len,List.length_replicate]) fun i hi=>?_
 rw [packTo_len] at hi
 rw [packTo_get _ _ _ _ _ _ hi,List.take_zero]
 unfold grpP
 rw [List.drop_nil,List.take_nil,List.map_nil,List.getD_eq_getElem?_getD,List.getElem?_replicate,if_pos hi]
 rfl
end Go.Proofs.YtlllmmceoeihkaaGreat.K
set_option maxRecDepth 20000
namespace Go.Proofs.YtlllmmceoeihkaaGreat.Z
open K Go.RowKit
theorem fdiv_c (a:Int) (h:I64 a) (w:World):Calls Tryz.prog 60 #[.int .i64 a,.int .i64 4] w fun e w'=>e = .returned (.int .i64 (a/4))∧w'=w:=D.rdiv_hi a 4 w (by omega) (by omega) h.1 h.2
theorem rregion_c (x z:Int) (hx:I64 x) (hz:I64 z) (w:World):Calls Tryz.prog 32 #[valA x z] w fun e w'=>e = .returned (valA (x/4) (z/4))∧Below w.heap.size w w':=by
 obtain ⟨Post,hPost⟩:∃ Post:Ending->World->Prop,Post=fun e w'=>e = .returned (valA (x/4) (z/4))∧Below w.heap.size w w':=⟨_,rfl⟩
 rw [<- hPost]
 have HP:Hid (∀ w',Below w.heap.size w w'->Post (.returned (.agg #[.int .i64 (x/4),.int .i64 (z/4)])) w'):=fun w' h=>by rw [hPost];exact ⟨rfl,h⟩
 clear hPost
 obtain ⟨hb0,x0,x1⟩:=box_at w x z
 have hd1:=fun W=>fdiv_c x hx W
 have hd2:=fun W=>fdiv_c z hz W
 have HD1:Hid (∀ W,Calls Tryz.prog 60 #[.int .i64 x,.int .i64 4] W fun e w'=>e = .returned (.int .i64 (x/4))∧w'=W):=hd1
 have HD2:Hid (∀ W,Calls Tryz.prog 60 #[.int .i64 z,.int .i64 4] W fun e w'=>e = .returned (.int .i64 (z/4))∧w'=W):=hd2
 clear hd1 hd2
 go_enter Tryz.func32,Tryz.ntmps32
 go_upto_region 1 with fail
 have hb1:Below w.heap.size w ((w.alloc (.cells #[.int .i64 x,.int .i64 z] 39)).alloc (.cells #[.int .i64 0,.int .i64 0] 39)):=hb0.alloc hb0.size _
 have hN:=heap_alloc_new (w.alloc (.cells #[.int .i64 x,.int .i64 z] 39)) (.cells #[.int .i64 0,.int .i64 0] 39)
 have hs1:(w.alloc (.cells #[.int .i64 x,.int .i64 z] 39)).heap.size=w.heap.size+1:=World.size_alloc _ _
 rw [hs1] at hN
 have c0:((w.alloc (.cells #[.int .i64 x,.int .i64 z] 39)).alloc (.cells #[.int .i64 0,.int .i64 0] 39)).cell? ⟨w.heap.size,0,none⟩=some (.int .i64 x):=(((Below.refl (w.alloc (.cells #[.int .i64 x,.int .i64 z] 39)).heap.size _).alloc (Nat.le_refl _) _).cell (World.block_lt_of_cell? _ _ x0)).trans x0
 have c1:((w.alloc (.cells #[.int .i64 x,.int .i64 z] 39)).alloc (.cells #[.int .i64 0,.int .i64 0] 39)).cell? ⟨w.heap.size,1,none⟩=some (.int .i64 z):=(((Below.refl (w.alloc (.cells #[.int .i64 x,.int .i64 z] 39)).heap.size _).alloc (Nat.le_refl _) _).cell (World.block_lt_of_cell? _ _ x1)).trans x1
 clear x0 x1 hb0
 generalize (w.alloc (.cells #[.int .i64 x,.int .i64 z] 39)).alloc (.cells #[.int .i64 0,.int .i64 0] 39)=W1 at *
 have b0:W1.cell? ⟨w.heap.size+1,0,none⟩=some (.int .i64 0):=by rw [cell_of_row W1 _ 0 _ 39 (0,0) hN];rfl
 have b1:W1.cell? ⟨w.heap.size+1,1,none⟩=some (.int .i64 0):=by rw [cell_of_row W1 _ 1 _ 39 (0,0) hN];rfl
 have f0:W1.frozen? ⟨w.heap.size+1,0,none⟩=false:=frozen_of_row W1 _ 0 _ 39 hN
 have f1:W1.frozen? ⟨w.heap.size+1,1,none⟩=false:=frozen_of_row W1 _ 1 _ 39 hN
 have R:=HP.out ((W1.drew.setCell ⟨w.heap.size+1,0,none⟩ (.int .i64 (x/4))).setCell ⟨w.heap.size+1,1,none⟩ (.int .i64 (z/4))) ((hb1.drew.setCell (p:=⟨w.heap.size+1,0,none⟩) (Nat.le_succ _) _).setCell (p:=⟨w.heap.size+1,1,none⟩) (Nat.le_succ _) _)
 refine region_L (fun u=>u=W1.drew) 7 (by kernel_rfl) ?_
 have d0:W1.drew.cell? ⟨w.heap.size,0,none⟩=some (.int .i64 x):=c0
 have d1:W1.drew.cell? ⟨w.heap.size,1,none⟩=some (.int .i64 z):=c1
 have e0:W1.drew.cell? ⟨w.heap.size+1,0,none⟩=some (.int .i64 0):=b0
 have e1:W1.drew.cell? ⟨w.heap.size+1,1,none⟩=some (.int .i64 0):=b1
 have g0:W1.drew.frozen? ⟨w.heap.size+1,0,none⟩=false:=f0
 have g1:W1.drew.frozen? ⟨w.heap.size+1,1,none⟩=false:=f1
 clear c0 c1 b0 b1 f0 f1 hN hb1 HP
 generalize W1.drew=va at *
 have hHeld:(fun u=>u=va) va:=rfl
 have hne:Nonempty (Sub (fun u=>u=va)):=⟨⟨_,hHeld⟩⟩
 have k0:∀ s:Sub (fun u=>u=va),s.w.cell? ⟨w.heap.size,0,none⟩=some (.int .i64 x):=fun s=>by rw [s.ok];exact d0
 have k1:∀ s:Sub (fun u=>u=va),s.w.cell? ⟨w.heap.size,1,none⟩=some (.int .i64 z):=fun s=>by rw [s.ok];exact d1
 refine tk0 0 rfl (fun _ _ _ _ h=>h) hHeld fun K hK=>?_;go_simp;refine hK _ ?_;clear hK K
 refine tk0 1 rfl (fun _ _ _ _ h=>h) hHeld fun K hK=>?_;go_simp;refine hK _ ?_;clear hK K
 refine tk0 3 rfl (fun _ _ _ _ h=>h) hHeld fun K hK=>?_;go_simp;refine hK _ ?_;clear hK K
 refine tk0 4 rfl (fun _ _ _ _ h=>h) hHeld fun K hK=>?_;go_simp;refine hK _ ?_;clear hK K
 refine ol 2 rfl fun K hK=>?_
 go_simp
 refine (HD1.out _).mono ?_
 rintro _ _ ⟨rfl,rfl⟩
 refine hK.out _ _ (fun _=>hHeld) ?_
 clear hK K
 refine ol 5 rfl fun K hK=>?_
 go_simp
 refine (HD2.out _).mono ?_
 rintro _ _ ⟨rfl,rfl⟩
 refine hK.out _ _ (fun _=>hHeld) ?_
 clear hK K
 refine tk0 6 rfl (fun _ _ _ _ h=>h) hHeld fun K hK=>?_;go_simp;refine hK _ ?_;clear hK K
 refine ol 7 rfl fun K hK=>?_
 clear hne k0 k1
 go_simp
 refine hK.out _ _ (fun h=>absurd rfl h) ?_
 clear hK K
 refine done_L (by kernel_rfl) ?_ _
 go_wp2
 exact bodyPost_ret (v:=.agg #[.int .i64 (x/4),.int .i64 (z/4)]) (by simp [results,Tryz.results32,go_sem,e0,e1]) rfl R
theorem splace_c {G : Nat → Prop} {B : Nat} {w : World} {r : Nat} {L : List Km} {av:Option Addr} {cv:Nat} (h:RSt G B w r L av cv) (x z:Int) :
  Calls Tryz.prog 45 #[.pointer (some ⟨r,0,none⟩),valA x z] w fun e w'=>e = .returned (.int .i64 (plK L x z))∧Below w.heap.size w w':=by
 obtain ⟨Post,hPost⟩:∃ Post:Ending->World->Prop,Post=fun e w'=>e = .returned (.int .i64 (plK L x z))∧Below w.heap.size w w':=⟨_,rfl⟩
 rw [<- hPost]
 have HP:Hid (∀ v w',plK L x z=v->Below w.heap.size w w'->Post (.returned (.int .i64 v)) w'):=fun v w' h0 h1=>by rw [hPost,h0];exact ⟨rfl,h1⟩
 clear hPost
 obtain ⟨hb0,x0,x1⟩:=box_at w x z
 have HA:Hid (RSt G B w r L av cv):=h
 have HB:Hid (Below w.heap.size w (w.alloc (.cells #[.int .i64 x,.int .i64 z] 39))):=hb0
 have hsz:=h.sz
 clear h hb0
 go_enter Tryz.func45,Tryz.ntmps45
 go_upto_region 1 with fail
 have HX:Hid ((w.alloc (.cells #[.int .i64 x,.int .i64 z] 39)).cell? ⟨w.heap.size,0,none⟩=some (.int .i64 x)∧(w.alloc (.cells #[.int .i64 x,.int .i64 z] 39)).cell? ⟨w.heap.size,1,none⟩=some (.int .i64 z)):=⟨x0,x1⟩
 clear x0 x1
 generalize w.alloc (.cells #[.int .i64 x,.int .i64 z] 39)=w0 at *
 go_wp2
 go_loopw [5] (fun vi wr=>∃ k:Nat,vi = .int .i64 (k:Int)∧k<=L.length∧Hid ((∀ j (hj:j<L.length),j<k->atK x z L[j]=false)∧Below w.heap.size w wr∧wr.cell? ⟨w.heap.size,0,none⟩=some (.int .i64 x)∧wr.cell? ⟨w.heap.size,1,none⟩=some (.int .i64 z))) (fun vi _=>L.length-(intOf vi).toNat)
 case atStart=>exact ⟨0,rfl,Nat.zero_le _,fun j hj hk=>by omega,HB.out,HX.out⟩
 case round =>
  obtain ⟨k,rfl,hk,HI⟩:=hrel
  obtain ⟨hno,hb,x0,x1⟩:=HI.out
  have R0:=HA.out.on hb
  have c1:=R0.c0
  by_cases hlt:k<L.length
  ·have hlt':(k:Int)<(L.length:Int):=by omega
   rcases R0.row.form with ⟨_,he,_⟩|⟨g,rfl⟩
   ·rw [he] at hlt;simp at hlt
   obtain ⟨e0,e1,_,_⟩:=R0.row.cell hlt
   have HI3:Hid (∀ nq,Below w.heap.size w (wr.drewN nq)∧(wr.drewN nq).cell? ⟨w.heap.size,0,none⟩=some (.int .i64 x)∧(wr.drewN nq).cell? ⟨w.heap.size,1,none⟩=some (.int .i64 z)):=fun nq=>⟨hb.trans (⟨rfl,rfl,rfl,Nat.le_refl _,fun _ _=>rfl⟩),x0,x1⟩
   have HNo:Hid (∀ j (hj:j<L.length),j<k->atK x z L[j]=false):=hno
   have HAt:Hid (atK x z L[k]=decide (L[k].x=x∧L[k].z=z)):=rfl
   have HF:Hid (∀ hx:atK x z L[k]=true,plK L x z=(k:Int)):=fun hx=>by
    have:L.findIdx? (atK x z)=some k:=by
     rw [List.findIdx?_eq_some_iff_getElem]
     exact ⟨hlt,hx,fun j hj=>by rw [hno j (by omega) hj];simp⟩
    unfold plK
    rw [this]
   obtain ⟨cur,_,_,hcv,hmx,_⟩:=R0.row.blk
   clear hno hb HI R0 HX HB
   generalize L[k].x=p at *
   generalize L[k].z=q at *
   by_cases h1:p=x
   ·by_cases h2:q=z
    ·have HR:=HF.out (by rw [HAt.out,h1,h2];simp)
     subst h1 h2
     have R:=fun nq=>HP.out _ _ HR (HI3.out nq).1
     clear HP HF HAt HNo HR HI3
     go_wp2
     go_big_quiet (fail)
     have R2:=R nq
     clear R
     go_wp2
     exact R2
    ·have HE:Hid (atK x z L[k]=false):=by have:=HAt.out;rw [this];exact decide_eq_false (fun h=>h2 h.2)
     subst h1
     clear HAt HF
     go_wp2
     go_big_quiet (fail)
     go_wp2
     go_roundw
     case rel => exact ⟨k + 1, by go_num, by omega, fun j hj hjk => (by by_cases e:j=k;· subst e;exact HE.out
                                                                        ·exact HNo.out j hj (by omega)),HI3.out nq⟩
     case measure=>simp [intOf];omega
   ·have HE:Hid (atK x z L[k]=false):=by have:=HAt.out;rw [this];exact decide_eq_false (fun h=>h1 h.1)
    clear HAt HF
    go_wp2
    go_big_quiet (fail)
    go_wp2
    go_roundw
    case rel => exact ⟨k + 1, by go_num, by omega, fun j hj hjk => (by by_cases e:j=k;· subst e;exact HE.out
                                                                       ·exact HNo.out j hj (by omega)),HI3.out nq⟩
    case measure=>simp [intOf];omega
  ·obtain rfl:k=L.length:=by omega
   have hn:plK L x z = -1:=by
    have:L.findIdx? (atK x z)=none:=by
     rw [List.findIdx?_eq_none_iff]
     intro e he
     obtain ⟨j,hj,rfl⟩:=List.getElem_of_mem he
     exact hno j hj hj
    unfold plK
    rw [this]
   have R:=HP.out _ wr hn hb
   clear hno hn hb HI R0 HP HX HB HA x0 x1
   go_wp2
   exact R
theorem sload_c {G:Nat->Prop} {B:Nat} {w:World} {r:Nat} {L:List Km} {av:Option Addr} {cv:Nat} (h:RSt G B w r L av cv) (x z:Int) :
  Calls Tryz.prog 39 #[.pointer (some ⟨r,0,none⟩),valA x z] w fun e w'=>Below w.heap.size w w'∧∃ a c,e = .returned (.slice a (loadK L x z).length c)∧Cz w' a c (loadK L x z):=by
 obtain ⟨Post,hPost⟩:∃ Post:Ending->World->Prop,Post=fun e w'=>Below w.heap.size w w'∧∃ a c,e = .returned (.slice a (loadK L x z).length c)∧Cz w' a c (loadK L x z):=⟨_,rfl⟩
 rw [<- hPost]
 have HP:Hid (∀ w' a c b,loadK L x z=b->Below w.heap.size w w'->Cz w' a c b->Post (.returned (.slice a b.length c)) w'):=fun w' a c b h0 h1 h2=>by rw [hPost];subst h0;exact ⟨h1,a,c,rfl,h2⟩
 clear hPost
 obtain ⟨hb0,d0,d1⟩:=box_at w x z
 go_enter Tryz.func39,Tryz.ntmps39
 go_upto_region 1 with fail
 generalize w.alloc (.cells #[.int .i64 x,.int .i64 z] 39)=w1 at *
 have R1:=h.on hb0
 have hp:=splace_c R1 x z
 have hsz:=h.sz
 have HK:Hid (∀ w2,Below w1.heap.size w1 w2->RSt G B w2 r L av cv∧Below w.heap.size w w2):=fun w2 hb2=>⟨R1.on hb2,hb0.trans (hb2.mono hb0.size)⟩
 clear R1 hb0
 cases hfi:L.findIdx? (atK x z) with
 | none =>
   have hpl:plK L x z = -1:=by unfold plK;rw [hfi]
   have hl0:loadK L x z=[]:=by
    unfold loadK
    have:L.find? (atK x z)=none:=by
     rw [List.find?_eq_none]
     intro e he
     rw [List.findIdx?_eq_none_iff.1 hfi e he]
     simp
    rw [this]
   rw [hpl] at hp
   have HR:Hid (∀ w2,Below w1.heap.size w1 w2->Post (.returned (.slice none 0 0)) w2):=fun w2 hb2=>HP.out w2 none 0 [] hl0 (HK.out w2 hb2).2 (.inl ⟨rfl,rfl,rfl⟩)
   clear h hpl hfi HP HK hl0
   go_wp2_with (go_at_call 45;refine hp.mono ?_;clear hp;rintro _ w2 ⟨rfl,hb2⟩;have R:=HR.out w2 hb2;clear HR)
   exact R
 | some k =>
   obtain ⟨hk,h1,h2⟩:=List.findIdx?_eq_some_iff_getElem.1 hfi
   have hpl:plK L x z=(k:Int):=by unfold plK;rw [hfi]
   have hl0:loadK L x z=L[k].b:=by
    unfold loadK
    have:L.find? (atK x z)=some L[k]:=by
     rw [List.find?_eq_some_iff_getElem]
     exact ⟨h1,k,hk,rfl,fun j hj=>by have:=h2 j hj;simpa using this⟩
    rw [this]
   rw [hpl] at hp
   have hkl:(k:Int)<(L.length:Int):=by omega
   rcases h.row.form with ⟨_,he,_⟩|⟨g,rfl⟩
   ·rw [he] at hk;simp at hk
   have hcv:L.length<=cv∧cv<=maxLen:=by
    obtain ⟨cur,_,_,hcv,hmx,_⟩:=h.row.blk
    exact ⟨hcv,hmx⟩
   have HC:Hid (∀ w2,Below w1.heap.size w1 w2->w2.cell? ⟨r,0,none⟩=some (.slice (some ⟨g,0,none⟩) L.length cv)∧w2.cell? ⟨g,k*4+2,none⟩=some (.slice L[k].a L[k].b.length L[k].c)∧Post (.returned (.slice L[k].a L[k].b.length L[k].c)) w2):=fun w2 hb2=>by
    obtain ⟨R2,hb⟩:=HK.out w2 hb2
    exact ⟨R2.c0,(R2.row.cell hk).2.2.1,HP.out w2 _ _ _ hl0 hb (R2.by_ _ (List.getElem_mem hk))⟩
   clear h hpl hfi HP HK hl0 h1 h2
   generalize L[k]=ek at *
   obtain ⟨_,_,a0,c0,b0,_⟩:=ek
   simp only at HC
   go_wp2_with (go_at_call 45;refine hp.mono ?_;clear hp;rintro _ w2 ⟨rfl,hb2⟩;obtain ⟨cc1,cc2,R⟩:=HC.out w2 hb2;clear HC)
   exact R
end Go.Proofs.YtlllmmceoeihkaaGreat.Z
set_option maxRecDepth 20000
namespace Go.Proofs.YtlllmmceoeihkaaGreat.Z
open K Go.RowKit
theorem cell_on {w w':World} {a:Addr} {v:Value} (hb:Below w.heap.size w w') (h:w.cell? a=some v):w'.cell? a=some v:=(hb.cell (World.block_lt_of_cell? w _ h)).trans h
set_option maxHeartbeats 4000000 in
theorem ssum_c {G:Nat->Prop} {B:Nat} {w:World} {r:Nat} {L:List Km} {av:Option Addr} {cv:Nat} (h:RSt G B w r L av cv) {x z:Int} (hx:I64 x) (hz:I64 z) (many:Nat) (hm:many<=100000) :
  Calls Tryz.prog 46 #[.pointer (some ⟨r,0,none⟩),valA x z,.int .i64 (many:Int)] w fun e w'=>e = .returned (.int .i64 (sumK L x z many:Int))∧Below w.heap.size w w':=by
 obtain ⟨Post,hPost⟩:∃ Post:Ending->World->Prop,Post=fun e w'=>e = .returned (.int .i64 (sumK L x z many:Int))∧Below w.heap.size w w':=⟨_,rfl⟩
 rw [<- hPost]
 have HP:Hid (∀ v w',v=(sumK L x z many:Int)->Below w.heap.size w w'->Post (.returned (.int .i64 v)) w'):=fun v w' h0 h1=>by rw [hPost,h0];exact ⟨rfl,h1⟩
 clear hPost
 obtain ⟨hb0,x0,x1⟩:=box_at w x z
 have HA:Hid (RSt G B w r L av cv):=h
 have HB:Hid (Below w.heap.size w (w.alloc (.cells #[.int .i64 x,.int .i64 z] 39))):=hb0
 have HR1:Hid (∀ p q,I64 p->I64 q->∀ W,Calls Tryz.prog 32 #[valA p q] W fun e w'=>e = .returned (valA (p/4) (q/4))∧Below W.heap.size W w'):=fun p q h1 h2 W=>rregion_c p q h1 h2 W
 have HXZ:Hid (I64 x∧I64 z):=⟨hx,hz⟩
 have hsz:=h.sz
 have HM:Hid (∀ k,k<=L.length->sumT x z (L.take k)<=k*100000):=fun k hk=>by
  have:=sumT_le (x:=x) (z:=z) (L:=L.take k) (M:=100000) (fun e he=>h.mb e (List.mem_of_mem_take he))
  rwa [List.length_take,Nat.min_eq_left hk] at this
 clear h hb0 hx hz
 go_enter Tryz.func46,Tryz.ntmps46
 go_upto_region 1 with fail
 have HX:Hid ((w.alloc (.cells #[.int .i64 x,.int .i64 z] 39)).cell? ⟨w.heap.size,0,none⟩=some (.int .i64 x)∧(w.alloc (.cells #[.int .i64 x,.int .i64 z] 39)).cell? ⟨w.heap.size,1,none⟩=some (.int .i64 z)):=⟨x0,x1⟩
 clear x0 x1
 generalize w.alloc (.cells #[.int .i64 x,.int .i64 z] 39)=w0 at *
 go_wp2
 go_loopw [7,8] (fun vs vi wr=>∃ k:Nat,vi = .int .i64 (k:Int)∧vs = .int .i64 ((2+many+sumT x z (L.take k):Nat):Int)∧k<=L.length∧Hid (Below w.heap.size w wr∧wr.cell? ⟨w.heap.size,0,none⟩=some (.int .i64 x)∧wr.cell? ⟨w.heap.size,1,none⟩=some (.int .i64 z))) (fun _ vi _=>L.length-(intOf vi).toNat)
 case atStart=>exact ⟨0,rfl,by go_num,Nat.zero_le _,HB.out,HX.out⟩
 case round =>
  obtain ⟨k,rfl,rfl,hk,HI⟩:=hrel
  obtain ⟨hb,x0,x1⟩:=HI.out
  have hR0:=HA.out.on hb
  have c1:=hR0.c0
  have hsk:=HM.out k hk
  have hsk2:sumT x z (L.take k)<=200000000:=by omega
  by_cases hlt:k<L.length
  ·have hlt':(k:Int)<(L.length:Int):=by omega
   rcases hR0.row.form with ⟨_,he,_⟩|⟨g,rfl⟩
   ·rw [he] at hlt;simp at hlt
   obtain ⟨e0,e1,_,e3⟩:=hR0.row.cell hlt
   obtain ⟨cur,_,_,hcv,hmx,_⟩:=hR0.row.blk
   have hky:=hR0.ky _ (List.getElem_mem hlt)
   have hmb:=hR0.mb _ (List.getElem_mem hlt)
   have HSt:Hid (sumT x z (L.take (k+1))=sumT x z (L.take k)+if decide (¬ (L[k].x=x∧L[k].z=z)∧L[k].x/4=x/4∧L[k].z/4=z/4) then L[k].m else 0):=sumT_take x z L hlt
   have hc1:=HR1.out L[k].x L[k].z hky.1 hky.2
   have hc2:=HR1.out x z HXZ.out.1 HXZ.out.2
   have HKp:Hid (∀ v,v=wr.drew->∀ u,Below v.heap.size v u->Below w.heap.size w u∧u.cell? ⟨w.heap.size,0,none⟩=some (.int .i64 x)∧u.cell? ⟨w.heap.size,1,none⟩=some (.int .i64 z)∧u.cell? ⟨r,0,none⟩=some (.slice (some ⟨g,0,none⟩) L.length cv)∧u.cell? ⟨g,k*4,none⟩=some (.int .i64 L[k].x)∧u.cell? ⟨g,k*4+1,none⟩=some (.int .i64 L[k].z)∧u.cell? ⟨g,k*4+3,none⟩=some (.int .i64 (L[k].m:Int))):=fun v hv u hu=>by
    subst hv
    have hu':Below wr.heap.size wr u:=⟨hu.os,hu.tape,hu.output,hu.size,hu.block⟩
    exact ⟨hb.trans (hu'.mono hb.size),cell_on hu' x0,cell_on hu' x1,cell_on hu' c1,cell_on hu' e0,cell_on hu' e1,cell_on hu' e3⟩
   have HC1:Hid (∀ W,Calls Tryz.prog 32 #[valA L[k].x L[k].z] W fun e w'=>e = .returned (valA (L[k].x/4) (L[k].z/4))∧Below W.heap.size W w'):=hc1
   have HC2:Hid (∀ W,Calls Tryz.prog 32 #[valA x z] W fun e w'=>e = .returned (valA (x/4) (z/4))∧Below W.heap.size W w'):=hc2
   clear hc1 hc2 hky HXZ HR1 HM HP HA HB HX hR0 hsk e0 e1 e3 hb
   generalize sumT x z (L.take k)=T0 at *
   generalize L[k].x/4=P at *
   generalize L[k].z/4=Q at *
   generalize hXX:x/4=XX at *
   generalize hZZ:z/4=ZZ at *
   generalize hpp:L[k].x=p at *
   generalize hqq:L[k].z=q at *
   generalize L[k].m=mm at *
   clear hXX hZZ hpp hqq
   by_cases hpq:p=x∧q=z
   ·obtain ⟨h1,h2⟩:=hpq
    replace h1:=h1.symm
    subst h1
    replace h2:=h2.symm
    subst h2
    have HE:Hid (sumT x z (L.take (k+1))=T0+0):=by have:=HSt.out;rw [if_neg (by simp [*])] at this;exact this
    clear HSt
    go_wp2
    refine region_L (fun u=>Below wr.drew.heap.size wr.drew u) 99 (by kernel_rfl) ?_
    clear c1 x0 x1 HI
    have HK2:Hid _:=HKp.out _ rfl
    clear HKp
    generalize wr.drew=va at *
    have hHeld:(fun u=>Below va.heap.size va u) va:=Below.refl _ _
    have hne:Nonempty (Sub (fun u=>Below va.heap.size va u)):=⟨⟨_,hHeld⟩⟩
    have q0:∀ s:Sub (fun u=>Below va.heap.size va u),s.w.cell? ⟨w.heap.size,0,none⟩=some (.int .i64 x):=fun s=>(HK2.out s.w s.ok).2.1
    have q1:∀ s:Sub (fun u=>Below va.heap.size va u),s.w.cell? ⟨w.heap.size,1,none⟩=some (.int .i64 z):=fun s=>(HK2.out s.w s.ok).2.2.1
    have q2:∀ s:Sub (fun u=>Below va.heap.size va u),s.w.cell? ⟨r,0,none⟩=some (.slice (some ⟨g,0,none⟩) L.length cv):=fun s=>(HK2.out s.w s.ok).2.2.2.1
    have q3:∀ s:Sub (fun u=>Below va.heap.size va u),s.w.cell? ⟨g,k*4,none⟩=some (.int .i64 x):=fun s=>(HK2.out s.w s.ok).2.2.2.2.1
    have q4:∀ s:Sub (fun u=>Below va.heap.size va u),s.w.cell? ⟨g,k*4+1,none⟩=some (.int .i64 z):=fun s=>(HK2.out s.w s.ok).2.2.2.2.2.1
    refine gen_L (by intro d v c a w h;cases d <;> exact h) (fun QX HQP HQX=>?_)
    refine tk 0 rfl HQP hHeld fun K hK=>?_;go_simp;refine hK _ ?_;clear hK K
    refine tk 1 rfl HQP hHeld fun K hK=>?_;go_simp;refine hK _ ?_;clear hK K
    refine tk 2 rfl HQP hHeld fun K hK=>?_;go_simp;refine hK _ ?_;clear hK K
    refine tk 3 rfl HQP hHeld fun K hK=>?_;go_simp;refine hK _ ?_;clear hK K
    refine tk 4 rfl HQP hHeld fun K hK=>?_;go_simp;refine hK _ ?_;clear hK K
    refine tk 5 rfl HQP hHeld fun K hK=>?_;go_simp;refine hK _ ?_;clear hK K
    refine tk 6 rfl HQP hHeld fun K hK=>?_;go_simp;refine hK _ ?_;clear hK K
    refine tk 7 rfl HQP hHeld fun K hK=>?_;go_simp;refine hK _ ?_;clear hK K
    refine tk 8 rfl HQP hHeld fun K hK=>?_;go_simp;refine hK _ ?_;clear hK K
    refine tk 9 rfl HQP hHeld fun K hK=>?_;go_simp;refine hK _ ?_;clear hK K
    refine tk 10 rfl HQP hHeld fun K hK=>?_;go_simp;refine hK _ ?_;clear hK K
    refine tk 11 rfl HQP hHeld fun K hK=>?_;go_simp;refine hK _ ?_;clear hK K
    refine tk 12 rfl HQP hHeld fun K hK=>?_;go_simp;refine hK _ ?_;clear hK K
    refine tk 13 rfl HQP hHeld fun K hK=>?_;go_simp;refine hK _ ?_;clear hK K
    refine tk 14 rfl HQP hHeld fun K hK=>?_;go_simp;refine hK _ ?_;clear hK K
    refine tk 15 rfl HQP hHeld fun K hK=>?_;go_simp;refine hK _ ?_;clear hK K
    refine tk 16 rfl HQP hHeld fun K hK=>?_;go_simp;refine hK _ ?_;clear hK K
    refine tk 17 rfl HQP hHeld fun K hK=>?_;go_simp;refine hK _ ?_;clear hK K
    refine tk 18 rfl HQP hHeld fun K hK=>?_;go_simp;refine hK _ ?_;clear hK K
    refine tk 20 rfl HQP hHeld fun K hK=>?_;go_simp;refine hK _ ?_;clear hK K
    refine ol 19 rfl fun K hK=>?_
    go_simp
    refine hK.out _ _ (fun _=>hHeld) ?_
    clear hK K
    refine ol 21 rfl fun K hK=>?_
    go_simp
    refine hK.out _ _ (fun _=>hHeld) ?_
    clear hK K
    refine tk 22 rfl HQP hHeld fun K hK=>?_;go_simp;refine hK _ ?_;clear hK K
    refine tk 23 rfl HQP hHeld fun K hK=>?_;go_simp;refine hK _ ?_;clear hK K
    refine done_L (by kernel_rfl) ?_ _
    refine HQX.out _ _ ?_
    clear HQX HQP QX
    have HL:Hid _:=HK2.out va hHeld
    clear hne q0 q1 q2 q3 q4 hHeld
    go_wp2
    go_roundw
    case rel=>exact ⟨k+1,by go_num,by rw [HE.out];go_num,by omega,HL.out.1,HL.out.2.1,HL.out.2.2.1⟩
    case measure=>simp [intOf];omega
   have h12:(p=x∧¬ q=z)∨¬ p=x:=by
    by_cases h1:p=x
    ·exact .inl ⟨h1,fun h2=>hpq ⟨h1,h2⟩⟩
    ·exact .inr h1
   have hsp:(P=XX∧Q=ZZ∧Hid (sumT x z (L.take (k+1))=T0+mm))∨(P=XX∧¬ Q=ZZ∧Hid (sumT x z (L.take (k+1))=T0+0))∨(¬ P=XX∧Hid (sumT x z (L.take (k+1))=T0+0)):=by
    have HE:=HSt.out
    by_cases h3:P=XX
    ·by_cases h4:Q=ZZ
     ·rw [if_pos (decide_eq_true ⟨hpq,h3,h4⟩)] at HE
      exact .inl ⟨h3,h4,HE⟩
     ·rw [if_neg (fun hc=>h4 (of_decide_eq_true hc).2.2)] at HE
      exact .inr (.inl ⟨h3,h4,HE⟩)
    ·rw [if_neg (fun hc=>h3 (of_decide_eq_true hc).2.1)] at HE
     exact .inr (.inr ⟨h3,HE⟩)
   clear hpq HSt
   rcases h12 with ⟨h1,h2⟩|h1
   all_goals rcases hsp with ⟨h3,h4,HE⟩|⟨h3,h4,HE⟩|⟨h3,HE⟩
   all_goals
    try (replace h1:=h1.symm;subst h1)
    try subst h3
    try subst h4
    go_wp2
    refine region_L (fun u=>Below wr.drew.heap.size wr.drew u) 99 (by kernel_rfl) ?_
    clear c1 x0 x1 HI
    have HK2:Hid _:=HKp.out _ rfl
    clear HKp
    generalize wr.drew=va at *
    have hHeld:(fun u=>Below va.heap.size va u) va:=Below.refl _ _
    have hne:Nonempty (Sub (fun u=>Below va.heap.size va u)):=⟨⟨_,hHeld⟩⟩
    have q0:∀ s:Sub (fun u=>Below va.heap.size va u),s.w.cell? ⟨w.heap.size,0,none⟩=some _:=fun s=>(HK2.out s.w s.ok).2.1
    have q1:∀ s:Sub (fun u=>Below va.heap.size va u),s.w.cell? ⟨w.heap.size,1,none⟩=some (.int .i64 z):=fun s=>(HK2.out s.w s.ok).2.2.1
    have q2:∀ s:Sub (fun u=>Below va.heap.size va u),s.w.cell? ⟨r,0,none⟩=some (.slice (some ⟨g,0,none⟩) L.length cv):=fun s=>(HK2.out s.w s.ok).2.2.2.1
    have q3:∀ s:Sub (fun u=>Below va.heap.size va u),s.w.cell? ⟨g,k*4,none⟩=some _:=fun s=>(HK2.out s.w s.ok).2.2.2.2.1
    have q4:∀ s:Sub (fun u=>Below va.heap.size va u),s.w.cell? ⟨g,k*4+1,none⟩=some _:=fun s=>(HK2.out s.w s.ok).2.2.2.2.2.1
    refine gen_L (by intro d v c a w h;cases d <;> exact h) (fun QX HQP HQX=>?_)
    refine tk 0 rfl HQP hHeld fun K hK=>?_;go_simp;refine hK _ ?_;clear hK K
    refine tk 1 rfl HQP hHeld fun K hK=>?_;go_simp;refine hK _ ?_;clear hK K
    refine tk 2 rfl HQP hHeld fun K hK=>?_;go_simp;refine hK _ ?_;clear hK K
    refine tk 3 rfl HQP hHeld fun K hK=>?_;go_simp;refine hK _ ?_;clear hK K
    refine tk 4 rfl HQP hHeld fun K hK=>?_;go_simp;refine hK _ ?_;clear hK K
    refine tk 5 rfl HQP hHeld fun K hK=>?_;go_simp;refine hK _ ?_;clear hK K
    refine tk 6 rfl HQP hHeld fun K hK=>?_;go_simp;refine hK _ ?_;clear hK K
    refine tk 7 rfl HQP hHeld fun K hK=>?_;go_simp;refine hK _ ?_;clear hK K
    refine tk 8 rfl HQP hHeld fun K hK=>?_;go_simp;refine hK _ ?_;clear hK K
    refine tk 9 rfl HQP hHeld fun K hK=>?_;go_simp;refine hK _ ?_;clear hK K
    refine tk 10 rfl HQP hHeld fun K hK=>?_;go_simp;refine hK _ ?_;clear hK K
    refine tk 11 rfl HQP hHeld fun K hK=>?_;go_simp;refine hK _ ?_;clear hK K
    refine tk 12 rfl HQP hHeld fun K hK=>?_;go_simp;refine hK _ ?_;clear hK K
    refine tk 13 rfl HQP hHeld fun K hK=>?_;go_simp;refine hK _ ?_;clear hK K
    refine tk 14 rfl HQP hHeld fun K hK=>?_;go_simp;refine hK _ ?_;clear hK K
    refine tk 15 rfl HQP hHeld fun K hK=>?_;go_simp;refine hK _ ?_;clear hK K
    refine tk 16 rfl HQP hHeld fun K hK=>?_;go_simp;refine hK _ ?_;clear hK K
    refine tk 17 rfl HQP hHeld fun K hK=>?_;go_simp;refine hK _ ?_;clear hK K
    refine tk 18 rfl HQP hHeld fun K hK=>?_;go_simp;refine hK _ ?_;clear hK K
    refine tk 20 rfl HQP hHeld fun K hK=>?_;go_simp;refine hK _ ?_;clear hK K
    refine ol 19 rfl fun K hK=>?_
    go_simp
    refine (HC1.out _).mono ?_
    rintro _ u1 ⟨rfl,hb1⟩
    replace hHeld:(fun u=>Below va.heap.size va u) u1:=Below.trans hHeld (hb1.mono (Below.size hHeld))
    refine hK.out _ _ (fun _=>hHeld) ?_
    clear hK K hb1
    refine ol 21 rfl fun K hK=>?_
    go_simp
    refine (HC2.out _).mono ?_
    rintro _ u2 ⟨rfl,hb2⟩
    replace hHeld:(fun u=>Below va.heap.size va u) u2:=Below.trans hHeld (hb2.mono (Below.size hHeld))
    refine hK.out _ _ (fun _=>hHeld) ?_
    clear hK K hb2
    refine tk 22 rfl HQP hHeld fun K hK=>?_;go_simp;refine hK _ ?_;clear hK K
    refine tk 23 rfl HQP hHeld fun K hK=>?_;go_simp;refine hK _ ?_;clear hK K
    refine done_L (by kernel_rfl) ?_ _
    refine HQX.out _ _ ?_
    clear HQX HQP QX
    have HL:Hid _:=HK2.out u2 hHeld
    clear hne q0 q1 q2 q3 q4 hHeld
    obtain ⟨hl0,hl1,hl2,hl3,hl4,hl5,hl6⟩:=HL.out
    go_wp2
    go_roundw
    case rel=>exact ⟨k+1,by go_num,by rw [HE.out];go_num,by omega,HL.out.1,HL.out.2.1,HL.out.2.2.1⟩
    case measure=>simp [intOf];omega
  ·obtain rfl:k=L.length:=by omega
   have R:=HP.out ((2+many+sumT x z (L.take L.length):Nat):Int) wr (by rw [List.take_length];rfl) hb
   clear hb HI hR0 HP HX HB HA x0 x1
   generalize sumT x z (L.take L.length)=T0 at *
   go_wp2
   exact R
end Go.Proofs.YtlllmmceoeihkaaGreat.Z
