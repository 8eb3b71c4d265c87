/-
  The document's Decode.
  Runs of cells, place by place.
  Places joined to a byte, one by one.
  An encoded chunk is bytes.
  The program's reader: what it checks and takes.
  The program's reader: a palette.
  The program's runs of places.
  The program's palette of a chunk.
  What the statements want of the program's Encode and Decode, and of the examples: under one name each, to be filled in.
  The chapter's examples, over what the program's Encode and Decode say.
  The document's store in memory: a list of entries; None, place, Load.
-/
import Derived.Test.YtlllmmceoeihkaaGreatKPfx
import Derived.BigQuiet
import Derived.WalkLawsBesides
import Derived.Deep.WholeRow
import Derived.Test.YtlllmmceoeihkaaGreatKGiven
import Derived.Test.YtlllmmceoeihkaaGreatSa
namespace Go.Proofs.YtlllmmceoeihkaaGreat.K
open Go.RowKit
def okTo (l:List Int) (j:Nat):Prop:=∀ i,i<j->l.getD i 0<=16∧(0<i->l.getD (i-1) 0<l.getD i 0)
theorem okTo_all {l:List Int} (h:okTo l l.length):okPal l=true:=by
 unfold okPal
 rw [List.all_eq_true]
 intro i hi
 obtain ⟨h1,h2⟩:=h i (List.mem_range.1 hi)
 rw [decide_eq_true h1,Bool.true_and]
 rcases i with _ | i
 ·rfl
 ·rw [decide_eq_true (h2 (by omega)),Bool.or_true]
theorem okTo_not {l:List Int} {i:Nat} (hi:i<l.length) (h:¬ (l.getD i 0<=16∧(0<i->l.getD (i-1) 0<l.getD i 0))):okPal l=false:=by
 unfold okPal
 rw [List.all_eq_false]
 refine ⟨i,List.mem_range.2 hi,?_⟩
 intro h2
 rw [Bool.and_eq_true,decide_eq_true_eq,Bool.or_eq_true] at h2
 refine h ⟨h2.1,fun h0=>?_⟩
 rcases h2.2 with h3 | h3
 ·have:i=0:=by simpa using h3
  omega
 ·exact of_decide_eq_true h3
end Go.Proofs.YtlllmmceoeihkaaGreat.K
namespace Go.Proofs.YtlllmmceoeihkaaGreat.K
open Go.RowKit
theorem runN_is (c:Int):∀ (L:List Int) (j:Nat),(∀ t,t<j->L[t]?=some c)->L[j]?≠some c->runN c L=j
 | [],j,h,_=>by
   rcases j with _ | j
   ·rfl
   ·have:=h 0 (by omega)
    simp at this
 | x::r,j,h,h2=>by
   unfold runN
   rcases j with _ | j
   ·rw [if_neg]
    intro e
    apply h2
    simp [e]
   ·have h0:=h 0 (by omega)
    have e:x=c:=by simpa using h0
    rw [if_pos e,runN_is c r j (fun t ht=>by have:=h (t+1) (by omega);simpa using this) (by simpa using h2)]
theorem encR_step (l cs:List Int) (I j:Nat) (hI:I<cs.length) (hj:runN cs[I] (cs.drop I)=j):1<=j∧encR l (cs.drop I)=putL (j:Int)++(plc l cs[I]:Int)::encR l (cs.drop (I+j)):=by
 have hd:cs.drop I=cs[I]::cs.drop (I+1):=List.drop_eq_getElem_cons hI
 have h1:runN cs[I] (cs.drop I)=runN cs[I] (cs.drop (I+1))+1:=by
  rw [hd]
  conv=>lhs;unfold runN
  rw [if_pos rfl]
 refine ⟨by omega,?_⟩
 rw [hd,encR_cons,List.drop_drop,show I+1+runN cs[I] (cs.drop (I+1))=I+j by omega,show runN cs[I] (cs.drop (I+1))+1=j by omega]
theorem putL_short (j:Nat) (h:j<=32768):(putL (j:Int)).length<=5:=by
 obtain ⟨_,_,h5⟩:=getL_putL (j:Int) (by omega) (by omega) []
 rw [putL_len _ (by omega) (by omega)]
 exact h5
theorem own_two (w:World) (a b:Int):Own (w.alloc (.cells #[.int .u8 a,.int .u8 b] 5)) w.heap.size (some ⟨w.heap.size,0,none⟩) 2 [a,b] :=
 ⟨rfl,.inr ⟨w.heap.size,2,_,rfl,Nat.le_refl _,heap_alloc_new w _,by simp,by simp [maxLen],rfl,rfl⟩⟩
theorem Own.capNil {w:World} {B:Nat} {a:Option Addr} {c:Nat} {ys:List Int} (h:Own w B a c ys):a=none->c=0:=by
 intro e
 rcases h.parts with ⟨_,hc,_⟩|⟨g,hg,_⟩
 ·exact hc
 ·rw [e] at hg;cases hg
end Go.Proofs.YtlllmmceoeihkaaGreat.K
namespace Go.Proofs.YtlllmmceoeihkaaGreat.K
open Go.RowKit
theorem or_back (a b:Int) (m:Nat) (h0:0<=a) (h1:a<2 ^ m) (hb:0<=b) (hm:b%2 ^ m=0) (hs:a+b<9223372036854775808):bits .or .i64 b a=b+a:=by
 obtain ⟨A,rfl⟩:=Int.eq_ofNat_of_zero_le h0
 obtain ⟨B,rfl⟩:=Int.eq_ofNat_of_zero_le hb
 have hA:A<2 ^ m:=by exact_mod_cast h1
 have hB:B%2 ^ m=0:=by exact_mod_cast hm
 rw [i64_or_nat B A (by omega) (by omega),nat_join m B A hB hA]
 omega
theorem undig_byte (w:Nat) (ps:List Int) (h:∀ p∈ps,0<=p∧p<2 ^ w) (hl:w*ps.length<=8):0<=undig w ps∧undig w ps<=255:=by
 have h1:=undig_fit w ps h
 have h2:2 ^ (w*ps.length)<=2 ^ 8:=Nat.pow_le_pow_right (by omega) hl
 generalize w*ps.length=e at *
 have h3:(2:Int) ^ e=((2 ^ e:Nat):Int):=by rw [Int.natCast_pow];rfl
 rw [h3] at h1
 have h4:(2:Nat) ^ 8=256:=rfl
 generalize 2 ^ e=f at *
 omega
theorem undig_drop (w:Nat) (L:List Int) (K:Nat) (h:K<L.length):undig w (L.drop K)=L[K]+2 ^ w*undig w (L.drop (K+1)):=by
 rw [List.drop_eq_getElem_cons h,undig]
theorem grp_len (l cs:List Int) (m I:Nat) (h:I*m+m<=cs.length):(grpP l cs m I).length=m:=by
 unfold grpP
 rw [List.length_map,List.length_take,List.length_drop]
 omega
theorem grp_at (l cs:List Int) (m I K:Nat) (h:I*m+m<=cs.length) (hK:K<m) (hg:K<(grpP l cs m I).length):(grpP l cs m I)[K]=(plc l (cs.getD (I*m+K) 0):Int):=by
 have h1:I*m+K<cs.length:=by omega
 refine Option.some.inj ?_
 rw [<- List.getElem?_eq_getElem hg,List.getD_eq_getElem?_getD,List.getElem?_eq_getElem h1]
 unfold grpP
 rw [List.getElem?_map,List.getElem?_take_of_lt hK,List.getElem?_drop,List.getElem?_eq_getElem h1]
 rfl
theorem grp_fit (l cs:List Int) (w m I:Nat) (hl:∀ x∈cs,x∈l) (hw:l.length<=2 ^ w):∀ p∈grpP l cs m I,0<=p∧p<2 ^ w:=by
 intro p hp
 unfold grpP at hp
 obtain ⟨c,hc,rfl⟩:=List.mem_map.1 hp
 have h1:=plc_lt (hl c (List.mem_of_mem_drop (List.mem_of_mem_take hc)))
 have h2:plc l c<2 ^ w:=by omega
 exact ⟨by omega,by exact_mod_cast h2⟩
theorem ix0 (g n c:Nat) (w:World):(Instr.indexAt 61 (.slice (some ⟨g,0,none⟩) (2+n) c) (.int .i64 0)).run Tryz.prog w = .ok (.pointer (some ⟨g,0,none⟩)) w:=by
 have h := @run_indexAt_slice Tryz.prog w 61 ⟨g,0,none⟩ (2+n) c .i64 0 (by kernel_rfl)
 have hc:(0:Int)<=0∧(0:Int)<((2+n:Nat):Int):=by omega
 rw [if_pos hc] at h
 exact h.trans (by kernel_rfl)
end Go.Proofs.YtlllmmceoeihkaaGreat.K
namespace Go.Proofs.YtlllmmceoeihkaaGreat.K
open Go.RowKit
theorem runN_most (c:Int):∀ L:List Int,runN c L<=L.length
 | []=>Nat.le_refl _
 | x::r=>by
   unfold runN
   have:=runN_most c r
   split
   ·rw [List.length_cons];omega
   ·exact Nat.zero_le _
theorem encR_fit (l:List Int) (hl:l.length<=17):∀ (n:Nat) (cs:List Int),cs.length<=n->n<=32768->(∀ x∈cs,x∈l)->∀ z∈encR l cs,0<=z∧z<=255
 | _,[],_,_,_,z,hz=>by simp [encR_nil] at hz
 | 0,_::_,h,_,_,_,_=>by simp at h
 | n+1,c::r,h,hn,hm,z,hz=>by
   have h1:=runN_most c r
   rw [List.length_cons] at h
   rw [encR_cons,List.mem_append,List.mem_cons] at hz
   rcases hz with hz | rfl | hz
   ·exact putL_fit _ (by omega) z hz
   ·have:=plc_lt (hm c (List.mem_cons_self ..))
    omega
   ·exact encR_fit l hl n (r.drop (runN c r)) (by rw [List.length_drop];omega) (by omega) (fun x hx=>hm x (List.mem_cons_of_mem _ (List.mem_of_mem_drop hx))) z hz
theorem packTo_fit (l cs:List Int) (w m:Nat) (hf:∀ i,∀ p∈grpP l cs m i,0<=p∧p<2 ^ w) (hw:∀ i,w*(grpP l cs m i).length<=8):∀ n,∀ z∈packTo l cs w m n,0<=z∧z<=255
 | 0,z,hz=>by simp [packTo] at hz
 | n+1,z,hz=>by
   rw [packTo,List.mem_append,List.mem_singleton] at hz
   rcases hz with hz | rfl
   ·exact packTo_fit l cs w m hf hw n z hz
   ·exact undig_byte w _ (hf n) (hw n)
theorem grp_most (l cs:List Int) (m i:Nat):(grpP l cs m i).length<=m:=by
 unfold grpP
 rw [List.length_map,List.length_take]
 omega
theorem head_fit {cs:List Int} {f:Int} (h0:0<=f) (h1:f<=255):∀ z∈headL f (pal cs),0<=z∧z<=255:=by
 intro z hz
 have hp:=pal_len cs
 unfold headL at hz
 rcases List.mem_cons.1 hz with rfl | hz
 ·exact ⟨h0,h1⟩
 ·rcases List.mem_cons.1 hz with rfl | hz
  ·omega
  ·exact palTo_fit cs 17 (Nat.le_refl _) z hz
theorem enc_fit {cs:List Int} (hk:Kinds cs) (hl:cs.length=32768):∀ z∈encL cs,0<=z∧z<=255:=by
 intro z hz
 have hm:∀ x∈cs,x∈pal cs:=fun x hx=>mem_pal hk hx
 unfold encL at hz
 split at hz
 ·unfold oneL at hz
  rcases List.mem_append.1 hz with hz | hz
  ·exact head_fit (by omega) (by omega) z hz
  ·exact encR_fit (pal cs) (pal_len cs) 32768 cs (by omega) (by omega) hm z hz
 ·unfold twoL at hz
  rcases List.mem_append.1 hz with hz | hz
  ·exact head_fit (by omega) (by omega) z hz
  ·refine packTo_fit _ _ _ _ (fun i=>grp_fit _ _ _ _ _ hm (wid_fit (pal_len cs))) (fun i=>?_) _ z hz
   have h1:=grp_most (pal cs) cs (8/wid (pal cs).length) i
   refine Nat.le_trans (Nat.mul_le_mul_left _ h1) ?_
   rcases wid_is (pal cs).length with h | h | h | h <;> rw [h] <;> omega
end Go.Proofs.YtlllmmceoeihkaaGreat.K
namespace Go.Proofs.YtlllmmceoeihkaaGreat.K
open Go.RowKit
abbrev gives (e:Int):Ending:=.panicked [{ v:=.iface 28 (.int .i64 e),recovered:=false }]
theorem check_yes (e:Int) (w:World):Calls Tryz.prog 109 #[.bool true,.int .i64 e] w fun x w'=>x = .returned (.tuple #[])∧w'=w:=by
 go_enter Tryz.func109,Tryz.ntmps109
 go_wp2
 go_end0
 exact ⟨rfl,rfl⟩
theorem check_no (e:Int) (w:World):Calls Tryz.prog 109 #[.bool false,.int .i64 e] w fun x w'=>x=gives e∧w'=w:=by
 go_enter Tryz.func109,Tryz.ntmps109
 go_wp2
 exact ⟨rfl,rfl,rfl⟩
def Rdr (w:World) (q:Nat) (a:Option Addr) (n c:Nat):Prop:=w.heap[q]?=some (.cells #[.slice a n c] 157 (0,0))
theorem Rdr.cell {w:World} {q:Nat} {a:Option Addr} {n c:Nat} (h:Rdr w q a n c):w.cell? ⟨q,0,none⟩=some (.slice a n c):=by
 rw [cell_of_row w q 0 _ 157 (0,0) h];rfl
theorem Rdr.free {w:World} {q:Nat} {a:Option Addr} {n c:Nat} (h:Rdr w q a n c):w.frozen? ⟨q,0,none⟩=false:=frozen_of_row w q 0 _ 157 h
theorem Rdr.lt {w:World} {q:Nat} {a:Option Addr} {n c:Nat} (h:Rdr w q a n c):q<w.heap.size:=(Array.getElem?_eq_some_iff.1 h).1
theorem Rdr.set {w:World} {q:Nat} {a:Option Addr} {n c:Nat} (h:Rdr w q a n c) (a':Option Addr) (n' c':Nat):Rdr (w.setCell ⟨q,0,none⟩ (.slice a' n' c')) q a' n' c':=by
 unfold Rdr
 rw [heap_setCell_same w q 0 _ 157 _ h]
 rfl
theorem Rdr.only {w w':World} {q g:Nat} {a:Option Addr} {n c:Nat} (h:Rdr w q a n c) (o:Only g w w') (hb:q≠g):Rdr w' q a n c:=(o.block q hb).trans h
theorem Rdr.below {w w':World} {q m:Nat} {a:Option Addr} {n c:Nat} (h:Rdr w q a n c) (hb:Below m w w') (hn:q<m):Rdr w' q a n c:=(hb.block q hn).trans h
theorem slice_to (b off n c m:Nat) (h1:1<=m) (h2:m<=n) (h3:n<=c):∀ w,(Instr.sliceAt 61 (.slice (some ⟨b,off,none⟩) n c) none (some (.int .i64 (m:Int))) none).run Tryz.prog w = .ok (.slice (some ⟨b,off,none⟩) m c) w:=fun w=>by
 rw [run_sliceAt_slice w 61 _ _ _ _ (by kernel_rfl),run_slice_h w 61 (some ⟨b,off,none⟩) n c (by kernel_rfl) .i64 m (by omega) (by omega),show Tryz.prog.elem 61=5 by kernel_rfl,sizeOf5,Result.andThen_ok,Int.toNat_natCast]
 unfold sliced
 rw [if_neg (by omega),Nat.sub_zero,Nat.sub_zero]
 rfl
theorem take_no (q:Nat) (a:Option Addr) (n c m:Nat) (w:World) (hR:Rdr w q a n c) (h:n<m):Calls Tryz.prog 108 #[.pointer (some ⟨q,0,none⟩),.int .i64 (m:Int)] w fun e w'=>e=gives 3∧w'=w:=by
 have hc:=hR.cell
 have h':¬ (m:Int)<=n:=by omega
 go_enter Tryz.func108,Tryz.ntmps108
 go_wp2_with fail
 refine (check_no 3 w).mono ?_
 rintro _ _ ⟨rfl,rfl⟩
 go_wp2
 exact ⟨rfl,rfl,rfl⟩
theorem take_yes (q b off n c m:Nat) (w:World) (hR:Rdr w q (some ⟨b,off,none⟩) n c) (h1:1<=m) (h:m<=n) (hn:n<=c):Calls Tryz.prog 108 #[.pointer (some ⟨q,0,none⟩),.int .i64 (m:Int)] w fun e w' =>
  e = .returned (.slice (some ⟨b,off,none⟩) m c)∧∃ o',(m=c∨o'=off+m)∧Rdr w' q (some ⟨b,o',none⟩) (n-m) (c-m)∧Only q w w':=by
 have hc:=hR.cell
 have hf:=hR.free
 have h':(m:Int)<=n:=by omega
 obtain ⟨o2,hsl,ho⟩:=slice_from b off n c m h
 have hst:=slice_to b off n c m h1 h hn
 have HF:Hid (Rdr (w.setCell ⟨q,0,none⟩ (.slice (some ⟨b,o2,none⟩) (n-m) (c-m))) q (some ⟨b,o2,none⟩) (n-m) (c-m)):=hR.set _ _ _
 have HO:Hid (Only q w (w.setCell ⟨q,0,none⟩ (.slice (some ⟨b,o2,none⟩) (n-m) (c-m)))):=(Only.refl q w).set 0 _
 have Ho:Hid (m=c∨o2=off+m):=ho
 clear hR ho
 generalize n-m=n2 at *
 generalize c-m=c2 at *
 have hck:=check_yes 3 w
 go_enter Tryz.func108,Tryz.ntmps108
 go_wp2_with fail
 refine hck.mono ?_
 clear hck
 rintro _ _ ⟨rfl,rfl⟩
 go_wp2
 go_ret
 exact ⟨rfl,o2,Ho.out,HF.out,HO.out⟩
theorem getF_two:∀ (f i:Nat) (acc:Int) (xs:List Int),(getF f i acc xs).2=0->(getF f i acc xs).1=0
 | 0,_,_,_,_=>rfl
 | _+1,_,_,[],_=>rfl
 | f + 1,i,acc,z::r,h=>by
   unfold getF at h ⊢
   split
   ·rename_i h1
    rw [if_pos h1] at h
    split
    ·rfl
    ·rename_i h2
     rw [if_neg h2] at h
     simp only at h
     omega
   ·rename_i h1
    rw [if_neg h1] at h
    exact getF_two f (i+1) _ r h
theorem getL_two {xs:List Int} (h:(getL xs).2=0):(getL xs).1=0:=getF_two 5 0 0 xs h
theorem check_not {h:Bool} (hh:h=false) (e:Int) (w:World):Calls Tryz.prog 109 #[.bool h,.int .i64 e] w fun x w'=>x=gives e∧w'=w:=by
 subst hh;exact check_no e w
theorem check_is {h:Bool} (hh:h=true) (e:Int) (w:World):Calls Tryz.prog 109 #[.bool h,.int .i64 e] w fun x w'=>x = .returned (.tuple #[])∧w'=w:=by
 subst hh;exact check_yes e w
theorem number_short (q:Nat) (a:Option Addr) (c:Nat) (M:Int) (w:World) (hR:Rdr w q a 0 c):Calls Tryz.prog 134 #[.pointer (some ⟨q,0,none⟩),.int .i64 M] w fun e w'=>e=gives 3∧w'=w:=by
 have hc:=hR.cell
 have hck:=check_no 3 w
 clear hR
 go_enter Tryz.func134,Tryz.ntmps134
 go_wp2_with fail
 refine hck.mono ?_
 clear hck
 rintro _ _ ⟨rfl,rfl⟩
 go_wp2
 exact ⟨rfl,rfl,rfl⟩
theorem number_form (q:Nat) (a:Option Addr) (n c:Nat) (bs:List Int) (M:Int) (w:World) (hR:Rdr w q a n c) (hB:Bytes w a n bs) (hn:0<n) (hb:n<=1000000) (hg:(getL bs).1<1∨M<(getL bs).1) :
  Calls Tryz.prog 134 #[.pointer (some ⟨q,0,none⟩),.int .i64 M] w fun e w'=>e=gives 4∧w'=w:=by
 have hc:=hR.cell
 have hck:=check_yes 3 w
 have hck2:=check_no 4 w
 have hget:=get_any a n c bs w (by omega) hB
 have hn':(0:Int)<n:=by omega
 generalize (getL bs).1=v at *
 generalize (getL bs).2=s at *
 clear hR hB hb
 by_cases h1:v<1
 ·have h1':¬ (1:Int)<=v:=by omega
  clear hg h1
  go_enter Tryz.func134,Tryz.ntmps134
  go_wp2_with fail
  refine hck.mono ?_
  clear hck
  rintro _ _ ⟨rfl,rfl⟩
  go_wp2_with fail
  refine hget.mono ?_
  clear hget
  rintro _ _ ⟨rfl,rfl⟩
  go_wp2_with fail
  refine hck2.mono ?_
  clear hck2
  rintro _ _ ⟨rfl,rfl⟩
  go_wp2
  exact ⟨rfl,rfl,rfl⟩
 ·have h1':(1:Int)<=v:=by omega
  have h2':¬ v<=M:=by omega
  have H2:Hid (¬ v<=M):=h2'
  clear hg h1 hck2
  go_enter Tryz.func134,Tryz.ntmps134
  go_wp2_with fail
  refine hck.mono ?_
  clear hck
  rintro _ _ ⟨rfl,rfl⟩
  go_wp2_with fail
  refine hget.mono ?_
  clear hget
  rintro _ _ ⟨rfl,rfl⟩
  go_wp2_with fail
  refine (check_not (decide_eq_false (by have:=H2.out;omega)) 4 _).mono ?_
  rintro _ _ ⟨rfl,rfl⟩
  go_wp2
  exact ⟨rfl,rfl,rfl⟩
theorem number_yes (q b off n c s:Nat) (bs:List Int) (M:Int) (w:World) (hR:Rdr w q (some ⟨b,off,none⟩) n c) (hB:Bytes w (some ⟨b,off,none⟩) n bs) (hn:0<n) (hc:n<=c) (hb:n<=1000000) (h1:1<=(getL bs).1) (h2:(getL bs).1<=M) (hs:(getL bs).2=(s:Int)) :
  Calls Tryz.prog 134 #[.pointer (some ⟨q,0,none⟩),.int .i64 M] w fun e w'=>e = .returned (.int .i64 (getL bs).1)∧∃ o',(s=c∨o'=off+s)∧Rdr w' q (some ⟨b,o',none⟩) (n-s) (c-s)∧Only q w w':=by
 have hcl:=hR.cell
 have hck:=check_yes 3 w
 have hck2:=check_yes 4 w
 have hin:=getL_in hB.fit
 have hl:=hB.n
 have hs1:1<=s:=by
  rcases Nat.eq_zero_or_pos s with e | e
  ·have:=getL_two (xs:=bs) (by rw [hs,e];rfl)
   omega
  ·exact e
 have htk:=take_yes q b off n c s w hR hs1 (by omega) hc
 have hget:=get_any (some ⟨b,off,none⟩) n c bs w (by omega) hB
 have hn':(0:Int)<n:=by omega
 rw [hs] at hget
 generalize (getL bs).1=v at *
 clear hR hB hb hin hl hs hs1
 go_enter Tryz.func134,Tryz.ntmps134
 go_wp2_with fail
 refine hck.mono ?_
 clear hck
 rintro _ _ ⟨rfl,rfl⟩
 go_wp2_with fail
 refine hget.mono ?_
 clear hget
 rintro _ _ ⟨rfl,rfl⟩
 go_wp2_with fail
 refine hck2.mono ?_
 clear hck2
 rintro _ _ ⟨rfl,rfl⟩
 go_wp2_with fail
 refine htk.mono ?_
 clear htk
 rintro _ w2 ⟨rfl,o2,ho,hR2,hO2⟩
 go_wp2
 go_ret
 exact ⟨rfl,o2,ho,hR2,hO2⟩
structure IsPal (X:Array Value) (l:List Int):Prop where
 size:X.size=18
 many:X[17]?=some (.int .i64 (l.length:Int))
 kinds:∀ j,j<17->X[j]?=some (.int .u8 (l.getD j 0))
theorem kind_no (X:Array Value) (l:List Int) (P:Int) (w:World) (hX:IsPal X l) (h:(l.length:Int)<=P):Calls Tryz.prog 135 #[.agg X,.int .i64 P] w fun e w'=>e=gives 4∧Below w.heap.size w w':=by
 have h17:=hX.many
 have R:Below w.heap.size w (w.alloc (.cells X 192)):=(Below.refl _ _).alloc (Nat.le_refl _) _
 have H2:Hid (¬ P<(l.length:Int)):=by show ¬ _;omega
 clear hX h
 generalize l.length=K at *
 go_enter Tryz.func135,Tryz.ntmps135
 go_wp2_with fail
 refine (check_not (decide_eq_false (by have:=H2.out;omega)) 4 _).mono ?_
 rintro _ _ ⟨rfl,rfl⟩
 go_wp2
 exact ⟨rfl,rfl,R⟩
theorem kind_yes (X:Array Value) (l:List Int) (P:Nat) (w:World) (hX:IsPal X l) (hl:l.length<=17) (h:P<l.length) (hb:0<=l.getD P 0∧l.getD P 0<=255):Calls Tryz.prog 135 #[.agg X,.int .i64 (P:Int)] w fun e w'=>e = .returned (.int .i64 (l.getD P 0))∧Below w.heap.size w w':=by
 have h17:=hX.many
 have hP:=hX.kinds P (by omega)
 have R:Below w.heap.size w (w.alloc (.cells X 192)):=(Below.refl _ _).alloc (Nat.le_refl _) _
 have H2:Hid ((P:Int)<(l.length:Int)):=by show (P:Int)<(l.length:Int);omega
 have hp:(P:Int)<17:=by omega
 clear hX h
 generalize l.length=K at *
 generalize l.getD P 0=x at *
 obtain ⟨x0,x1⟩:=hb
 go_enter Tryz.func135,Tryz.ntmps135
 go_wp2_with fail
 refine (check_is (decide_eq_true (by have:=H2.out;omega)) 4 _).mono ?_
 rintro _ _ ⟨rfl,rfl⟩
 go_wp2
 go_ret
 exact ⟨rfl,R⟩
set_option maxHeartbeats 1000000 in
theorem width_c (X:Array Value) (l:List Int) (w:World) (hX:IsPal X l) (hn:l.length<=17):Calls Tryz.prog 116 #[.agg X] w fun e w'=>e = .returned (.int .i64 (wid l.length:Int))∧Below w.heap.size w w':=by
 have h17:=hX.many
 have RB:Below w.heap.size w (w.alloc (.cells X 192)):=(Below.refl _ _).alloc (Nat.le_refl _) _
 clear hX
 generalize l.length=n at *
 obtain ⟨R,hR⟩:∃ R,R=wid n:=⟨_,rfl⟩
 rw [<- hR]
 have HR:Hid (R=wid n):=hR
 clear hR
 have hcell:(w.alloc (.cells X 192)).cell? ⟨w.heap.size,17,none⟩=some (.int .i64 (n:Int)):=by
  rw [cell_of_row _ w.heap.size 17 X 192 (0,0) (heap_alloc_new w _)];exact h17
 go_enter Tryz.func116,Tryz.ntmps116
 go_wp2
 clear h17
 generalize w.alloc (.cells X 192)=wa at *
 go_loopw [3] (fun v wr=>(v = .int .i64 1∨(v = .int .i64 2∧2<n)∨(v = .int .i64 4∧4<n)∨(v = .int .i64 8∧16<n))∧Below w.heap.size w wr∧Hid (wr.cell? ⟨w.heap.size,17,none⟩=some (.int .i64 (n:Int)))) (fun v _=>8-(intOf v).toNat)
 case atStart=>exact ⟨Or.inl rfl,RB,hcell⟩
 case round =>
  obtain ⟨hv,hb,hcl⟩:=hrel
  have hcl':=hcl.out
  clear hcell RB
  rcases hv with rfl | ⟨rfl,h⟩|⟨rfl,h⟩|⟨rfl,h⟩
  ·by_cases h2:2<n
   ·have h2':(2:Int)<n:=by omega
    clear HR
    go_wp2_with fail
    go_big_quiet (fail)
    go_wp2
    go_roundw
    case rel=>exact ⟨Or.inr (Or.inl ⟨rfl,h2⟩),⟨hb.os,hb.tape,hb.output,hb.size,hb.block⟩,hcl⟩
    case measure=>simp [intOf]
   ·have h2':¬ (2:Int)<n:=by omega
    have e:R=1:=by rw [HR.out];unfold wid;rw [if_pos (by omega)]
    subst e
    clear HR
    go_wp2_with fail
    go_big_quiet (fail)
    go_wp2
    go_ret
    exact ⟨rfl,⟨hb.os,hb.tape,hb.output,hb.size,hb.block⟩⟩
  ·by_cases h2:4<n
   ·have h2':(4:Int)<n:=by omega
    clear HR
    go_wp2_with fail
    go_big_quiet (fail)
    go_wp2
    go_roundw
    case rel=>exact ⟨Or.inr (Or.inr (Or.inl ⟨rfl,h2⟩)),⟨hb.os,hb.tape,hb.output,hb.size,hb.block⟩,hcl⟩
    case measure=>simp [intOf]
   ·have h2':¬ (4:Int)<n:=by omega
    have e:R=2:=by rw [HR.out];unfold wid;rw [if_neg (by omega),if_pos (by omega)]
    subst e
    clear HR
    go_wp2_with fail
    go_big_quiet (fail)
    go_wp2
    go_ret
    exact ⟨rfl,⟨hb.os,hb.tape,hb.output,hb.size,hb.block⟩⟩
  ·by_cases h2:16<n
   ·have h2':(16:Int)<n:=by omega
    clear HR
    go_wp2_with fail
    go_big_quiet (fail)
    go_wp2
    go_roundw
    case rel=>exact ⟨Or.inr (Or.inr (Or.inr ⟨rfl,h2⟩)),⟨hb.os,hb.tape,hb.output,hb.size,hb.block⟩,hcl⟩
    case measure=>simp [intOf]
   ·have h2':¬ (16:Int)<n:=by omega
    have e:R=4:=by rw [HR.out];unfold wid;rw [if_neg (by omega),if_neg (by omega),if_pos (by omega)]
    subst e
    clear HR
    go_wp2_with fail
    go_big_quiet (fail)
    go_wp2
    go_ret
    exact ⟨rfl,⟨hb.os,hb.tape,hb.output,hb.size,hb.block⟩⟩
  ·have h2':¬ (256:Int)<n:=by omega
   have e:R=8:=by rw [HR.out];unfold wid;rw [if_neg (by omega),if_neg (by omega),if_neg (by omega)]
   subst e
   clear HR
   go_wp2_with fail
   go_big_quiet (fail)
   go_wp2
   go_ret
   exact ⟨rfl,⟨hb.os,hb.tape,hb.output,hb.size,hb.block⟩⟩
theorem size_c (K:Nat) (w:World) (h:K=1∨K=2∨K=4∨K=8):Calls Tryz.prog 117 #[.int .i64 (K:Int)] w fun e w'=>e = .returned (.int .i64 ((4096*K:Nat):Int))∧w'=w:=by
 rcases h with rfl | rfl | rfl | rfl
 all_goals
  go_enter Tryz.func117,Tryz.ntmps117
  go_wp2
  go_ret
  exact ⟨rfl,rfl⟩
end Go.Proofs.YtlllmmceoeihkaaGreat.K
namespace Go.Proofs.YtlllmmceoeihkaaGreat.K
open Go.RowKit
theorem only_setRow (w:World) (g:Nat) (cs:Array Value):Only g w (w.setRow g cs) :=
 ⟨rfl,rfl,rfl,by simp [World.setRow],fun k hk=>by
  simp only [World.setRow,Array.getElem?_modify]
  rw [if_neg (by omega)]⟩
structure PalAt (w:World) (g:Nat) (l:List Int) (K:Nat) (X:Array Value):Prop where
 heap:w.heap[g]?=some (.cells X 192 (0,0))
 size:X.size=18
 many:X[17]?=some (.int .i64 (K:Int))
 kinds:∀ j,j<17->X[j]?=some (.int .u8 (l.getD j 0))
 one:X.all (·.oneCell')=true
theorem PalAt.is {w:World} {g K:Nat} {l:List Int} {X:Array Value} (h:PalAt w g l K X) (hk:l.length=K):IsPal X l:=⟨h.size,by rw [h.many,hk],h.kinds⟩
theorem PalAt.free {w:World} {g K:Nat} {l:List Int} {X:Array Value} (h:PalAt w g l K X) (k:Nat):w.frozen? ⟨g,k,none⟩=false:=frozen_of_row w g k _ 192 h.heap
theorem PalAt.cell {w:World} {g K:Nat} {l:List Int} {X:Array Value} (h:PalAt w g l K X) {j:Nat} (hj:j<17):w.cell? ⟨g,j,none⟩=some (.int .u8 (l.getD j 0)):=by
 rw [cell_of_row w g j _ 192 (0,0) h.heap];exact h.kinds j hj
theorem PalAt.num {w:World} {g K:Nat} {l:List Int} {X:Array Value} (h:PalAt w g l K X):w.cell? ⟨g,17,none⟩=some (.int .i64 (K:Int)):=by
 rw [cell_of_row w g 17 _ 192 (0,0) h.heap];exact h.many
theorem PalAt.set {w:World} {g K:Nat} {l l':List Int} {X:Array Value} (h:PalAt w g l K X) {J:Nat} {x:Int} (hJ:J<17) (hl:∀ j,j<17->l'.getD j 0=if j=J then x else l.getD j 0) :
  PalAt (w.setCell ⟨g,J,none⟩ (.int .u8 x)) g l' K (X.setIfInBounds J (.int .u8 x)):=by
 have hs:=h.size
 refine ⟨by rw [heap_setCell_same w g J _ 192 _ h.heap],by rw [Array.size_setIfInBounds,hs],?_,fun j hj=>?_,?_⟩
 ·rw [Array.getElem?_setIfInBounds,if_neg (by omega)];exact h.many
 ·rw [Array.getElem?_setIfInBounds,hl j hj]
  by_cases e:J=j
  ·subst e;rw [if_pos rfl,if_pos (by omega),if_pos rfl]
  ·rw [if_neg e,if_neg (by omega)];exact h.kinds j hj
 ·rw [Array.all_eq_true_iff_forall_mem]
  intro v hv
  rcases Array.mem_or_eq_of_mem_setIfInBounds hv with hv | hv
  ·exact (Array.all_eq_true_iff_forall_mem.1 h.one) v hv
  ·subst hv;rfl
theorem wpList_store_pal {ops:Array Oper} {rest:List Oper} {o:Oper} {a:Act} {w:World} {Q:Exit->Act->World->Prop} (hgd:o.guard=none) (x y:Operand) (ho:o.op = .store 192 x y)
  (g:Nat) (X:Array Value) (hx:a.eval x = .pointer (some ⟨g,0,none⟩)) (hy:a.eval y = .agg X) (old:Array Value) (hg:w.heap[g]?=some (.cells old 192 (0,0))) (hold:old.size=18) (hs:X.size=18) (h1:X.all (·.oneCell')=true)
  (h:∀ w',Only g w w'->w'.heap[g]?=some (.cells X 192 (0,0))->wpList Tryz.prog ops Q rest (a.put o.dst undef) w'):wpList Tryz.prog ops Q (o::rest) a w :=
 wpList_store_row hgd 192 x y ho g X hx hy 192 old hg (by rw [hs];kernel_rfl) (by rw [hold,hs]) h1 (h _ (only_setRow w g X) (setRow_heap w g old X 192 (0,0) hg))
theorem wpList_load_pal {ops:Array Oper} {rest:List Oper} {o:Oper} {a:Act} {w:World} {Q:Exit->Act->World->Prop} (hgd:o.guard=none) (x:Operand) (ho:o.op = .load 192 x)
  (g:Nat) (X:Array Value) (hx:a.eval x = .pointer (some ⟨g,0,none⟩)) (hg:w.heap[g]?=some (.cells X 192 (0,0))) (hs:X.size=18)
  (h:wpList Tryz.prog ops Q rest (a.put o.dst (.agg X)) w):wpList Tryz.prog ops Q (o::rest) a w:=by
 refine wpList_load_mid hgd 192 x ho g 0 hx X.toList _ (fun j v hv=>?_) Tryz.underlying192 rfl (by rw [Array.length_toList,hs];kernel_rfl) ?_
 ·rw [Nat.zero_add,cell_of_row w g j _ 192 (0,0) hg];simpa using hv
 ·rw [Array.toArray_toList];exact h
def palZ (K:Int):Array Value := #[.int .u8 0,.int .u8 0,.int .u8 0,.int .u8 0,.int .u8 0,.int .u8 0,.int .u8 0,.int .u8 0,.int .u8 0,.int .u8 0,.int .u8 0,.int .u8 0,.int .u8 0,.int .u8 0,.int .u8 0,.int .u8 0,.int .u8 0,.int .i64 K]
theorem PalAt.zero {w:World} {g K:Nat} (h:w.heap[g]?=some (.cells (palZ K) 192 (0,0))):PalAt w g [] K (palZ K):=by
 refine ⟨h,rfl,rfl,fun j hj=>?_,by simp [palZ,Value.oneCell']⟩
 have:∀ j:Fin 17,(palZ K)[j.val]?=some (.int .u8 0):=by
  intro j
  rcases j with ⟨j,hj⟩
  rcases j with _ | _ | _ | _ | _ | _ | _ | _ | _ | _ | _ | _ | _ | _ | _ | _ | _ | j
  all_goals first | rfl | omega
 exact this ⟨j,hj⟩
theorem heap_new_two (w:World) (o1 o2:Obj):((w.alloc o1).alloc o2).heap[w.heap.size+1]?=some o2:=by
 have:=heap_alloc_new (w.alloc o1) o2
 rwa [World.size_alloc] at this
theorem heap_new_one (w:World) (o1 o2:Obj):((w.alloc o1).alloc o2).heap[w.heap.size]?=some o1:=by
 have h:=(Below.refl (w.heap.size+1) (w.alloc o1)).alloc (by rw [World.size_alloc];exact Nat.le_refl _) o2
 rw [h.block w.heap.size (by omega)]
 exact heap_alloc_new w o1
theorem Bytes.under {w w':World} {b off n q:Nat} {xs:List Int} (h:Bytes w (some ⟨b,off,none⟩) n xs) (hb:Below q w w') (hq:b<q):Bytes w' (some ⟨b,off,none⟩) n xs:=by
 refine ⟨h.n,?_,h.fit⟩
 rcases h.cells with e | ⟨b',o',e,hc⟩
 ·exact Or.inl e
 ·cases e
  refine Or.inr ⟨_,_,rfl,fun k hk=>?_⟩
  have:=hc k hk
  unfold World.cell? at this ⊢
  rw [hb.block b hq]
  exact this
def Lefts (w:World) (q b:Nat) (bs:List Int):Prop:=∃ off n c,Rdr w q (some ⟨b,off,none⟩) n c∧Bytes w (some ⟨b,off,none⟩) n bs∧n<=c∧b<q∧n<=1000000
theorem Lefts.moved {w w':World} {q b off n c m o':Nat} {bs:List Int} (hB:Bytes w (some ⟨b,off,none⟩) n bs) (hb:b<q) (hn:n<=c) (h6:n<=1000000) (hw:Below q w w') (hm:m<=n) (ho:m=c∨o'=off+m) (hR:Rdr w' q (some ⟨b,o',none⟩) (n-m) (c-m)) :
  Lefts w' q b (bs.drop m):=⟨o',n-m,c-m,hR,(hB.under hw hb).from hm hn ho,by omega,hb,by omega⟩
theorem Lefts.below {w w':World} {q b m:Nat} {bs:List Int} (h:Lefts w q b bs) (hb:Below m w w') (hm:q<m):Lefts w' q b bs:=by
 obtain ⟨off,n,c,h1,h2,h3,h4,h5⟩:=h
 exact ⟨off,n,c,h1.below hb hm,h2.under hb (by omega),h3,h4,h5⟩
theorem Lefts.only {w w':World} {q b g:Nat} {bs:List Int} (h:Lefts w q b bs) (hb:Only g w w') (hm:q<g):Lefts w' q b bs:=h.below (hb.below (Nat.le_refl _)) hm
theorem Lefts.lt {w:World} {q b:Nat} {bs:List Int} (h:Lefts w q b bs):q<w.heap.size:=by
 obtain ⟨off,n,c,h1,_⟩:=h
 exact h1.lt
theorem two_new {w w1:World} {o1 o2:Obj} (h:Only (w.heap.size+1) ((w.alloc o1).alloc o2) w1):Below w.heap.size w w1∧w1.heap[w.heap.size]?=some o1:=by
 have h1:Below w.heap.size w ((w.alloc o1).alloc o2):=((Below.refl _ _).alloc (Nat.le_refl _) o1).alloc (by rw [World.size_alloc];omega) o2
 exact ⟨h1.trans (h.below (Nat.le_succ _)),(h.block _ (by omega)).trans (heap_new_one w o1 o2)⟩
set_option maxHeartbeats 1000000 in
theorem rpal_short (q:Nat) (a:Option Addr) (n c K:Nat) (w:World) (hR:Rdr w q a n c) (h:n<K):Calls Tryz.prog 110 #[.pointer (some ⟨q,0,none⟩),.int .i64 (K:Int)] w fun e w'=>e=gives 3∧Below q w w':=by
 have hq:=hR.lt
 go_enter Tryz.func110,Tryz.ntmps110
 go_wp2_with (refine wpList_store_pal rfl (.tmp 5) (.tmp 10) rfl (w.heap.size+1) (palZ K) rfl rfl (palZ 0) (heap_new_two w _ _) rfl rfl (by simp [palZ,Value.oneCell']) ?_;intro w1 hO1 hp1;obtain ⟨hb1,_⟩:=two_new hO1;clear hO1 hp1)
 refine (take_no q a n c K w1 (hR.below hb1 hq) h).mono ?_
 rintro _ _ ⟨rfl,rfl⟩
 have R:=hb1.mono (Nat.le_of_lt hq)
 clear hb1 hR
 go_wp2
 exact ⟨rfl,rfl,R⟩
def lastOf (l:List Int) (J:Nat):Int:=if J=0 then -1 else l.getD (J-1) 0
theorem okTo_more {l:List Int} {J:Nat} {x:Int} (h:okTo l J) (hx:l.getD J 0=x) (h1:lastOf l J<x) (h2:x<17):okTo l (J+1):=fun i hi=>by
 by_cases e:i=J
 ·subst e
  refine ⟨by omega,fun h0=>?_⟩
  unfold lastOf at h1
  rw [if_neg (by omega)] at h1
  rw [hx];exact h1
 ·exact h i (by omega)
theorem okTo_stop {l:List Int} {J:Nat} {x:Int} (hJ:J<l.length) (hx:l.getD J 0=x) (h0:0<=x) (h:¬ (lastOf l J<x∧x<17)):okPal l=false:=by
 refine okTo_not hJ fun ⟨h1,h2⟩=>h ⟨?_,by omega⟩
 unfold lastOf
 by_cases e:J=0
 ·rw [if_pos e];omega
 ·rw [if_neg e,<- hx];exact h2 (by omega)
theorem take_getD (l:List Int) (J j:Nat) (hJ:J<l.length):(l.take (J+1)).getD j 0=if j=J then l.getD J 0 else (l.take J).getD j 0:=by
 simp only [List.getD_eq_getElem?_getD,List.getElem?_take]
 by_cases e:j=J
 ·subst e;simp
 ·rw [if_neg e]
  by_cases h:j<J
  ·rw [if_pos h,if_pos (by omega)]
  ·rw [if_neg h,if_neg (by omega)]
set_option maxHeartbeats 1000000 in
theorem rpal_c (q b K:Nat) (bs:List Int) (w:World) (hL:Lefts w q b bs) (hK1:1<=K) (hK:K<=17) (hKl:K<=bs.length) :
  Calls Tryz.prog 110 #[.pointer (some ⟨q,0,none⟩),.int .i64 (K:Int)] w fun e w'=>Below q w w'∧((okPal (bs.take K)=false∧e=gives 4) ∨
   (okPal (bs.take K)=true∧∃ X,e = .returned (.agg X)∧IsPal X (bs.take K)∧Lefts w' q b (bs.drop K))):=by
 obtain ⟨off,n,c,hR,hB,hn,hbq,hn6⟩:=hL
 have hKn:K<=n:=by have:=hB.n;omega
 have Hmv:Hid (∀ w' o',Below q w w'->(K=c∨o'=off+K)->Rdr w' q (some ⟨b,o',none⟩) (n-K) (c-K)->Lefts w' q b (bs.drop K)):=fun w' o' h1 h2 h3=>Lefts.moved hB hbq hn hn6 h1 hKn h2 h3
 clear hKl hn6
 have hq:=hR.lt
 have HB:Hid (Bytes w (some ⟨b,off,none⟩) n bs):=hB
 have HL:Hid ((bs.take K).length=K):=by show _=_;rw [List.length_take,hB.n];omega
 clear hB
 obtain ⟨n2,hn2⟩:∃ n2,n2=n-K:=⟨_,rfl⟩
 obtain ⟨c2,hc2⟩:∃ c2,c2=c-K:=⟨_,rfl⟩
 rw [<- hn2,<- hc2] at Hmv
 have htk:=fun w1 h=>take_yes q b off n c K w1 h hK1 hKn hn
 rw [<- hn2,<- hc2] at htk
 have Htk:Hid _:=htk
 clear htk hn2 hc2
 go_enter Tryz.func110,Tryz.ntmps110
 go_wp2_with (refine wpList_store_pal rfl (.tmp 5) (.tmp 10) rfl (w.heap.size+1) (palZ K) rfl rfl (palZ 0) (heap_new_two w _ _) rfl rfl (by simp [palZ,Value.oneCell']) ?_;intro w1 hO1 hp1;obtain ⟨hb1,hr1⟩:=two_new hO1;clear hO1)
 refine (Htk.out w1 (hR.below hb1 hq)).mono ?_
 rintro _ w2 ⟨rfl,o2,ho2,hR2,hO2⟩
 have Hb2:Hid (Below q w w2):=(hb1.mono (Nat.le_of_lt hq)).trans (hO2.below (Nat.le_refl _))
 have Hs2:Hid (w.heap.size+2<=w2.heap.size):=by
  show _<=_
  have:=(Array.getElem?_eq_some_iff.1 hp1).1
  rw [hO2.size];omega
 have HP2:Hid (PalAt w2 (w.heap.size+1) [] K (palZ K)):=PalAt.zero ((hO2.block _ (by omega)).trans hp1)
 have HZ2:Hid (w2.heap[w.heap.size]?=some (.cells (palZ 0) 192 (0,0))):=(hO2.block _ (by omega)).trans hr1
 have HR2:Hid (Rdr w2 q (some ⟨b,o2,none⟩) n2 c2):=hR2
 have Ho2:Hid (K=c∨o2=off+K):=ho2
 have HBt:Hid (Bytes w (some ⟨b,off,none⟩) n bs):=HB
 clear hb1 hr1 hp1 hO2 hR2 ho2 hR
 go_wp2
 go_loopw [6,15] (fun last i wr=>∃ (J:Nat) (Y:Int) (X:Array Value),J<=K∧i = .int .i64 (J:Int)∧last = .int .i64 Y∧Hid (Y=lastOf (bs.take K) J)∧Hid (PalAt wr (w.heap.size+1) ((bs.take K).take J) K X) ∧
  Hid (wr.heap[w.heap.size]?=some (.cells (palZ 0) 192 (0,0)))∧Hid (Rdr wr q (some ⟨b,o2,none⟩) n2 c2)∧Hid (Below q w wr)∧Hid (okTo (bs.take K) J)) (fun _ i _=>K-(intOf i).toNat)
 case atStart=>exact ⟨0,-1,palZ K,Nat.zero_le _,rfl,rfl,rfl,by rw [List.take_zero];exact HP2,HZ2,HR2,Hb2,fun i hi=>absurd hi (Nat.not_lt_zero _)⟩
 case round =>
  obtain ⟨J,Y,X,hJ,rfl,rfl,HY,HP,HZ,HR,Hb,HO⟩:=hrel
  clear HP2 HZ2 HR2 Hb2 Hs2
  by_cases hlt:J<K
  ·have hlt':(J:Int)<K:=by omega
   obtain ⟨bb,oo,x,e1,cx,x0,x1,hJl,hx⟩:=(HB.out.under Hb.out hbq).get J (by omega)
   cases e1
   have Hx:Hid ((bs.take K).getD J 0=x):=by
    show _=_
    rw [List.getD_eq_getElem?_getD,List.getElem?_take,if_pos hlt,List.getElem?_eq_getElem hJl,hx];rfl
   have HJ:Hid (J<(bs.take K).length):=by show _<_;rw [HL.out];exact hlt
   clear hx hJl
   by_cases h1:Y<x
   ·by_cases h2:x<17
    ·have HO2:Hid (okTo (bs.take K) (J+1)):=okTo_more HO.out Hx.out (by rw [<- HY.out];exact h1) h2
     have HY2:Hid (x=lastOf (bs.take K) (J+1)):=by show _=_;unfold lastOf;rw [if_neg (by omega),Nat.add_sub_cancel,Hx.out]
     have HP':Hid (PalAt (wr.setCell ⟨w.heap.size+1,J,none⟩ (.int .u8 x)) (w.heap.size+1) ((bs.take K).take (J+1)) K (X.setIfInBounds J (.int .u8 x))) :=
      HP.out.set (by omega) (fun j _=>by rw [take_getD _ J j HJ.out,Hx.out])
     have HZ':Hid ((wr.setCell ⟨w.heap.size+1,J,none⟩ (.int .u8 x)).heap[w.heap.size]?=some (.cells (palZ 0) 192 (0,0))):=(Below.heap_setCell wr ⟨w.heap.size+1,J,none⟩ _ _ (by simp)).trans HZ.out
     have HR':Hid (Rdr (wr.setCell ⟨w.heap.size+1,J,none⟩ (.int .u8 x)) q (some ⟨b,o2,none⟩) n2 c2):=(Below.heap_setCell wr ⟨w.heap.size+1,J,none⟩ _ q (by simp;omega)).trans HR.out
     have Hb':Hid (Below q w (wr.setCell ⟨w.heap.size+1,J,none⟩ (.int .u8 x))):=Hb.out.setCell (p:=⟨w.heap.size+1,J,none⟩) (by simp;omega) _
     have hold:=HP.out.cell (j:=J) (by omega)
     have hfr:=HP.out.free J
     have hJ17:(J:Int)<17:=by omega
     have H2:Hid (x<17):=h2
     clear HO HY HP HZ HR Hb Hx HJ
     generalize ((bs.take K).take J).getD J 0=old at hold
     go_wp2_with fail
     refine (check_yes 4 wr).mono ?_
     rintro _ _ ⟨rfl,rfl⟩
     go_wp2
     go_roundw
     case rel=>exact ⟨J+1,x,_,by omega,by go_num,rfl,HY2,HP',HZ',HR',Hb',HO2⟩
     case measure=>simp [intOf];omega
    ·have HF:Hid (okPal (bs.take K)=false):=(okTo_stop HJ.out Hx.out x0 (by omega))
     have H2:Hid (¬ x<17):=h2
     clear HO HY HP HZ HR Hx HJ
     go_wp2_with fail
     refine (check_no 4 wr).mono ?_
     rintro _ _ ⟨rfl,rfl⟩
     go_wp2
     exact ⟨rfl,Hb.out,Or.inl ⟨HF.out,rfl⟩⟩
   ·have HF:Hid (okPal (bs.take K)=false):=(okTo_stop HJ.out Hx.out x0 (by rw [<- HY.out];omega))
    clear HO HY HP HZ HR Hx HJ
    go_wp2_with fail
    refine (check_no 4 wr).mono ?_
    rintro _ _ ⟨rfl,rfl⟩
    go_wp2
    exact ⟨rfl,Hb.out,Or.inl ⟨HF.out,rfl⟩⟩
  ·obtain rfl:J=K:=by omega
   have hlt':¬ (J:Int)<J:=by omega
   have Hok:Hid (okPal (bs.take J)=true):=okTo_all (by rw [HL.out];exact HO.out)
   have hp:=HP.out
   rw [List.take_take,Nat.min_self] at hp
   clear HO HY
   go_wp2_with (first
    | (refine wpList_load_pal rfl (.tmp 5) rfl (w.heap.size+1) X rfl hp.heap hp.size ?_)
    | (refine wpList_store_pal rfl (.tmp 4) (.tmp 37) rfl w.heap.size X rfl rfl (palZ 0) HZ.out rfl hp.size hp.one ?_;intro w5 hO5 hp5))
   refine bodyPost_ret (results_cell_row rfl _ _ w.heap.size 192 X (0,0) _ rfl hp5 Tryz.underlying192 rfl (by rw [hp.size];kernel_rfl)) rfl ?_
   exact ⟨Hb.out.trans (hO5.below (by omega)),Or.inr ⟨Hok.out,X,rfl,hp.is HL.out,Hmv.out w5 o2 (Hb.out.trans (hO5.below (by omega))) Ho2.out (HR.out.only hO5 (by omega))⟩⟩
end Go.Proofs.YtlllmmceoeihkaaGreat.K
namespace Go.Proofs.YtlllmmceoeihkaaGreat.K
open Go.RowKit
def encPF:Nat->List Int->List Int
 | 0,_=>[]
 | _+1,[]=>[]
 | m+1,p::r=>putL ((runN p r+1:Nat):Int)++p::encPF m (r.drop (runN p r))
def encP (ps:List Int):List Int:=encPF ps.length ps
theorem encPF_more:∀ (m k:Nat) (ps:List Int),ps.length<=m->ps.length<=k->encPF m ps=encPF k ps
 | 0,0,_,_,_=>rfl
 | 0,_+1,[],_,_=>rfl
 | 0,_+1,_::_,h,_=>by simp at h
 | _+1,0,[],_,_=>rfl
 | _+1,0,_::_,_,h=>by simp at h
 | _+1,_+1,[],_,_=>rfl
 | m+1,k+1,p::r,h1,h2=>by
   rw [List.length_cons] at h1 h2
   rw [encPF,encPF,encPF_more m k (r.drop (runN p r)) (by rw [List.length_drop];omega) (by rw [List.length_drop];omega)]
theorem encP_nil:encP []=[]:=rfl
theorem encP_one (p:Int) (r:List Int):encP (p::r)=putL ((runN p r+1:Nat):Int)++p::encP (r.drop (runN p r)):=by
 show encPF (r.length+1) (p::r)=_
 rw [encPF,encPF_more r.length (r.drop (runN p r)).length (r.drop (runN p r)) (by rw [List.length_drop];omega) (Nat.le_refl _)]
 rfl
theorem runN_map {l:List Int} {c:Int} (hc:c∈l):∀ r:List Int,(∀ x∈r,x∈l)->runN (plc l c:Int) (r.map fun x=>(plc l x:Int))=runN c r
 | [],_=>rfl
 | x::r,h=>by
   have hx:=h x (List.mem_cons_self ..)
   rw [List.map_cons,runN,runN]
   by_cases e:x=c
   ·rw [if_pos e,if_pos (by rw [e]),runN_map hc r (fun y hy=>h y (List.mem_cons_of_mem _ hy))]
   ·rw [if_neg e,if_neg]
    intro h2
    have h3:plc l x=plc l c:=by omega
    have h4:=plc_at hx
    rw [h3,plc_at hc] at h4
    exact e h4.symm
theorem encP_map (l:List Int):∀ (m:Nat) (cs:List Int),cs.length<=m->(∀ x∈cs,x∈l)->encP (cs.map fun x=>(plc l x:Int))=encR l cs
 | _,[],_,_=>by rw [List.map_nil,encP_nil,encR_nil]
 | 0,c::r,h,_=>by simp at h
 | m+1,c::r,h,hm=>by
   have hr:∀ x∈r,x∈l:=fun x hx=>hm x (List.mem_cons_of_mem _ hx)
   rw [List.map_cons,encP_one,encR_cons,runN_map (hm c (List.mem_cons_self ..)) r hr,<- List.map_drop,encP_map l m (r.drop (runN c r)) (by rw [List.length_drop];simp at h;omega) (fun x hx=>hr x (List.mem_of_mem_drop hx))]
theorem runN_upto (c:Int):∀ (r:List Int) (k:Nat),k<=r.length->(∀ j,j<k->r.getD j 0=c)->(k=r.length∨r.getD k 0≠c)->runN c r=k
 | [],k,h,_,_=>by simp at h;rw [h];rfl
 | x::r,0,_,_,h=>by
   rw [runN]
   rcases h with h | h
   ·simp at h
   ·rw [if_neg (by simpa using h)]
 | x::r,k+1,h1,h2,h3=>by
   have hx:x=c:=by simpa using h2 0 (by omega)
   rw [runN,if_pos hx,runN_upto c r k (by simpa using h1) (fun j hj=>by simpa using h2 (j+1) (by omega)) (by simpa using h3)]
set_option maxHeartbeats 1000000 in
theorem runAt_c (b off n c:Nat) (p:Int) (r:List Int) (w:World) (hB:Bytes w (some ⟨b,off,none⟩) n (p::r)) (h6:n<=1000000) :
  Calls Tryz.prog 137 #[.slice (some ⟨b,off,none⟩) n c] w fun e w'=>e = .returned (.int .i64 ((runN p r+1:Nat):Int))∧w'.heap.size=w.heap.size∧Below w.heap.size w w':=by
 have hlen:=hB.n
 rw [List.length_cons] at hlen
 obtain ⟨R,hR⟩:∃ R,R=runN p r+1:=⟨_,rfl⟩
 rw [<- hR]
 have HB:Hid (Bytes w (some ⟨b,off,none⟩) n (p::r)):=hB
 have HR:Hid (∀ M,1<=M->M<=n->(∀ j,j+1<M->r.getD j 0=p)->(M=n∨r.getD (M-1) 0≠p)->R=M):=fun M h0 h1 h2 h3=>by
  rw [hR,runN_upto p r (M-1) (by omega) (fun j hj=>h2 j (by omega)) (h3.imp (fun h=>by omega) (fun h=>h))]
  omega
 obtain ⟨b',o',z,e,hc0,z0,z1,hk,hz⟩:=hB.get 0 (by omega)
 cases e
 rw [Nat.add_zero] at hc0
 have hzp:z=p:=hz
 subst hzp
 have H0:Hid (w.cell? ⟨b,off,none⟩=some (.int .u8 z)):=hc0
 clear hB hR hz hk hc0
 go_enter Tryz.func137,Tryz.ntmps137
 go_wp2
 go_loopw [3] (fun v wr=>∃ (M:Nat),1<=M∧M<=n∧v = .int .i64 (M:Int)∧Hid (∀ j,j+1<M->r.getD j 0=z)∧Hid (wr.heap.size=w.heap.size)∧Hid (Below w.heap.size w wr)) (fun v _=>n-(intOf v).toNat)
 case atStart=>exact ⟨1,by omega,by omega,rfl,fun j hj=>by omega,rfl,Below.refl _ _⟩
 case round =>
  obtain ⟨M,hM1,hM,rfl,HM,Hs,Hb⟩:=hrel
  by_cases hlt:M<n
  ·have hlt':(M:Int)<n:=by omega
   obtain ⟨b',o',x,e,hcx,x0,x1,hk,hx⟩:=(HB.out.later Hb.out).get M hlt
   cases e
   have hc0:wr.cell? ⟨b,off,none⟩=some (.int .u8 z):=by
    have:=H0.out
    unfold World.cell? at this ⊢
    rw [Hb.out.block b (by have:=World.block_lt_of_cell? w _ H0.out;simpa using this)]
    exact this
   have Hx:Hid (r.getD (M-1) 0=x):=by
    obtain ⟨m,rfl⟩:∃ m,M=m+1:=⟨M-1,by omega⟩
    show _=_
    rw [hx,List.getElem_cons_succ,Nat.add_sub_cancel,List.getD_eq_getElem?_getD,List.getElem?_eq_getElem (by simpa using hk)]
    rfl
   clear hx hk
   by_cases e:x=z
   ·subst e
    have HM2:Hid (∀ j,j+1<M+1->r.getD j 0=x):=fun j hj=>by
     by_cases e2:j=M-1
     ·subst e2;exact Hx.out
     ·exact HM.out j (by omega)
    clear HM Hx HR HB H0
    go_wp2_with fail
    go_big_quiet (fail)
    go_wp2
    go_roundw
    case rel=>exact ⟨M+1,by omega,by omega,by go_num,HM2,Hs,⟨Hb.out.os,Hb.out.tape,Hb.out.output,Hb.out.size,Hb.out.block⟩⟩
    case measure=>simp [intOf];omega
   ·have eR:R=M:=HR.out M hM1 hM HM.out (Or.inr (by rw [Hx.out];exact e))
    subst eR
    have e':(x == z)=false:=by simp [e]
    clear HM Hx HR HB H0 e
    go_wp2_with fail
    go_big_quiet (fail)
    go_wp2
    go_ret
    exact ⟨rfl,Hs.out,⟨Hb.out.os,Hb.out.tape,Hb.out.output,Hb.out.size,Hb.out.block⟩⟩
  ·have eR:R=M:=HR.out M hM1 hM HM.out (Or.inl (by omega))
   subst eR
   obtain rfl:R=n:=by omega
   have hlt':¬ (R:Int)<R:=by omega
   clear HM HR HB H0
   go_wp2_with fail
   go_big_quiet (fail)
   go_wp2
   go_ret
   exact ⟨rfl,Hs.out,⟨Hb.out.os,Hb.out.tape,Hb.out.output,Hb.out.size,Hb.out.block⟩⟩
theorem encP_cons (p:Int) (r:List Int):encP (p::r)=(putL ((runN p r+1:Nat):Int)++[p])++encP (r.drop (runN p r)):=by
 rw [encP_one,List.append_assoc]
 rfl
theorem putL_le (n:Int) (h0:0<=n) (h1:n<9223372036854775808):(putL n).length<=9:=by
 rw [putL_len n h0 h1]
 exact (grp_spec n h0 h1).2.1
set_option maxRecDepth 100000 in
set_option maxHeartbeats 1000000 in
theorem runs_c (b off n c:Nat) (ps:List Int) (w:World) (hB:Bytes w (some ⟨b,off,none⟩) n ps) (hn:n<=32768) (hc:n<=c) :
  Calls Tryz.prog 115 #[.slice (some ⟨b,off,none⟩) n c] w fun e w'=>(∃ a' c',e = .returned (.slice a' (encP ps).length c')∧Own w' w.heap.size a' c' (encP ps))∧Below w.heap.size w w':=by
 obtain ⟨Post,hPost⟩:∃ Post:Ending->World->Prop,Post=fun e w'=>(∃ a' c',e = .returned (.slice a' (encP ps).length c')∧Own w' w.heap.size a' c' (encP ps))∧Below w.heap.size w w':=⟨_,rfl⟩
 rw [<- hPost]
 have HPost:Hid (∀ a' c' w' out,encP ps=out->Own w' w.heap.size a' c' out->Below w.heap.size w w'->Post (.returned (.slice a' out.length c')) w'):=fun a' c' w' out h0 h1 h2=>by
  rw [hPost];subst h0;exact ⟨⟨a',c',rfl,h1⟩,h2⟩
 clear hPost
 have hl:=hB.n
 have HB:Hid (Bytes w (some ⟨b,off,none⟩) n ps):=hB
 have Hl:Hid (ps.length=n):=hl
 clear hB hl
 go_enter Tryz.func115,Tryz.ntmps115
 go_wp2
 go_loopw [3,4] (fun v3 v4 wr=>∃ (I:Nat) (out:List Int) (a2:Option Addr) (c2:Nat),I<=n∧v4 = .int .i64 (I:Int)∧v3 = .slice a2 out.length c2∧Hid (encP ps=out++encP (ps.drop I))∧Hid (Own wr w.heap.size a2 c2 out)∧Hid (Below w.heap.size w wr)∧Hid (w.heap.size<=wr.heap.size)∧Hid (out.length<=10*I)) (fun _ v4 _=>n-(intOf v4).toNat)
 case atStart=>exact ⟨0,[],none,0,by omega,rfl,rfl,rfl,Own.nil _ _,Below.refl _ _,Nat.le_refl _,Nat.le_refl _⟩
 case round =>
  obtain ⟨I,out,a2,c2,hI,rfl,rfl,HE,HO,Hb,Hs,HO10⟩:=hrel
  by_cases hlt:I<n
  ·have hlt':(I:Int)<n:=by omega
   obtain ⟨o2,hsl,ho2⟩:=slice_from b off n c I (by omega)
   obtain ⟨p,r,hd⟩:∃ p r,ps.drop I=p::r:=by
    have:I<ps.length:=by rw [Hl.out];exact hlt
    exact ⟨_,_,List.drop_eq_getElem_cons this⟩
   have hB2:Bytes wr (some ⟨b,o2,none⟩) (n-I) (p::r):=by
    have:=(HB.out.later Hb.out).from (m:=I) (o':=o2) (by omega) hc ho2
    rwa [hd] at this
   have hra:=runAt_c b o2 (n-I) (c-I) p r wr hB2 (by omega)
   obtain ⟨b',o',x,e,hcx,x0,x1,hk,hx⟩:=(HB.out.later Hb.out).get I hlt
   cases e
   have hxp:x=p:=by
    have h2:ps.drop I=ps[I]::ps.drop (I+1):=List.drop_eq_getElem_cons hk
    rw [hd] at h2
    injection h2 with h3 _
    rw [hx,<- h3]
   subst hxp
   have hrn:=runN_le x r
   have hrl:r.length+1=n-I:=by have:=hB2.n;rwa [List.length_cons] at this
   have HE2:Hid (encP ps=(out++(putL ((runN x r+1:Nat):Int)++[x]))++encP (ps.drop (I+(runN x r+1)))):=by
    show _=_
    have h3:ps.drop (I+(runN x r+1))=r.drop (runN x r):=by
     rw [<- List.drop_drop,hd,List.drop_succ_cons]
    rw [HE.out,hd,encP_cons,h3]
    simp only [List.append_assoc]
   obtain ⟨M,hM⟩:∃ M,M=runN x r+1:=⟨_,rfl⟩
   rw [<- hM] at hra HE2
   have HMn:Hid (1<=M∧I+M<=n):=⟨by omega,by omega⟩
   have hMb:(M:Int)<=32768:=by omega
   have HxB:Hid (0<=x∧x<=255):=⟨x0,x1⟩
   have HcI:Hid (Bytes w (some ⟨b,off,none⟩) n ps):=HB
   have Hbyt:Hid (∀ w',Below w.heap.size w w'->w'.cell? ⟨b,off+I,none⟩=some (.int .u8 x)):=fun w' h'=>by
    obtain ⟨b',o',z,e,hc',_,_,hk',hz⟩:=(HB.out.later h').get I hlt
    cases e
    rw [hz] at hc'
    rw [hx]
    exact hc'
   have Hsl:=hsl wr
   generalize n-I=n2 at *
   generalize c-I=c3 at *
   clear hd hB2 HE hx hk hcx hrn hrl hM ho2 hsl
   go_wp2_with fail
   refine hra.mono ?_
   clear hra
   rintro _ w2 ⟨rfl,hs2,hb2⟩
   have HO2:Hid (Own w2 w.heap.size a2 c2 out):=HO.out.later hb2
   have Hb2:Hid (Below w.heap.size w w2):=Hb.out.trans (hb2.mono Hs.out)
   have Hs2:Hid (w.heap.size<=w2.heap.size):=by show _<=_;rw [hs2];exact Hs.out
   clear hb2 hs2 HO Hb Hs
   have hput:=put_any none 0 0 [] (M:Int) w2 (by omega) (by omega) (by omega) ⟨rfl,Or.inl rfl,fun z hz=>by simp at hz⟩
   rw [List.nil_append,Nat.zero_add] at hput
   have HPf:Hid (∀ z∈putL (M:Int),0<=z∧z<=255):=putL_fit _ (by omega)
   have HPl:Hid ((putL (M:Int)).length<=9):=putL_le _ (by omega) (by omega)
   obtain ⟨G,hG⟩:∃ G,G=(putL (M:Int)).length:=⟨_,rfl⟩
   rw [<- hG] at hput
   have HG:Hid ((putL (M:Int)).length=G):=hG.symm
   clear hG
   generalize putL (M:Int)=pm at *
   go_wp2_with fail
   refine hput.mono ?_
   clear hput
   rintro _ w3 ⟨rfl,hR3,hb3⟩
   have HO3:Hid (Own w3 w.heap.size a2 c2 out):=HO2.out.later hb3
   have Hb3:Hid (Below w.heap.size w w3):=Hb2.out.trans (hb3.mono Hs2.out)
   have Hs3:Hid (w.heap.size<=w3.heap.size):=by show _<=_;have:=hb3.size;have:=Hs2.out;omega
   have HX3:Hid (Bytes w3 (some ⟨w2.heap.size,0,none⟩) G pm):=hR3.bytes HPf.out G HG.out
   clear hb3 hR3 HO2 Hb2 Hs2
   generalize w2.heap.size=g2 at *
   obtain ⟨L,hL⟩:∃ L,L=out.length:=⟨_,rfl⟩
   rw [<- hL]
   have HL:Hid (out.length=L):=hL.symm
   clear hL
   have HLb:Hid (L+G<=140737488355328∧L+G+1<=140737488355328):=by have:=HO10.out;have:=HPl.out;have:=HL.out;have:=HG.out;exact ⟨by omega,by omega⟩
   go_upto_region 6 with (at_builtin;refine wpList_append_bytes rfl (.tmp 14) (.tmp 16) rfl w.heap.size a2 L c2 out HL.out rfl HO3.out _ G G pm rfl HX3.out (fun h=>by cases h) HLb.out.1 w Hb3.out Hs3.out ?_;intro a4 c4 w4 HO4 hb4 hs4)
   have hcI:=Hbyt.out w4 hb4
   have HO5:Hid (Own (w4.alloc (.cells #[.int .u8 x] 5)) w.heap.size a4 c4 (out++pm)):=HO4.out.later ((Below.refl _ _).alloc (Nat.le_refl _) _)
   have HB5:Hid _:=oneByte w4 x HxB.out
   have HA5:Hid _:=belowAlloc hb4 hs4 (.cells #[.int .u8 x] 5)
   have HL5:Hid ((out++pm).length=L+G):=by show _=_;rw [List.length_append,HL.out,HG.out]
   clear HO4 HO3 HX3 Hb3 Hs3 HPf
   go_wp2_with (at_builtin;refine wpList_append_bytes rfl (.tmp 18) (.tmp 23) rfl w.heap.size a4 (L+G) c4 (out++pm) HL5.out rfl HO5.out _ 1 1 [x] rfl HB5.out (fun h=>by cases h) HLb.out.2 w HA5.out.1 HA5.out.2 ?_;intro a6 c6 w6 HO6 hb6 hs6)
   go_roundw
   case rel =>
    refine ⟨I+M,out++pm++[x],a6,c6,HMn.out.2,by go_num,?_,?_,HO6,hb6,hs6,?_⟩
    ·rw [List.length_append,HL5.out];rfl
    ·show _=_
     rw [HE2.out,List.append_assoc out pm]
    ·show _<=_
     rw [List.length_append,HL5.out,List.length_singleton]
     have:=HO10.out;have:=HPl.out;have:=HL.out;have:=HG.out;have:=HMn.out
     omega
   case measure =>
    have:=HMn.out
    simp [intOf]
    omega
  ·obtain rfl:I=n:=by omega
   have hlt':¬ (I:Int)<I:=by omega
   have R:=HPost.out a2 c2 wr out (by rw [HE.out,List.drop_eq_nil_of_le (Nat.le_of_eq Hl.out),encP_nil,List.append_nil]) HO.out Hb.out
   clear HPost HE HO Hb Hs HO10
   go_wp2
   exact R
end Go.Proofs.YtlllmmceoeihkaaGreat.K
namespace Go.Proofs.YtlllmmceoeihkaaGreat.K
open Go.RowKit
theorem PalAt.push {w:World} {g:Nat} {l:List Int} {X:Array Value} {x:Int} (h:PalAt w g l l.length X) (hl:l.length<17) :
  ∃ X',PalAt ((w.setCell ⟨g,l.length,none⟩ (.int .u8 x)).setCell ⟨g,17,none⟩ (.int .i64 ((l.length:Int)+1))) g (l++[x]) (l++[x]).length X':=by
 have h1:PalAt (w.setCell ⟨g,l.length,none⟩ (.int .u8 x)) g (l++[x]) l.length (X.setIfInBounds l.length (.int .u8 x)):=h.set hl (fun j _=>by
  simp only [List.getD_eq_getElem?_getD]
  by_cases e:j=l.length
  ·subst e;simp
  ·rw [if_neg e]
   by_cases h2:j<l.length
   ·rw [List.getElem?_append_left h2]
   ·rw [List.getElem?_eq_none (by simp;omega),List.getElem?_eq_none (by omega)])
 generalize X.setIfInBounds l.length (.int .u8 x)=Y at h1
 have hs:=h1.size
 refine ⟨Y.setIfInBounds 17 (.int .i64 ((l.length:Int)+1)),?_,by rw [Array.size_setIfInBounds,hs],?_,fun j hj=>?_,?_⟩
 ·rw [heap_setCell_same _ g 17 _ 192 _ h1.heap]
 ·rw [Array.getElem?_setIfInBounds,if_pos rfl,if_pos (by omega),List.length_append,List.length_singleton]
  rfl
 ·rw [Array.getElem?_setIfInBounds,if_neg (by omega)];exact h1.kinds j hj
 ·rw [Array.all_eq_true_iff_forall_mem]
  intro v hv
  rcases Array.mem_or_eq_of_mem_setIfInBounds hv with hv | hv
  ·exact (Array.all_eq_true_iff_forall_mem.1 h1.one) v hv
  ·subst hv;rfl
set_option maxHeartbeats 1000000 in
theorem paletteOf_c (g:Nat) (cs:List Int) (w:World) (hB:Blk w g 122 cs) (hl:cs.length=32768) (hk:Kinds cs) :
  Calls Tryz.prog 113 #[.pointer (some ⟨g,0,none⟩)] w fun e w'=>(∃ X,e = .returned (.agg X)∧IsPal X (pal cs))∧Below w.heap.size w w':=by
 obtain ⟨Post,hPost⟩:∃ Post:Ending->World->Prop,Post=fun e w'=>(∃ X,e = .returned (.agg X)∧IsPal X (pal cs))∧Below w.heap.size w w':=⟨_,rfl⟩
 rw [<- hPost]
 have HPost:Hid (∀ X w',IsPal X (pal cs)->Below w.heap.size w w'->Post (.returned (.agg X)) w'):=fun X w' h1 h2=>by rw [hPost];exact ⟨⟨X,rfl,h1⟩,h2⟩
 clear hPost
 have hgl:=hB.lt
 go_enter Tryz.func113,Tryz.ntmps113
 go_wp2_with fail
 have hba:Below w.heap.size w ((w.alloc (.cells (palZ 0) 192)).alloc (.cells (palZ 0) 192)):=((Below.refl _ _).alloc (Nat.le_refl _) _).alloc (by rw [World.size_alloc];omega) _
 have hs2:((w.alloc (.cells (palZ 0) 192)).alloc (.cells (palZ 0) 192)).heap.size=w.heap.size+2:=by rw [World.size_alloc,World.size_alloc]
 have hz1:((w.alloc (.cells (palZ 0) 192)).alloc (.cells (palZ 0) 192)).heap[w.heap.size]?=some (.cells (palZ 0) 192 (0,0)):=heap_new_one w _ _
 have hz2:((w.alloc (.cells (palZ 0) 192)).alloc (.cells (palZ 0) 192)).heap[w.heap.size+1]?=some (.cells (palZ 0) 192 (0,0)):=heap_new_two w _ _
 refine (counts_c g cs ((w.alloc (.cells (palZ 0) 192)).alloc (.cells (palZ 0) 192)) (hB.below hba hgl) hl hk).mono ?_
 generalize (w.alloc (.cells (palZ 0) 192)).alloc (.cells (palZ 0) 192)=w0 at *
 rintro _ w1 ⟨rfl,hN1,hb1⟩
 rw [hs2] at hN1 hb1 ⊢
 have hlc:=cntTo_length cs 32768
 have HC:Hid (∀ j:Nat,j<17->(0<(cntTo cs 32768).getD j 0↔(j:Int)∈cs)):=fun j hj=>cntTo_pos hk hl j hj
 generalize cntTo cs 32768=N at *
 have Hba:Hid (Below w.heap.size w w1):=hba.trans (hb1.mono (by omega))
 have HP1:Hid (PalAt w1 (w.heap.size+1) ([]:List Int) ([]:List Int).length (palZ 0)):=PalAt.zero (K:=0) ((hb1.block _ (by omega)).trans hz2)
 have HZ1:Hid (w1.heap[w.heap.size]?=some (.cells (palZ 0) 192 (0,0))):=(hb1.block _ (by omega)).trans hz1
 have HN1:Hid (B64k w1 (w.heap.size+2) 3 N):=hN1
 clear hba hs2 hz1 hz2 hb1 hN1 hB hl hk hgl
 go_wp2
 go_loopw [9] (fun i wr=>∃ (j:Nat) (X:Array Value),j<=17∧i = .int .i64 (j:Int)∧Hid (PalAt wr (w.heap.size+1) (palTo cs j) (palTo cs j).length X)∧Hid (wr.heap[w.heap.size]?=some (.cells (palZ 0) 192 (0,0)))∧Hid (B64k wr (w.heap.size+2) 3 N)∧Hid (Below w.heap.size w wr)) (fun i _=>17-(intOf i).toNat)
 case atStart=>exact ⟨0,palZ 0,by omega,rfl,HP1,HZ1,HN1,Hba⟩
 case round =>
  obtain ⟨j,X,hj,rfl,HP,HZ,HN,Hb⟩:=hrel
  clear HP1 HZ1 HN1 Hba
  by_cases hlt:j<17
  ·have hlt':(j:Int)<17:=by omega
   have hc:=HN.out.cell (k:=j) (by omega)
   have hin:=HC.out j hlt
   have hlen:=palTo_len cs j
   generalize N.getD j 0=x at *
   by_cases hm:(j:Int)∈cs
   ·have hx:0<x:=hin.2 hm
    have HS:Hid (palTo cs (j+1)=palTo cs j++[(j:Int)]):=by show _=_;rw [palTo,if_pos hm]
    have hnum:=HP.out.num
    have hold:=HP.out.cell (j:=(palTo cs j).length) (by omega)
    have hz1:=HP.out.free (palTo cs j).length
    obtain ⟨X2,hX2⟩:=HP.out.push (x:=(j:Int)) (by omega)
    have hf2:(wr.setCell ⟨w.heap.size+1,(palTo cs j).length,none⟩ (.int .u8 (j:Int))).heap[w.heap.size+1]?=some _:=heap_setCell_same wr (w.heap.size+1) (palTo cs j).length X 192 (.int .u8 (j:Int)) HP.out.heap
    have hz2:=frozen_of_row _ (w.heap.size+1) 17 _ 192 hf2
    have hnum2:(wr.setCell ⟨w.heap.size+1,(palTo cs j).length,none⟩ (.int .u8 (j:Int))).cell? ⟨w.heap.size+1,17,none⟩=some (.int .i64 ((palTo cs j).length:Int)):=by
     rw [cell_of_row _ (w.heap.size+1) 17 _ 192 (0,0) hf2,Array.getElem?_setIfInBounds,if_neg (by omega)]
     exact HP.out.many
    rw [<- HS.out] at hX2
    have HX2:Hid _:=hX2
    clear hX2 hf2 hin hm HS HP
    generalize (palTo cs j).getD (palTo cs j).length 0=old at hold
    generalize (palTo cs j).length=P at *
    have hP17:(P:Int)<17:=by omega
    have HZ2:Hid (((wr.setCell ⟨w.heap.size+1,P,none⟩ (.int .u8 (j:Int))).setCell ⟨w.heap.size+1,17,none⟩ (.int .i64 ((P:Int)+1))).heap[w.heap.size]?=some (.cells (palZ 0) 192 (0,0))) :=
     (Below.heap_setCell _ ⟨w.heap.size+1,17,none⟩ _ _ (by simp)).trans ((Below.heap_setCell wr ⟨w.heap.size+1,P,none⟩ _ _ (by simp)).trans HZ.out)
    have HN2:Hid (B64k ((wr.setCell ⟨w.heap.size+1,P,none⟩ (.int .u8 (j:Int))).setCell ⟨w.heap.size+1,17,none⟩ (.int .i64 ((P:Int)+1))) (w.heap.size+2) 3 N) :=
     (Below.heap_setCell _ ⟨w.heap.size+1,17,none⟩ _ _ (by simp)).trans ((Below.heap_setCell wr ⟨w.heap.size+1,P,none⟩ _ _ (by simp)).trans HN.out)
    have Hb2:Hid (Below w.heap.size w ((wr.setCell ⟨w.heap.size+1,P,none⟩ (.int .u8 (j:Int))).setCell ⟨w.heap.size+1,17,none⟩ (.int .i64 ((P:Int)+1)))):=(Hb.out.setCell (p:=⟨w.heap.size+1,P,none⟩) (by simp) _).setCell (p:=⟨w.heap.size+1,17,none⟩) (by simp) _
    clear HZ HN Hb
    go_wp2
    go_roundw
    case rel=>exact ⟨j+1,X2,by omega,by go_num,HX2,HZ2,HN2,Hb2⟩
    case measure=>simp [intOf];omega
   ·have hx:¬ 0<x:=fun h=>hm (hin.1 h)
    have HP2:Hid (PalAt wr (w.heap.size+1) (palTo cs (j+1)) (palTo cs (j+1)).length X):=by show PalAt _ _ _ _ _;rw [palTo,if_neg hm];exact HP.out
    clear hin hm HP
    go_wp2
    go_roundw
    case rel=>exact ⟨j+1,X,by omega,by go_num,HP2,HZ,HN,Hb⟩
    case measure=>simp [intOf];omega
  ·obtain rfl:j=17:=by omega
   have hlt':¬ (17:Int)<17:=by omega
   have hp:=HP.out
   clear HC HP HN
   go_wp2_with (first
    | (refine wpList_load_pal rfl (.tmp 3) rfl (w.heap.size+1) X rfl hp.heap hp.size ?_)
    | (refine wpList_store_pal rfl (.tmp 2) (.tmp 27) rfl w.heap.size X rfl rfl (palZ 0) HZ.out rfl hp.size hp.one ?_;intro w5 hO5 hp5))
   refine bodyPost_ret (results_cell_row rfl _ _ w.heap.size 192 X (0,0) _ rfl hp5 Tryz.underlying192 rfl (by rw [hp.size];kernel_rfl)) rfl ?_
   exact HPost.out X w5 (hp.is rfl) (Hb.out.trans (hO5.below (Nat.le_refl _)))
theorem len190:Tryz.prog.arrayLen 190=17:=by kernel_rfl
theorem under190:Tryz.prog.underlying 190=some (.array (Tryz.prog.arrayLen 190) (Tryz.prog.elem 190)):=by kernel_rfl
theorem elem190:Tryz.prog.elem 190=5:=by kernel_rfl
theorem slice_pal (g N:Nat) (h1:N<=17) (w:World) :
  (Instr.sliceAt 190 (.pointer (some ⟨g,0,none⟩)) none (some (.int .i64 (N:Int))) none).run Tryz.prog w = .ok (.slice (some ⟨g,0,none⟩) N 17) w:=by
 rw [run_sliceAt_array_h w 190 ⟨g,0,none⟩ under190 .i64 N (by omega) (by rw [len190];omega),elem190,sizeOf5,Result.andThen_ok,len190]
 unfold slicedAt
 rw [if_neg (by omega),Int.toNat_natCast,Nat.sub_zero,Nat.sub_zero]
 rfl
def LaidTo (l pl:List Int) (J:Nat):Prop:=pl.length=17∧∀ i,i<J->i<l.length->pl.getD (l.getD i 0).toNat 0=(i:Int)
theorem LaidTo.more {l pl:List Int} {J:Nat} (h:LaidTo l pl J) (hr:l.Pairwise (· < ·)) (hk:AreKinds l) (hJ:J<l.length):LaidTo l (pl.set (l.getD J 0).toNat (J:Int)) (J+1):=by
 refine ⟨by rw [List.length_set,h.1],fun i hi hil=>?_⟩
 have hki:=hk _ (getD_mem hil)
 have hkJ:=hk _ (getD_mem hJ)
 by_cases e:i=J
 ·subst e
  rw [List.getD_eq_getElem?_getD,List.getElem?_set_self (by have:=h.1;omega)]
  rfl
 ·have hlt:=(List.pairwise_iff_getElem.1 hr) i J hil hJ (by omega)
  have e1:l.getD i 0=l[i]:=by rw [List.getD_eq_getElem?_getD,List.getElem?_eq_getElem hil];rfl
  have e2:l.getD J 0=l[J]:=by rw [List.getD_eq_getElem?_getD,List.getElem?_eq_getElem hJ];rfl
  rw [List.getD_eq_getElem?_getD,List.getElem?_set_ne (by omega),<- List.getD_eq_getElem?_getD]
  exact h.2 i (by omega) hil
theorem LaidTo.at {l pl:List Int} {c:Int} (h:LaidTo l pl l.length) (hc:c∈l):pl.getD c.toNat 0=(plc l c:Int):=by
 have:=h.2 (plc l c) (plc_lt hc) (plc_lt hc)
 rwa [plc_at hc] at this
set_option maxRecDepth 100000 in
set_option maxHeartbeats 1000000 in
theorem placesOf_c (X:Array Value) (l cs:List Int) (g:Nat) (w:World) (hX:IsPal X l) (hl:l.length<=17) (hr:l.Pairwise (· < ·)) (hk:AreKinds l) (hm:∀ c∈cs,c∈l) (hB:Blk w g 5 cs) (hlen:cs.length=32768) :
  Calls Tryz.prog 114 #[.agg X,.slice (some ⟨g,0,none⟩) 32768 32768] w fun e w'=>(∃ h,e = .returned (.slice (some ⟨h,0,none⟩) 32768 32768)∧Blk w' h 5 (cs.map fun c=>(plc l c:Int))∧w.heap.size<=h)∧Below w.heap.size w w':=by
 obtain ⟨Post,hPost⟩:∃ Post:Ending->World->Prop,Post=fun e w'=>(∃ h,e = .returned (.slice (some ⟨h,0,none⟩) 32768 32768)∧Blk w' h 5 (cs.map fun c=>(plc l c:Int))∧w.heap.size<=h)∧Below w.heap.size w w':=⟨_,rfl⟩
 rw [<- hPost]
 have HPost:Hid (∀ h w',Blk w' h 5 (cs.map fun c=>(plc l c:Int))->w.heap.size<=h->Below w.heap.size w w'->Post (.returned (.slice (some ⟨h,0,none⟩) 32768 32768)) w'):=fun h w' h1 h2 h3=>by rw [hPost];exact ⟨⟨h,rfl,h1,h2⟩,h3⟩
 clear hPost
 have hgl:=hB.lt
 have h17:=hX.many
 have HL:Hid (l.length<=17):=hl
 have HR:Hid (l.Pairwise (· < ·)):=hr
 have HK:Hid (AreKinds l):=hk
 have HM:Hid (∀ c∈cs,c∈l):=hm
 have HX:Hid (IsPal X l):=hX
 have Hlen:Hid (cs.length=32768):=hlen
 obtain ⟨n,hn⟩:∃ n,n=l.length:=⟨_,rfl⟩
 have Hn:Hid (l.length=n):=hn.symm
 rw [<- hn] at h17 hl
 have hsl:=slice_pal w.heap.size n hl
 have hba:Below w.heap.size w ((w.alloc (.cells X 192)).alloc (.cells (vals (List.replicate 17 0)) 190)):=((Below.refl _ _).alloc (Nat.le_refl _) _).alloc (by rw [World.size_alloc];omega) _
 have HP0:Hid (((w.alloc (.cells X 192)).alloc (.cells (vals (List.replicate 17 0)) 190)).heap[w.heap.size]?=some (.cells X 192 (0,0))):=heap_new_one w _ _
 have HA0:Hid (Blk ((w.alloc (.cells X 192)).alloc (.cells (vals (List.replicate 17 0)) 190)) (w.heap.size+1) 190 (List.replicate 17 0)):=heap_new_two w _ _
 have HB0:Hid (Blk ((w.alloc (.cells X 192)).alloc (.cells (vals (List.replicate 17 0)) 190)) g 5 cs):=hB.below hba hgl
 have Hb0:Hid (Below w.heap.size w ((w.alloc (.cells X 192)).alloc (.cells (vals (List.replicate 17 0)) 190))):=hba
 have hva:vals (List.replicate 17 0) = #[.int .u8 0,.int .u8 0,.int .u8 0,.int .u8 0,.int .u8 0,.int .u8 0,.int .u8 0,.int .u8 0,.int .u8 0,.int .u8 0,.int .u8 0,.int .u8 0,.int .u8 0,.int .u8 0,.int .u8 0,.int .u8 0,.int .u8 0]:=rfl
 have hn17:(n:Int)<=17:=by omega
 clear hX hr hk hm hB hlen hn hba
 have HZ0:Hid (LaidTo l (List.replicate 17 0) 0):=⟨rfl,fun i hi=>absurd hi (Nat.not_lt_zero _)⟩
 have Hva:Hid (vals (List.replicate 17 0) = #[.int .u8 0,.int .u8 0,.int .u8 0,.int .u8 0,.int .u8 0,.int .u8 0,.int .u8 0,.int .u8 0,.int .u8 0,.int .u8 0,.int .u8 0,.int .u8 0,.int .u8 0,.int .u8 0,.int .u8 0,.int .u8 0,.int .u8 0]):=hva
 clear hva
 go_enter Tryz.func114,Tryz.ntmps114
 go_wp2
 rw [<- Hva.out]
 generalize (w.alloc (.cells X 192)).alloc (.cells (vals (List.replicate 17 0)) 190)=w0 at *
 clear Hva h17 hsl
 generalize List.replicate 17 (0:Int)=pl0 at *
 go_loopw [16] (fun v16 wr=>∃ (J:Nat) (pl:List Int),J<=n∧v16 = .int .i64 (J:Int)∧Hid (LaidTo l pl J)∧Hid (Blk wr (w.heap.size+1) 190 pl)∧Hid (wr.heap[w.heap.size]?=some (.cells X 192 (0,0)))∧Hid (Blk wr g 5 cs)∧Hid (Below w.heap.size w wr)) (fun i _=>n-(intOf i).toNat)
 case atStart=>exact ⟨0,pl0,Nat.zero_le _,rfl,HZ0,HA0,HP0,HB0,Hb0⟩
 case round =>
  obtain ⟨J,pl,hJ,rfl,HZ,HA,HP,HB,Hb⟩:=hrel
  clear HZ0 HA0 HP0 HB0 Hb0
  by_cases hlt:J<n
  ·have hlt':(J:Int)<n:=by omega
   have hJl:J<l.length:=by rw [Hn.out];exact hlt
   have hkk:=HK.out _ (getD_mem hJl)
   have hcell:wr.cell? ⟨w.heap.size,J,none⟩=some (.int .u8 (l.getD J 0)):=by
    rw [cell_of_row _ w.heap.size J X 192 (0,0) HP.out]
    exact HX.out.kinds J (by omega)
   have hmore:=HZ.out.more HR.out HK.out hJl
   have hpl:=HZ.out.1
   obtain ⟨V,hV⟩:=Int.eq_ofNat_of_zero_le hkk.1
   rw [hV] at hkk hcell hmore
   rw [Int.toNat_natCast] at hmore
   have hold:=HA.out.cell (k:=V) (by omega)
   have hfr:=HA.out.free V
   generalize pl.getD V 0=old at hold
   have HA2:Hid (Blk (wr.setCell ⟨w.heap.size+1,V,none⟩ (.int .u8 (J:Int))) (w.heap.size+1) 190 (pl.set V (J:Int))):=HA.out.set V _
   have HZ2:Hid (LaidTo l (pl.set V (J:Int)) (J+1)):=hmore
   have HP2:Hid ((wr.setCell ⟨w.heap.size+1,V,none⟩ (.int .u8 (J:Int))).heap[w.heap.size]?=some (.cells X 192 (0,0))):=(Below.heap_setCell wr ⟨w.heap.size+1,V,none⟩ _ _ (by simp)).trans HP.out
   have HB2:Hid (Blk (wr.setCell ⟨w.heap.size+1,V,none⟩ (.int .u8 (J:Int))) g 5 cs):=HB.out.other (by omega)
   have Hb2:Hid (Below w.heap.size w (wr.setCell ⟨w.heap.size+1,V,none⟩ (.int .u8 (J:Int)))):=Hb.out.setCell (p:=⟨w.heap.size+1,V,none⟩) (by simp) _
   have hV17:(V:Int)<17:=by omega
   have hJ17:(J:Int)<17:=by omega
   clear HZ HA HP HB Hb hmore hJl hV hkk hpl
   go_wp2
   go_roundw
   case rel=>exact ⟨J+1,_,by omega,by go_num,HZ2,HA2,HP2,HB2,Hb2⟩
   case measure=>simp [intOf];omega
  ·obtain rfl:J=n:=by omega
   have hlt':¬ (J:Int)<J:=by omega
   have hmk:=make_bytes wr
   have HZl:Hid (LaidTo l pl l.length):=by show LaidTo _ _ _;rw [Hn.out];exact HZ.out
   have hla:=HA.out.lt
   have hbm:Below wr.heap.size wr (wr.alloc (.cells (vals (List.replicate 32768 0)) 5)):=(Below.refl _ _).alloc (Nat.le_refl _) _
   have HA3:Hid (Blk (wr.alloc (.cells (vals (List.replicate 32768 0)) 5)) (w.heap.size+1) 190 pl):=HA.out.below hbm hla
   have HB3:Hid (Blk (wr.alloc (.cells (vals (List.replicate 32768 0)) 5)) g 5 cs):=HB.out.below hbm HB.out.lt
   have Hb3:Hid (Below w.heap.size w (wr.alloc (.cells (vals (List.replicate 32768 0)) 5))):=Hb.out.trans (hbm.mono (by omega))
   have HD3:Hid (∃ ds,Blk (wr.alloc (.cells (vals (List.replicate 32768 0)) 5)) wr.heap.size 5 ds∧ds.length=32768∧ds.take 0=(cs.take 0).map fun c=>(plc l c:Int)):=⟨_,Blk.new wr 5 _,List.length_replicate,rfl⟩
   have Hh:Hid (w.heap.size+1<wr.heap.size):=hla
   clear HZ HA HP HB Hb hbm hla
   generalize vals (List.replicate 32768 0)=vs at *
   go_wp2
   clear hmk
   generalize wr.alloc (.cells vs 5)=wm at *
   generalize wr.heap.size=h at *
   go_loopw [31] (fun v31 wr=>∃ (I:Nat),I<=32768∧v31 = .int .i64 (I:Int)∧Hid (∃ ds,Blk wr h 5 ds∧ds.length=32768∧ds.take I=(cs.take I).map fun c=>(plc l c:Int))∧Hid (Blk wr (w.heap.size+1) 190 pl)∧Hid (Blk wr g 5 cs)∧Hid (Below w.heap.size w wr)) (fun i _=>32768-(intOf i).toNat)
   case atStart=>exact ⟨0,by omega,rfl,HD3,HA3,HB3,Hb3⟩
   case round =>
    obtain ⟨I,hI,rfl,HD,HA,HB,Hb⟩:=hrel
    clear HD3 HA3 HB3 Hb3
    have hh:=Hh.out
    by_cases hlt2:I<32768
    ·have hlt2':(I:Int)<32768:=by omega
     have hIl:I<cs.length:=by rw [Hlen.out];exact hlt2
     have hcl:=HM.out _ (getD_mem hIl)
     have hkk:=HK.out _ hcl
     have hcell:=HB.out.cell (k:=I) hIl
     have hat:=HZl.out.at hcl
     obtain ⟨V,hV⟩:=Int.eq_ofNat_of_zero_le hkk.1
     have hpl:=HZl.out.1
     have hcell2:=HA.out.cell (k:=V) (by omega)
     rw [hV,Int.toNat_natCast] at hat
     rw [hV] at hcell hkk
     rw [hat] at hcell2
     obtain ⟨ds,hds,hdl,hdt⟩:=HD.out
     have hold:=hds.cell (k:=I) (by omega)
     have hfr:=hds.free I
     have hpn:plc l (V:Int)<=16:=by
      have:=plc_lt (l:=l) (k:=(V:Int)) (by rw [<- hV];exact hcl)
      have:=HL.out
      omega
     have HD2:Hid (∃ ds,Blk (wr.setCell ⟨h,I,none⟩ (.int .u8 (plc l (V:Int):Int))) h 5 ds∧ds.length=32768∧ds.take (I+1)=(cs.take (I+1)).map fun c=>(plc l c:Int)):=by
      refine ⟨ds.set I (plc l (V:Int):Int),hds.set I _,by rw [List.length_set,hdl],?_⟩
      have hg1:cs[I]?=some (V:Int):=by
       rw [List.getElem?_eq_getElem hIl,<- hV,List.getD_eq_getElem?_getD,List.getElem?_eq_getElem hIl]
       rfl
      rw [List.take_add_one,List.take_add_one,List.map_append,hg1,<- hdt,List.take_set,List.set_eq_of_length_le (by rw [List.length_take];omega),List.getElem?_set_self (by omega)]
      rfl
     generalize plc l (V:Int)=p at *
     generalize ds.getD I 0=old at hold
     have HA2:Hid (Blk (wr.setCell ⟨h,I,none⟩ (.int .u8 (p:Int))) (w.heap.size+1) 190 pl):=HA.out.other (by omega)
     have HB2:Hid (Blk (wr.setCell ⟨h,I,none⟩ (.int .u8 (p:Int))) g 5 cs):=HB.out.other (by omega)
     have Hb2:Hid (Below w.heap.size w (wr.setCell ⟨h,I,none⟩ (.int .u8 (p:Int)))):=Hb.out.setCell (p:=⟨h,I,none⟩) (by simp;omega) _
     have hV17:(V:Int)<17:=by omega
     have hp16:(p:Int)<=16:=by omega
     clear HD HA HB Hb hds hdl hdt hat hV hcl hIl hpl hkk hh
     go_wp2
     go_roundw
     case rel=>exact ⟨I+1,by omega,by go_num,HD2,HA2,HB2,Hb2⟩
     case measure=>simp [intOf];omega
    ·obtain rfl:I=32768:=by omega
     have hlt2':¬ (32768:Int)<32768:=by omega
     obtain ⟨ds,hds,hdl,hdt⟩:=HD.out
     rw [List.take_of_length_le (by omega),List.take_of_length_le (by rw [Hlen.out];exact Nat.le_refl _)] at hdt
     rw [hdt] at hds
     have R:=HPost.out h wr hds (by omega) Hb.out
     clear HD HA HB Hb hds hdl hdt HPost
     go_wp2
     exact R
end Go.Proofs.YtlllmmceoeihkaaGreat.K
namespace Go.Proofs.YtlllmmceoeihkaaGreat.K
open Go.RowKit
theorem Bytes.src {w:World} {a:Option Addr} {n:Nat} {xs:List Int} (h:Bytes w a n xs):Src w a n xs:=by
 refine ⟨h.n,fun k hk=>?_,fun k=>?_⟩
 ·have hk':k<xs.length:=by rw [h.n];exact hk
  rcases h.cells with e | ⟨b,o,e,hc⟩
  ·subst e;simp at hk'
  ·refine ⟨b,o,e,World.block_lt_of_cell? w _ (hc k hk'),?_⟩
   rw [hc k hk',List.getD_eq_getElem?_getD,List.getElem?_eq_getElem hk']
   rfl
 ·by_cases hk:k<xs.length
  ·rw [List.getD_eq_getElem?_getD,List.getElem?_eq_getElem hk]
   exact h.fit _ (List.getElem_mem hk)
  ·rw [List.getD_eq_getElem?_getD,List.getElem?_eq_none (by omega)]
   simp
theorem Src.bytes {w:World} {a:Option Addr} {n:Nat} {xs:List Int} (h:Src w a n xs):Bytes w a n xs:=by
 refine ⟨h.len,?_,fun z hz=>?_⟩
 ·rcases xs with _ | ⟨x,r⟩
  ·exact .inl rfl
  ·have hn:0<n:=by rw [<- h.len];simp
   obtain ⟨b,o,e,_,_⟩:=h.cells 0 hn
   refine .inr ⟨b,o,e,fun k hk=>?_⟩
   obtain ⟨b',o',e',_,hc⟩:=h.cells k (by rw [<- h.len];exact hk)
   rw [e] at e'
   cases e'
   rw [hc,List.getD_eq_getElem?_getD,List.getElem?_eq_getElem hk]
   rfl
 ·obtain ⟨k,hk,rfl⟩:=List.mem_iff_getElem.1 hz
  have:=h.byte k
  rwa [List.getD_eq_getElem?_getD,List.getElem?_eq_getElem hk] at this
end Go.Proofs.YtlllmmceoeihkaaGreat.K
namespace Go.Proofs.YtlllmmceoeihkaaGreat.K
open Go.RowKit
theorem bytes_new (w:World) (zs:List Int) (h:∀ z∈zs,0<=z∧z<=255) (n:Nat) (hn:zs.length=n):Bytes (w.alloc (.cells (vals zs) 5)) (some ⟨w.heap.size,0,none⟩) n zs :=
 Src.bytes ⟨hn,fun k hk=>⟨w.heap.size,0,rfl,by rw [World.size_alloc];omega,by rw [Nat.zero_add];exact (Blk.new w 5 zs).cell (by omega)⟩,fun k=>by
  by_cases hk:k<zs.length
  ·rw [List.getD_eq_getElem?_getD,List.getElem?_eq_getElem hk]
   exact h _ (List.getElem_mem hk)
  ·rw [List.getD_eq_getElem?_getD,List.getElem?_eq_none (by omega)]
   simp⟩
end Go.Proofs.YtlllmmceoeihkaaGreat.K
set_option maxRecDepth 20000
namespace Go.Proofs.YtlllmmceoeihkaaGreat.Z
open K Go.RowKit
def I64 (x:Int):Prop := -9223372036854775808<=x∧x<=9223372036854775807
def kcell (k:Km):List Value:=[.int .i64 k.x,.int .i64 k.z,.slice k.a k.b.length k.c,.int .i64 (k.m:Int)]
def kcells (l:List Km):List Value:=l.flatMap kcell
theorem kcells_len (l:List Km):(kcells l).length=l.length*4:=by
 induction l with
 | nil=>rfl
 | cons p l ih =>
   show (kcell p++kcells l).length=_
   rw [List.length_append,ih,List.length_cons]
   show 4+l.length*4=_
   omega
theorem kcells_append (a b:List Km):kcells (a++b)=kcells a++kcells b:=by simp [kcells]
theorem kcells_at:∀ (l:List Km) (k:Nat) (h:k<l.length) (j:Nat),j<4->(kcells l)[k*4+j]?=(kcell l[k])[j]?
 | p::l,0,_,j,hj=>by
   show (kcell p++kcells l)[0*4+j]?=_
   rw [Nat.zero_mul,Nat.zero_add,List.getElem?_append_left (by show j<4;exact hj)]
   rfl
 | p::l,k+1,h,j,hj=>by
   have ih:=kcells_at l k (by simpa using h) j hj
   show (kcell p++kcells l)[(k+1)*4+j]?=_
   rw [show (k+1)*4+j=4+(k*4+j) by omega,List.getElem?_append_right (by show 4<=_;omega)]
   simp only [List.getElem_cons_succ]
   rw [<- ih]
   congr 1
   show 4+(k*4+j)-4=_
   omega
def KRow (B:Nat) (w:World) (av:Option Addr) (cv:Nat) (l:List Km):Prop:=w.ownsRow B 103 4 (.slice av l.length cv) l.length (kcells l)
section
variable {B:Nat} {w w':World} {av:Option Addr} {cv:Nat} {l:List Km}
theorem KRow.blk {g:Nat} (h:KRow B w (some ⟨g,0,none⟩) cv l):∃ cur,w.heap[g]?=some (.cells cur 103 (0,0))∧B<=g∧l.length<=cv∧cv<=maxLen∧cur.size=cv*4∧cur.toList.take (l.length*4)=kcells l:=by
 rcases h.2 with ⟨e2,_⟩|⟨g',c',cur,e2,hB,hg',h1,h2,h3,h4⟩
 ·simp at e2
 ·simp only [Value.slice.injEq,Option.some.injEq,Addr.mk.injEq] at e2
  rw [e2.1.1,e2.2.2]
  exact ⟨cur,hg',hB,h1,h2,h3,h4⟩
theorem KRow.form (h:KRow B w av cv l):(av=none∧l=[]∧cv=0)∨∃ g,av=some ⟨g,0,none⟩:=by
 rcases h.2 with ⟨e2,e3⟩|⟨g',_,cur,e2,hB,hg',_⟩
 ·simp only [Value.slice.injEq] at e2
  exact .inl ⟨e2.1,List.eq_nil_of_length_eq_zero e3,e2.2.2⟩
 ·simp only [Value.slice.injEq] at e2
  exact .inr ⟨g',e2.1⟩
theorem KRow.same (h:KRow B w av cv l) (e:∀ g,av=some ⟨g,0,none⟩->w'.heap[g]?=w.heap[g]?):KRow B w' av cv l:=by
 refine ⟨h.1,?_⟩
 rcases h.2 with h1 | ⟨g,cap',cur,hv,hb,hg,r⟩
 ·exact .inl h1
 ·refine .inr ⟨g,cap',cur,hv,hb,?_,r⟩
  simp only [Value.slice.injEq] at hv
  rw [e g hv.1]
  exact hg
theorem KRow.cell {g:Nat} (h:KRow B w (some ⟨g,0,none⟩) cv l) {k:Nat} (hk:k<l.length):w.cell? ⟨g,k*4,none⟩=some (.int .i64 l[k].x)∧w.cell? ⟨g,k*4+1,none⟩=some (.int .i64 l[k].z)∧w.cell? ⟨g,k*4+2,none⟩=some (.slice l[k].a l[k].b.length l[k].c)∧w.cell? ⟨g,k*4+3,none⟩=some (.int .i64 (l[k].m:Int)):=by
 have hc:=h.cells (g:=g) rfl
 have c:∀ j v,j<4->(kcell l[k])[j]?=some v->w.cell? ⟨g,k*4+j,none⟩=some v:=fun j v hj hv=>by
  have:=hc (k*4+j) v (by rw [kcells_at l k hk j hj];exact hv)
  rw [Addr.add_lit,Nat.zero_add] at this
  exact this
 exact ⟨c 0 _ (by omega) rfl,c 1 _ (by omega) rfl,c 2 _ (by omega) rfl,c 3 _ (by omega) rfl⟩
theorem KRow.free {g:Nat} (h:KRow B w (some ⟨g,0,none⟩) cv l) (k:Nat):w.frozen? ⟨g,k,none⟩=false:=by
 obtain ⟨cur,hg,_⟩:=h.blk
 exact frozen_of_row w g k _ 103 hg
end
def Cz (w:World) (a:Option Addr) (c:Nat) (b:List Int):Prop:=(b=[]∧a=none∧c=0)∨∃ g,a=some ⟨g,0,none⟩∧b.length=32768∧b.length<=c∧c<=maxLen∧Kinds b∧Pfx w g b
structure RSt (G:Nat->Prop) (B:Nat) (w:World) (r:Nat) (L:List Km) (av:Option Addr) (cv:Nat):Prop where
 hd:w.heap[r]?=some (.cells #[.slice av L.length cv] 34 (0,0))
 row:KRow B w av cv L
 by_:∀ k∈L,Cz w k.a k.c k.b
 gr:G r
 gv:∀ g,av=some ⟨g,0,none⟩->G g
 gb:∀ k∈L,∀ g,k.a=some ⟨g,0,none⟩->G g
 lt:∀ k,G k->k<w.heap.size
 sz:L.length<=2000
 mb:∀ k∈L,k.m<=100000
 ky:∀ k∈L,I64 k.x∧I64 k.z
section
variable {G:Nat->Prop} {B:Nat} {w w':World} {r:Nat} {L:List Km} {av:Option Addr} {cv:Nat}
theorem Cz.same {a:Option Addr} {c:Nat} {b:List Int} (h:Cz w a c b) (e:∀ g,a=some ⟨g,0,none⟩->w'.heap[g]?=w.heap[g]?):Cz w' a c b:=by
 rcases h with h | ⟨g,rfl,h1,h2,h3,h4,h5⟩
 ·exact .inl h
 ·exact .inr ⟨g,rfl,h1,h2,h3,h4,h5.same (e g rfl)⟩
theorem RSt.keep (h:RSt G B w r L av cv) (hk:∀ k,G k->w'.heap[k]?=w.heap[k]?) (hs:w.heap.size<=w'.heap.size):RSt G B w' r L av cv :=
 ⟨(hk r h.gr).trans h.hd,h.row.same (fun g e=>hk g (h.gv g e)),fun k hm=>(h.by_ k hm).same (fun g e=>hk g (h.gb k hm g e)),h.gr,h.gv,h.gb,fun k hg=>Nat.lt_of_lt_of_le (h.lt k hg) hs,h.sz,h.mb,h.ky⟩
theorem RSt.on (h:RSt G B w r L av cv) (hb:Below w.heap.size w w'):RSt G B w' r L av cv:=h.keep (fun k hk=>hb.block k (h.lt k hk)) hb.size
theorem RSt.c0 (h:RSt G B w r L av cv):w.cell? ⟨r,0,none⟩=some (.slice av L.length cv):=by rw [cell_of_row w r 0 _ 34 (0,0) h.hd];rfl
end
theorem Cz.bytes {w:World} {a:Option Addr} {c:Nat} {b:List Int} (h:Cz w a c b):Bytes w a b.length b:=by
 rcases h with ⟨rfl,rfl,_⟩|⟨g,rfl,h1,_,_,h4,h5⟩
 ·exact ⟨rfl,.inl rfl,fun z hz=>by cases hz⟩
 ·exact h5.bytes (fun z hz=>by have:=h4 z hz;omega)
abbrev valA (x z:Int):Value:=.agg #[.int .i64 x,.int .i64 z]
theorem box_at (w:World) (x z:Int):Below w.heap.size w (w.alloc (.cells #[.int .i64 x,.int .i64 z] 39))∧(w.alloc (.cells #[.int .i64 x,.int .i64 z] 39)).cell? ⟨w.heap.size,0,none⟩=some (.int .i64 x)∧(w.alloc (.cells #[.int .i64 x,.int .i64 z] 39)).cell? ⟨w.heap.size,1,none⟩=some (.int .i64 z):=by
 have hN:=heap_alloc_new w (.cells #[.int .i64 x,.int .i64 z] 39)
 refine ⟨(Below.refl _ _).alloc (Nat.le_refl _) _,?_,?_⟩
 ·rw [cell_of_row _ _ 0 _ 39 (0,0) hN];rfl
 ·rw [cell_of_row _ _ 1 _ 39 (0,0) hN];rfl
theorem below_drewN (w:World) (n:Nat):Below w.heap.size w (w.drewN n):=⟨rfl,rfl,rfl,Nat.le_refl _,fun _ _=>rfl⟩
theorem rnone_c {w:World} {a:Option Addr} {n c:Nat} {b:List Int} (h:Bytes w a n b) (hn:n<=1000000) :
  Calls Tryz.prog 28 #[.slice a n c] w fun e w'=>e = .returned (.bool (noneB b))∧w'=w:=by
 have HA:Hid (Bytes w a n b):=h
 have hl:=h.n
 have HL:Hid (b.length=n):=h.n
 clear h
 go_enter Tryz.func28,Tryz.ntmps28
 go_wp2
 go_loopw [3] (fun vi wr=>∃ k:Nat,vi = .int .i64 (k:Int)∧k<=n∧wr=w∧Hid (∀ j (h:j<b.length),j<k->b[j]=16)) (fun vi _=>n-(intOf vi).toNat)
 case atStart=>exact ⟨0,rfl,Nat.zero_le _,rfl,fun j _ hj=>by omega⟩
 case round =>
  obtain ⟨k,rfl,hk,hw,HI⟩:=hrel
  subst hw
  by_cases hlt:k<n
  ·have hlt':(k:Int)<(n:Int):=by omega
   obtain ⟨g,off,y,rfl,hc,hy0,hy1,hkl,hyy⟩:=HA.out.get k hlt
   have HY:Hid (∃ h:k<b.length,y=b[k]):=⟨hkl,hyy⟩
   clear hyy hl
   by_cases e:y=16
   ·subst e
    go_wp2
    go_roundw
    case rel=>exact ⟨k+1,by go_num,by omega,trivial,fun j hj hjk=>(by
      by_cases e:j=k
      ·subst e
       obtain ⟨_,e⟩:=HY.out
       exact e.symm
      ·exact HI.out j hj (by omega))⟩
    case measure=>simp [intOf];omega
   ·have hnb:noneB b=false:=by
     obtain ⟨hkl,hy⟩:=HY.out
     unfold noneB
     rw [List.all_eq_false]
     exact ⟨b[k],List.getElem_mem hkl,by rw [<- hy];simp [e]⟩
    have HN:Hid (noneB b=false):=hnb
    clear hnb HI
    go_wp2
    go_ret
    exact ⟨by rw [HN.out];rfl,rfl⟩
  ·obtain rfl:k=n:=by omega
   have hnb:noneB b=true:=by
    have:=noneB_take b (n:=k) HI.out
    rwa [List.take_of_length_le (by omega)] at this
   have HN:Hid (noneB b=true):=hnb
   clear hnb HI
   go_wp2
   go_ret
   exact ⟨by rw [HN.out];rfl,rfl⟩
end Go.Proofs.YtlllmmceoeihkaaGreat.Z
