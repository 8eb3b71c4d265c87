/-
  Plain mathematics for the layer num: groups of seven bits, the number that bytes begin with, and the sum of bytes; no program is named here.
  Plain mathematics for the layer codec: palettes, runs, packed numbers, there and back; no program is named here.
  Plain mathematics for the layer codec: packed numbers; a chunk's bytes, there and back.
  Plain mathematics for the layer codec: a chunk's bytes, there and back.
-/
import Derived.Laws.Bits128
import Derived.Laws.BitsAllLaws
import Derived.Lib.BitFns
import Derived.Lib.ItoaNum
namespace Go.Proofs.YtlllmmceoeihkaaGreat.K
/-! ### bits -/
theorem i64_or_nat (a b:Nat) (ha:a<9223372036854775808) (hb:b<9223372036854775808):bits .or .i64 (a:Int) (b:Int)=((a ||| b:Nat):Int):=by
 have hx:a ||| b<2 ^ 63:=Nat.or_lt_two_pow (by omega) (by omega)
 show IntKind.i64.wrap ((BitVec.ofInt 64 (a:Int) ||| BitVec.ofInt 64 (b:Int)).toNat:Int)=_
 rw [BitVec.toNat_or,ofInt_u64 a (by omega),ofInt_u64 b (by omega)]
 simp [IntKind.wrap,IntKind.bits,IntKind.signed]
 omega
theorem or_join (a b:Int) (m:Nat) (h0:0<=a) (h1:a<2 ^ m) (hb:0<=b) (hm:b%2 ^ m=0) (hs:a+b<9223372036854775808):bits .or .i64 a b=a+b:=by
 obtain ⟨A,rfl⟩:=Int.eq_ofNat_of_zero_le h0
 obtain ⟨B,rfl⟩:=Int.eq_ofNat_of_zero_le hb
 have hA:A<2 ^ m:=by exact_mod_cast h1
 have hB:B%2 ^ m=0:=by exact_mod_cast hm
 rw [i64_or_nat A B (by omega) (by omega),Nat.or_comm,nat_join m B A hB hA]
 omega
theorem or0 (a b:Int) (h0:0<=a) (h1:a<1) (hb:0<=b) (hs:b<4294967296):bits .or .i64 a b=a+b:=or_join a b 0 h0 (by simpa using h1) hb (by omega) (by omega)
theorem or1 (a b:Int) (h0:0<=a) (h1:a<128) (hb:0<=b) (hs:b<128):bits .or .i64 a (b*128)=a+b*128:=or_join a _ 7 h0 (by simpa using h1) (by omega) (by omega) (by omega)
theorem or2 (a b:Int) (h0:0<=a) (h1:a<16384) (hb:0<=b) (hs:b<128):bits .or .i64 a (b*16384)=a+b*16384:=or_join a _ 14 h0 (by simpa using h1) (by omega) (by omega) (by omega)
theorem or3 (a b:Int) (h0:0<=a) (h1:a<2097152) (hb:0<=b) (hs:b<128):bits .or .i64 a (b*2097152)=a+b*2097152:=or_join a _ 21 h0 (by simpa using h1) (by omega) (by omega) (by omega)
theorem or4 (a b:Int) (h0:0<=a) (h1:a<268435456) (hb:0<=b) (hs:b<128):bits .or .i64 a (b*268435456)=a+b*268435456:=or_join a _ 28 h0 (by simpa using h1) (by omega) (by omega) (by omega)
theorem orTop (a:Int) (h0:0<=a) (h1:a<128):bits .or .i64 a 128=a+128:=or_join a 128 7 h0 (by simpa using h1) (by omega) (by omega) (by omega)
theorem and7 (z:Int) (h0:0<=z) (h1:z<=255):bits .and .u8 z 127=z%128:=by
 rw [u8_and z 127 h0 (by omega) (by omega) (by omega),show (127:Int).toNat=127 from rfl,nat_mask7]
 omega
/-! ### the sum -/
def fnv (x c:Int):Int:=((x.toNat ^^^ c.toNat:Nat):Int)*16777619%4294967296
def sumL (zs:List Int):Int:=zs.foldl fnv 2166136261
theorem fnv_bd (x c:Int):0<=fnv x c∧fnv x c<=4294967295:=by unfold fnv;omega
theorem foldl_bd (zs:List Int) (x:Int) (h:0<=x∧x<=4294967295):0<=zs.foldl fnv x∧zs.foldl fnv x<=4294967295:=by
 induction zs generalizing x with
 | nil=>exact h
 | cons z r ih=>exact ih _ (fnv_bd x z)
theorem sumL_bd (zs:List Int):0<=sumL zs∧sumL zs<=4294967295:=foldl_bd zs _ (by omega)
theorem fnv_walk (x c:Int) (h0:0<=x) (h1:x<=4294967295) (c0:0<=c) (c1:c<=255):bits .xor .u32 x c*16777619%4294967296=fnv x c:=by
 rw [u32_xor x c h0 (by omega) c0 (by omega),fnv]
theorem sumL_succ (zs:List Int) (k:Nat) (hk:k<zs.length):sumL (zs.take (k+1))=fnv (sumL (zs.take k)) zs[k]:=by
 unfold sumL
 rw [List.take_succ_eq_append_getElem hk,List.foldl_append]
 rfl
/-! ### the number that bytes begin with -/
def getF:Nat->Nat->Int->List Int->Int×Int
 | 0,_,_,_=>(0,0)
 | _+1,_,_,[]=>(0,0)
 | f+1,i,acc,z::r=>if z<128 then (if 2147483647<acc+z%128*128 ^ i then (0,0) else (acc+z%128*128 ^ i,(i:Int)+1)) else getF f (i+1) (acc+z%128*128 ^ i) r
def getAt (xs:List Int) (k:Nat) (acc:Int):Int×Int:=getF (5-k) k acc (xs.drop k)
def getL (xs:List Int):Int×Int:=getF 5 0 0 xs
theorem getAt_zero (xs:List Int):getAt xs 0 0=getL xs:=by simp [getAt,getL]
theorem getAt_cons (xs:List Int) (k:Nat) (acc:Int) (hk:k<xs.length) (h5:k<5) :
  getAt xs k acc=if xs[k]<128 then (if 2147483647<acc+xs[k]%128*128 ^ k then (0,0) else (acc+xs[k]%128*128 ^ k,(k:Int)+1)) else getAt xs (k+1) (acc+xs[k]%128*128 ^ k):=by
 unfold getAt
 rw [List.drop_eq_getElem_cons hk,show 5-k=(5-(k+1))+1 by omega,getF]
theorem getAt_more (xs:List Int) (k:Nat) (acc z:Int) (hk:k<xs.length) (h5:k<5) (hz:z=xs[k]) (h:128<=z):getAt xs k acc=getAt xs (k+1) (acc+z%128*128 ^ k):=by
 subst hz
 rw [getAt_cons xs k acc hk h5,if_neg (by omega)]
theorem getAt_great (xs:List Int) (k:Nat) (acc z:Int) (hk:k<xs.length) (h5:k<5) (hz:z=xs[k]) (h:z<128) (hg:2147483647<acc+z%128*128 ^ k):getAt xs k acc=(0,0):=by
 subst hz
 rw [getAt_cons xs k acc hk h5,if_pos h,if_pos hg]
theorem getAt_last (xs:List Int) (k:Nat) (acc z:Int) (hk:k<xs.length) (h5:k<5) (hz:z=xs[k]) (h:z<128) (hg:acc+z%128*128 ^ k<=2147483647):getAt xs k acc=(acc+z%128*128 ^ k,(k:Int)+1):=by
 subst hz
 rw [getAt_cons xs k acc hk h5,if_pos h,if_neg (by omega)]
theorem getAt_out (xs:List Int) (k:Nat) (acc:Int) (h:xs.length<=k∨5<=k):getAt xs k acc=(0,0):=by
 unfold getAt
 rcases h with h | h
 ·rw [List.drop_eq_nil_of_le h];cases 5-k <;> rfl
 ·rw [show 5-k=0 by omega];rfl
/-! ### groups of seven bits -/
def grp (n:Int):Nat:=if n<0 then 0 else max 1 ((Lib.bitLen n.toNat+6)/7)
def digs (n:Int) (k:Nat):List Int:=(List.range k).map fun i=>n/128 ^ i%128+128
def putL (n:Int):List Int:=if n<0 then [] else digs n (grp n-1)++[n/128 ^ (grp n-1)]
theorem pow128 (k:Nat):(128:Nat) ^ k=2 ^ (7*k):=by rw [Nat.pow_mul]
theorem grp_nat (m:Nat) (h:m<9223372036854775808):1<=grp m∧grp m<=9∧m<128 ^ grp m∧(grp m=1∨128 ^ (grp m-1)<=m):=by
 have hd:grp (m:Int)=max 1 ((Lib.bitLen m+6)/7):=by unfold grp;rw [if_neg (by omega)];rfl
 by_cases h0:m=0
 ·subst h0
  have e:grp ((0:Nat):Int)=1:=by decide
  rw [e];omega
 ·obtain ⟨b1,b2,b3⟩:=Lib.bitLenAux_bounds 64 m (by omega) h0
  have bu:Lib.bitLen m<=63:=Lib.bitLen_le m 63 (by omega) (by omega)
  have eL:Lib.bitLenAux 64 m=Lib.bitLen m:=rfl
  rw [eL] at b1 b2 b3
  generalize Lib.bitLen m=L at *
  generalize hg:grp (m:Int)=g at *
  have g1:1<=g:=by omega
  have gL:L<=7*g:=by omega
  have gU:g=1∨7*(g-1)<=L-1:=by omega
  refine ⟨g1,by omega,?_,?_⟩
  ·rw [pow128];exact Nat.lt_of_lt_of_le b3 (Nat.pow_le_pow_right (by omega) gL)
  ·rcases gU with e | gU
   ·exact Or.inl e
   ·right;rw [pow128];exact Nat.le_trans (Nat.pow_le_pow_right (by omega) gU) b2
theorem grp_spec (n:Int) (h0:0<=n) (h1:n<9223372036854775808):1<=grp n∧grp n<=9∧n<128 ^ grp n∧(grp n=1∨(128:Int) ^ (grp n-1)<=n):=by
 obtain ⟨m,rfl⟩:=Int.eq_ofNat_of_zero_le h0
 obtain ⟨a,b,c,d⟩:=grp_nat m (by omega)
 exact ⟨a,b,by exact_mod_cast c,d.imp id fun h=>by exact_mod_cast h⟩
theorem grp_uniq (n:Int) (h0:0<=n) (h1:n<9223372036854775808) (k:Nat) (hk:1<=k) (hu:n<128 ^ k) (hl:k=1∨(128:Int) ^ (k-1)<=n):k=grp n:=by
 obtain ⟨m,rfl⟩:=Int.eq_ofNat_of_zero_le h0
 obtain ⟨a,b,c,d⟩:=grp_nat m (by omega)
 generalize grp (m:Int)=g at *
 have hu':m<128 ^ k:=by exact_mod_cast hu
 have hl':k=1∨128 ^ (k-1)<=m:=hl.imp id fun h=>by exact_mod_cast h
 have f1:k-1<g∨k=1:=by
  rcases hl' with h | h
  ·exact Or.inr h
  ·left;exact (Nat.pow_lt_pow_iff_right (by omega)).1 (Nat.lt_of_le_of_lt h c)
 have f2:g-1<k∨g=1:=by
  rcases d with h | h
  ·exact Or.inr h
  ·left;exact (Nat.pow_lt_pow_iff_right (by omega)).1 (Nat.lt_of_le_of_lt h hu')
 omega
theorem digs_len (n:Int) (k:Nat):(digs n k).length=k:=by simp [digs]
theorem digs_succ (n:Int) (k:Nat):digs n (k+1)=digs n k++[n/128 ^ k%128+128]:=by simp [digs,List.range_succ]
theorem digs_fit (n:Int) (k:Nat):∀ z∈digs n k,0<=z∧z<=255:=by
 intro z hz
 simp only [digs,List.mem_map] at hz
 obtain ⟨i,_,rfl⟩:=hz
 omega
theorem div_pow_succ (n:Int) (k:Nat):n/128 ^ (k+1)=n/128 ^ k/128:=by
 rw [Int.pow_succ,Int.ediv_ediv_of_nonneg (Int.le_of_lt (Int.pow_pos (by omega)))]
theorem div_pow_nonneg (n:Int) (k:Nat) (h:0<=n):0<=n/128 ^ k:=Int.ediv_nonneg h (Int.le_of_lt (Int.pow_pos (by omega)))
theorem div_pow_le (n:Int) (k:Nat) (h:0<=n):n/128 ^ k<=n:=by
 induction k with
 | zero=>simp
 | succ k ih=>rw [div_pow_succ];have:=div_pow_nonneg n k h;omega
theorem div_pow_lt (n:Int) (k:Nat) (h:n<128 ^ (k+1)):n/128 ^ k<128:=by
 rw [Int.pow_succ] at h
 exact Int.ediv_lt_of_lt_mul (Int.pow_pos (by omega)) (by rw [Int.mul_comm];exact h)
theorem div_pow_ge (n:Int) (k:Nat) (h:128<=n/128 ^ k):(128:Int) ^ (k+1)<=n:=by
 have:=(Int.le_ediv_iff_mul_le (Int.pow_pos (show (0:Int)<128 by omega))).1 h
 rw [Int.pow_succ];rw [Int.mul_comm];exact this
theorem putL_len (n:Int) (h0:0<=n) (h1:n<9223372036854775808):(putL n).length=grp n:=by
 have:=grp_spec n h0 h1
 unfold putL
 rw [if_neg (by omega)]
 simp [digs_len]
 omega
theorem putL_fit (n:Int) (h1:n<9223372036854775808):∀ z∈putL n,0<=z∧z<=255:=by
 intro z hz
 unfold putL at hz
 split at hz
 ·simp at hz
 ·have g:=grp_spec n (by omega) h1
  rw [List.mem_append] at hz
  rcases hz with hz | hz
  ·exact digs_fit n _ z hz
  ·simp at hz
   subst hz
   have:=div_pow_nonneg n (grp n-1) (by omega)
   have:=div_pow_lt n (grp n-1) (by rw [show grp n-1+1=grp n by omega];exact g.2.2.1)
   omega
theorem putL_digs (n:Int) (h0:0<=n) (h1:n<9223372036854775808) (k:Nat) (hk:k+1=grp n):putL n=digs n k++[(n/128 ^ k%128+128)%128]:=by
 have g:=grp_spec n h0 h1
 unfold putL
 rw [if_neg (by omega),<- hk]
 have a:=div_pow_nonneg n k h0
 have b:=div_pow_lt n k (by rw [hk];exact g.2.2.1)
 simp only [Nat.add_sub_cancel]
 congr 2
 omega
theorem putL_stop (n:Int) (h0:0<=n) (h1:n<9223372036854775808) (k:Nat) (hl:k=0∨(128:Int) ^ k<=n) (hk:n/128 ^ k<128):putL n=digs n k++[n/128 ^ k]:=by
 have e:k+1=grp n:=grp_uniq n h0 h1 (k+1) (by omega) (by
  rw [Int.pow_succ,Int.mul_comm]
  exact Int.lt_mul_of_ediv_lt (Int.pow_pos (show (0:Int)<128 by omega)) hk) (by
  rcases hl with h | h
  ·left;omega
  ·right;simpa using h)
 unfold putL
 rw [if_neg (by omega),<- e]
 simp
theorem getL_putL (n:Int) (h0:0<=n) (h1:n<=2147483647) (tail:List Int):getL (putL n++tail)=(n,(grp n:Int))∧1<=grp n∧grp n<=5:=by
 obtain ⟨a,b,c,d⟩:=grp_spec n h0 (by omega)
 have g5:grp n<=5:=by
  rcases d with h | h
  ·omega
  ·have:(128:Int) ^ (grp n-1)<128 ^ 5:=Int.lt_of_le_of_lt h (by omega)
   have h':(128:Nat) ^ (grp n-1)<128 ^ 5:=by exact_mod_cast this
   have:=(Nat.pow_lt_pow_iff_right (by omega)).1 h'
   omega
 refine ⟨?_,a,g5⟩
 have hp:putL n=digs n (grp n-1)++[n/128 ^ (grp n-1)]:=by unfold putL;rw [if_neg (by omega)]
 rw [hp]
 generalize grp n=g at *
 have hg:g=1∨g=2∨g=3∨g=4∨g=5:=by omega
 have s1:∀ z r f i acc,z<128->¬ 2147483647<acc+z%128*128 ^ i->getF (f+1) i acc (z::r)=(acc+z%128*128 ^ i,(i:Int)+1):=by
  intro z r f i acc h h';rw [getF,if_pos h,if_neg h']
 have s2:∀ z r f i acc,¬ z<128->getF (f+1) i acc (z::r)=getF f (i+1) (acc+z%128*128 ^ i) r:=by
  intro z r f i acc h;rw [getF,if_neg h]
 rcases hg with rfl | rfl | rfl | rfl | rfl
 all_goals simp only [digs,List.range_succ,List.range_zero,List.map_cons,List.map_nil,List.nil_append,List.cons_append,getL,Nat.sub_self,Nat.reduceSub,Int.pow_zero,Int.ediv_one,Int.reducePow]
 ·rw [s1 _ _ _ _ _ (by omega) (by omega)];simp;omega
 ·rw [s2 _ _ _ _ _ (by omega),s1 _ _ _ _ _ (by omega) (by omega)];simp;omega
 ·rw [s2 _ _ _ _ _ (by omega),s2 _ _ _ _ _ (by omega),s1 _ _ _ _ _ (by omega) (by omega)];simp;omega
 ·rw [s2 _ _ _ _ _ (by omega),s2 _ _ _ _ _ (by omega),s2 _ _ _ _ _ (by omega),s1 _ _ _ _ _ (by omega) (by omega)];simp;omega
 ·rw [s2 _ _ _ _ _ (by omega),s2 _ _ _ _ _ (by omega),s2 _ _ _ _ _ (by omega),s2 _ _ _ _ _ (by omega),s1 _ _ _ _ _ (by omega) (by omega)];simp;omega
end Go.Proofs.YtlllmmceoeihkaaGreat.K
namespace Go.Proofs.YtlllmmceoeihkaaGreat.K
def AreKinds (cs:List Int):Prop:=∀ x∈cs,0<=x∧x<=16
def AreBytes (bs:List Int):Prop:=∀ x∈bs,0<=x∧x<=255
/-! ### palettes -/
def palTo (cs:List Int):Nat->List Int
 | 0=>[]
 | k+1=>if (k:Int)∈cs then palTo cs k++[(k:Int)] else palTo cs k
def pal (cs:List Int):List Int:=palTo cs 17
theorem mem_palTo (cs:List Int) (x:Int):∀ n,x∈palTo cs n↔x∈cs∧∃ k:Nat,k<n∧x=k
 | 0=>by simp [palTo]
 | n + 1=>by
   unfold palTo
   by_cases h:(n:Int)∈cs
   ·rw [if_pos h,List.mem_append,mem_palTo cs x n,List.mem_singleton]
    constructor
    ·rintro (⟨h1,k,h2,h3⟩|rfl)
     ·exact ⟨h1,k,by omega,h3⟩
     ·exact ⟨h,n,by omega,rfl⟩
    ·rintro ⟨h1,k,h2,rfl⟩
     by_cases e:k=n
     ·subst e;exact Or.inr rfl
     ·exact Or.inl ⟨h1,k,by omega,rfl⟩
   ·rw [if_neg h,mem_palTo cs x n]
    constructor
    ·rintro ⟨h1,k,h2,h3⟩
     exact ⟨h1,k,by omega,h3⟩
    ·rintro ⟨h1,k,h2,rfl⟩
     by_cases e:k=n
     ·subst e;exact absurd h1 h
     ·exact ⟨h1,k,by omega,rfl⟩
theorem palTo_len (cs:List Int):∀ n,(palTo cs n).length<=n
 | 0=>by simp [palTo]
 | n+1=>by
   have:=palTo_len cs n
   unfold palTo
   split
   ·rw [List.length_append,List.length_singleton];omega
   ·omega
theorem palTo_rise (cs:List Int):∀ n,(palTo cs n).Pairwise (· < ·)
 | 0=>by simp [palTo]
 | n+1=>by
   unfold palTo
   split
   ·rw [List.pairwise_append]
    refine ⟨palTo_rise cs n,List.pairwise_singleton _ _,fun a ha b hb=>?_⟩
    obtain ⟨_,k,hk,rfl⟩:=(mem_palTo cs a n).1 ha
    rw [List.mem_singleton.1 hb]
    omega
   ·exact palTo_rise cs n
theorem mem_pal {cs:List Int} (hk:AreKinds cs) {x:Int} (hx:x∈cs):x∈pal cs:=by
 have:=hk x hx
 refine (mem_palTo cs x 17).2 ⟨hx,x.toNat,by omega,by omega⟩
theorem pal_kinds (cs:List Int):AreKinds (pal cs):=fun x hx=>by
 obtain ⟨_,k,hk,rfl⟩:=(mem_palTo cs x 17).1 hx
 omega
def plc (l:List Int) (k:Int):Nat:=if k∈l then l.idxOf k else 0
theorem plc_lt {l:List Int} {k:Int} (h:k∈l):plc l k<l.length:=by
 unfold plc
 rw [if_pos h]
 exact List.idxOf_lt_length_of_mem h
theorem plc_at {l:List Int} {k:Int} (h:k∈l):l.getD (plc l k) 0=k:=by
 have h1:=plc_lt h
 rw [List.getD_eq_getElem?_getD,List.getElem?_eq_getElem h1,Option.getD_some]
 unfold plc
 simp only [if_pos h]
 exact List.getElem_idxOf (List.idxOf_lt_length_of_mem h)
def wid (n:Nat):Nat:=if n<=2 then 1 else if n<=4 then 2 else if n<=16 then 4 else 8
theorem wid_is (n:Nat):wid n=1∨wid n=2∨wid n=4∨wid n=8:=by
 unfold wid
 split
 ·exact Or.inl rfl
 ·split
  ·exact Or.inr (Or.inl rfl)
  ·split
   ·exact Or.inr (Or.inr (Or.inl rfl))
   ·exact Or.inr (Or.inr (Or.inr rfl))
theorem wid_fit {n:Nat} (h:n<=17):n<=2 ^ wid n:=by
 unfold wid
 split
 ·omega
 ·split
  ·omega
  ·split
   ·omega
   ·omega
/-! ### runs -/
def runN (c:Int):List Int->Nat
 | []=>0
 | x::r=>if x=c then runN c r+1 else 0
theorem runN_le (c:Int):∀ l:List Int,runN c l<=l.length
 | []=>Nat.le_refl _
 | x::r=>by
   have:=runN_le c r
   unfold runN
   rw [List.length_cons]
   split <;> omega
theorem runN_split (c:Int):∀ l:List Int,l=List.replicate (runN c l) c++l.drop (runN c l)
 | []=>rfl
 | x::r=>by
   unfold runN
   split
   ·rename_i h
    subst h
    rw [List.replicate_succ,List.cons_append,List.drop_succ_cons,<- runN_split x r]
   ·rfl
def encF (l:List Int):Nat->List Int->List Int
 | 0,_=>[]
 | _+1,[]=>[]
 | m+1,c::r=>putL ((runN c r+1:Nat):Int)++(plc l c:Int)::encF l m (r.drop (runN c r))
def encR (l cs:List Int):List Int:=encF l cs.length cs
theorem encF_more (l:List Int):∀ (m k:Nat) (cs:List Int),cs.length<=m->cs.length<=k->encF l m cs=encF l k cs
 | 0,0,_,_,_=>rfl
 | 0,_+1,[],_,_=>rfl
 | 0,_+1,_::_,h,_=>by simp at h
 | _+1,0,[],_,_=>rfl
 | _+1,0,_::_,_,h=>by simp at h
 | _+1,_+1,[],_,_=>rfl
 | m+1,k+1,c::r,h1,h2=>by
   rw [List.length_cons] at h1 h2
   rw [encF,encF,encF_more l m k (r.drop (runN c r)) (by rw [List.length_drop];omega) (by rw [List.length_drop];omega)]
theorem encR_nil (l:List Int):encR l []=[]:=rfl
theorem encR_cons (l:List Int) (c:Int) (r:List Int):encR l (c::r)=putL ((runN c r+1:Nat):Int)++(plc l c:Int)::encR l (r.drop (runN c r)):=by
 show encF l (r.length+1) (c::r)=_
 rw [encF,encF_more l r.length (r.drop (runN c r)).length (r.drop (runN c r)) (by rw [List.length_drop];omega) (Nat.le_refl _)]
 rfl
def runsF (l:List Int):Nat->Nat->List Int->Int×List Int
 | 0,_,bs=>if bs=[] then (0,[]) else (2,[])
 | m+1,need,bs =>
   if need=0 then (if bs=[] then (0,[]) else (2,[]))
   else if bs=[] then (3,[])
   else if _h:(getL bs).2=0∨(getL bs).1<1∨(need:Int)<(getL bs).1 then (4,[])
   else match bs.drop (getL bs).2.toNat with
    | []=>(3,[])
    | p::r=>if (l.length:Int)<=p then (4,[]) else
      if (runsF l m (need-(getL bs).1.toNat) r).1=0 then (0,List.replicate (getL bs).1.toNat (l.getD p.toNat 0)++(runsF l m (need-(getL bs).1.toNat) r).2)
      else ((runsF l m (need-(getL bs).1.toNat) r).1,[])
def runsD (l:List Int) (need:Nat) (bs:List Int):Int×List Int:=runsF l need need bs
theorem runsF_none (l:List Int) (m:Nat) (bs:List Int):runsF l m 0 bs=if bs=[] then (0,[]) else (2,[]):=by
 cases m with
 | zero=>rfl
 | succ m=>rw [runsF,if_pos rfl]
theorem runsF_more (l:List Int):∀ (m k need:Nat) (bs:List Int),need<=m->need<=k->runsF l m need bs=runsF l k need bs
 | 0,k,need,bs,h,_=>by
   obtain rfl:need=0:=by omega
   rw [runsF_none,runsF_none]
 | m+1,0,need,bs,_,h=>by
   obtain rfl:need=0:=by omega
   rw [runsF_none,runsF_none]
 | m + 1,k+1,need,bs,h1,h2=>by
   rw [runsF,runsF]
   by_cases h0:need=0
   ·rw [if_pos h0,if_pos h0]
   ·rw [if_neg h0,if_neg h0]
    by_cases hb:bs=[]
    ·rw [if_pos hb,if_pos hb]
    ·rw [if_neg hb,if_neg hb]
     by_cases hg:(getL bs).2=0∨(getL bs).1<1∨(need:Int)<(getL bs).1
     ·rw [dif_pos hg,dif_pos hg]
     ·rw [dif_neg hg,dif_neg hg]
      rcases bs.drop (getL bs).2.toNat with _ | ⟨p,r⟩
      ·rfl
      ·simp only
       rw [runsF_more l m k (need-(getL bs).1.toNat) r (by omega) (by omega)]
theorem runsD_eq (l:List Int) (need:Nat) (bs:List Int):runsD l need bs =
  (if need=0 then (if bs=[] then (0,[]) else (2,[]))
  else if bs=[] then (3,[])
  else if _h:(getL bs).2=0∨(getL bs).1<1∨(need:Int)<(getL bs).1 then (4,[])
  else match bs.drop (getL bs).2.toNat with
   | []=>(3,[])
   | p::r=>if (l.length:Int)<=p then (4,[]) else
     if (runsD l (need-(getL bs).1.toNat) r).1=0 then (0,List.replicate (getL bs).1.toNat (l.getD p.toNat 0)++(runsD l (need-(getL bs).1.toNat) r).2)
     else ((runsD l (need-(getL bs).1.toNat) r).1,[])):=by
 by_cases h0:need=0
 ·subst h0
  rw [if_pos rfl]
  rfl
 ·have e:runsD l need bs=runsF l (need-1+1) need bs:=by rw [show need-1+1=need by omega];rfl
  rw [e,runsF,if_neg h0,if_neg h0]
  by_cases hb:bs=[]
  ·rw [if_pos hb,if_pos hb]
  ·rw [if_neg hb,if_neg hb]
   by_cases hg:(getL bs).2=0∨(getL bs).1<1∨(need:Int)<(getL bs).1
   ·rw [dif_pos hg,dif_pos hg]
   ·rw [dif_neg hg,dif_neg hg]
    rcases bs.drop (getL bs).2.toNat with _ | ⟨p,r⟩
    ·rfl
    ·simp only
     rw [runsF_more l (need-1) (need-(getL bs).1.toNat) (need-(getL bs).1.toNat) r (by omega) (Nat.le_refl _)]
     rfl
theorem runsD_done (l:List Int) (bs:List Int):runsD l 0 bs=if bs=[] then (0,[]) else (2,[]):=by rw [runsD_eq,if_pos rfl]
theorem runsD_step (l:List Int) (need:Nat) (n:Nat) (p:Int) (r:List Int) (h0:1<=n) (h1:n<=need) (h2:n<=2147483647) (hp:p<l.length) :
  runsD l need (putL (n:Int)++p::r)=if (runsD l (need-n) r).1=0 then (0,List.replicate n (l.getD p.toNat 0)++(runsD l (need-n) r).2) else ((runsD l (need-n) r).1,[]):=by
 obtain ⟨hg,g1,g5⟩:=getL_putL (n:Int) (by omega) (by omega) (p::r)
 have hlen:(putL (n:Int)).length=grp n:=putL_len n (by omega) (by omega)
 have hne:putL (n:Int)++p::r≠[]:=by simp
 have hd:(putL (n:Int)++p::r).drop ((grp (n:Int):Nat):Int).toNat=p::r:=by rw [Int.toNat_natCast,<- hlen,List.drop_left]
 rw [runsD_eq,if_neg (by omega),if_neg hne,hg]
 simp only
 rw [dif_neg (by omega),hd]
 simp only
 rw [if_neg (by omega),Int.toNat_natCast]
theorem runs_back (l:List Int):∀ (m:Nat) (cs:List Int),cs.length<=m->cs.length<=2147483647->(∀ x∈cs,x∈l)->runsD l cs.length (encR l cs)=(0,cs)
 | 0,cs,h,_,_=>by
   obtain rfl:=List.eq_nil_of_length_eq_zero (by omega:cs.length=0)
   rw [encR_nil,List.length_nil,runsD_done,if_pos rfl]
 | m+1,[],_,_,_=>by rw [encR_nil,List.length_nil,runsD_done,if_pos rfl]
 | m+1,c::r,h,h31,hl=>by
   have hc:=hl c (List.mem_cons_self ..)
   have hlt:=plc_lt hc
   have hat:=plc_at hc
   have hle:=runN_le c r
   rw [List.length_cons] at h h31
   have hdl:(r.drop (runN c r)).length=r.length-runN c r:=List.length_drop ..
   have ih:=runs_back l m (r.drop (runN c r)) (by omega) (by omega) (fun x hx=>hl x (List.mem_cons_of_mem _ (List.mem_of_mem_drop hx)))
   rw [encR_cons,runsD_step l _ (runN c r+1) _ _ (by omega) (by rw [List.length_cons];omega) (by omega) (by omega)]
   rw [List.length_cons,show r.length+1-(runN c r+1)=(r.drop (runN c r)).length by omega,ih,if_pos rfl,Int.toNat_natCast,hat]
   rw [List.replicate_succ,List.cons_append,<- runN_split c r]
end Go.Proofs.YtlllmmceoeihkaaGreat.K
namespace Go.Proofs.YtlllmmceoeihkaaGreat.K
/-! ### packed numbers -/
def digsW (w:Nat):Nat->Int->List Int
 | 0,_=>[]
 | k+1,v=>v%2 ^ w::digsW w k (v/2 ^ w)
def undig (w:Nat):List Int->Int
 | []=>0
 | p::r=>p+2 ^ w*undig w r
theorem digs_back (w:Nat):∀ ps:List Int,(∀ p∈ps,0<=p∧p<2 ^ w)->digsW w ps.length (undig w ps)=ps
 | [],_=>rfl
 | p::r,h=>by
   have hp:=h p (List.mem_cons_self ..)
   have ih:=digs_back w r (fun q hq=>h q (List.mem_cons_of_mem _ hq))
   have hpos:(0:Int)<2 ^ w:=Int.pow_pos (by omega)
   unfold undig
   rw [List.length_cons,digsW]
   rw [Int.add_mul_emod_self_left,Int.emod_eq_of_lt hp.1 hp.2,Int.add_mul_ediv_left _ _ (by omega),Int.ediv_eq_zero_of_lt hp.1 hp.2,Int.zero_add,ih]
theorem digsW_len (w:Nat):∀ (k:Nat) (v:Int),(digsW w k v).length=k
 | 0,_=>rfl
 | k+1,v=>by rw [digsW,List.length_cons,digsW_len w k]
theorem undig_fit (w:Nat):∀ ps:List Int,(∀ p∈ps,0<=p∧p<2 ^ w)->0<=undig w ps∧undig w ps<2 ^ (w*ps.length)
 | [],_=>by simp [undig]
 | p::r,h=>by
   have hp:=h p (List.mem_cons_self ..)
   have ih:=undig_fit w r (fun q hq=>h q (List.mem_cons_of_mem _ hq))
   have hpos:(0:Int)<2 ^ w:=Int.pow_pos (by omega)
   unfold undig
   rw [List.length_cons,Nat.mul_add,Nat.mul_one,Nat.add_comm,Int.pow_add]
   generalize (2:Int) ^ w=A at *
   generalize (2:Int) ^ (w*r.length)=C at *
   generalize undig w r=u at *
   have h1:0<=A*u:=Int.mul_nonneg (by omega) (by omega)
   have h2:A*(u+1)<=A*C:=Int.mul_le_mul_of_nonneg_left (by omega) (by omega)
   rw [Int.mul_add,Int.mul_one] at h2
   omega
def grpP (l cs:List Int) (m i:Nat):List Int:=((cs.drop (i*m)).take m).map fun c=>(plc l c:Int)
def packTo (l cs:List Int) (w m:Nat):Nat->List Int
 | 0=>[]
 | n+1=>packTo l cs w m n++[undig w (grpP l cs m n)]
theorem packTo_len (l cs:List Int) (w m:Nat):∀ n,(packTo l cs w m n).length=n
 | 0=>rfl
 | n+1=>by rw [packTo,List.length_append,packTo_len l cs w m n];rfl
def spread (w m:Nat) (bs:List Int):List Int:=bs.flatMap fun v=>digsW w m v
theorem spread_app (w m:Nat) (a b:List Int):spread w m (a++b)=spread w m a++spread w m b:=by unfold spread;rw [List.flatMap_append]
theorem spread_len (w m:Nat):∀ bs:List Int,(spread w m bs).length=bs.length*m
 | []=>by simp [spread]
 | v::r=>by
   have ih:=spread_len w m r
   unfold spread at *
   rw [List.flatMap_cons,List.length_append,digsW_len,ih,List.length_cons,Nat.add_mul]
   omega
theorem take_more (cs:List Int) (a m:Nat):cs.take (a+m)=cs.take a++(cs.drop a).take m:=by rw [List.take_add]
theorem spread_pack (l cs:List Int) (w m:Nat) (hl:∀ x∈cs,x∈l) (hw:l.length<=2 ^ w):∀ n,n*m<=cs.length->spread w m (packTo l cs w m n)=(cs.take (n*m)).map fun c=>(plc l c:Int)
 | 0,_=>by simp [packTo,spread]
 | n+1,h=>by
   have hm:n*m+m<=cs.length:=by rw [Nat.add_mul,Nat.one_mul] at h;exact h
   have ih:=spread_pack l cs w m hl hw n (by omega)
   have hlen:(grpP l cs m n).length=m:=by
    unfold grpP
    rw [List.length_map,List.length_take,List.length_drop]
    omega
   have hfit:∀ p∈grpP l cs m n,0<=p∧p<2 ^ w:=by
    intro p hp
    unfold grpP at hp
    obtain ⟨c,hc,rfl⟩:=List.mem_map.1 hp
    have h1:=plc_lt (hl c (List.mem_of_mem_drop (List.mem_of_mem_take hc)))
    have h2:plc l c<2 ^ w:=by omega
    exact ⟨by omega,by exact_mod_cast h2⟩
   have hb:=digs_back w _ hfit
   rw [hlen] at hb
   rw [packTo,spread_app,ih,Nat.add_mul,Nat.one_mul,take_more,List.map_append]
   congr 1
   unfold spread
   rw [List.flatMap_cons,List.flatMap_nil,List.append_nil,hb]
   rfl
def packD (l:List Int) (w:Nat) (bs:List Int):Int×List Int :=
 if bs.length<4096*w then (3,[])
 else if (spread w (8/w) (bs.take (4096*w))).all (fun p=>decide (p<l.length))=false then (4,[])
 else if 4096*w<bs.length then (2,[])
 else (0,(spread w (8/w) (bs.take (4096*w))).map fun p=>l.getD p.toNat 0)
theorem groups_all (n:Nat):4096*wid n*(8/wid n)=32768:=by
 rcases wid_is n with h | h | h | h <;> rw [h]
theorem pack_back (l cs:List Int) (hc:cs.length=32768) (hl:∀ x∈cs,x∈l) (h17:l.length<=17):packD l (wid l.length) (packTo l cs (wid l.length) (8/wid l.length) (4096*wid l.length))=(0,cs):=by
 have hg:=groups_all l.length
 have hw:=wid_fit h17
 generalize wid l.length=w at *
 have hs:=spread_pack l cs w (8/w) hl hw (4096*w) (by omega)
 rw [hg,List.take_of_length_le (by omega)] at hs
 have hlen:=packTo_len l cs w (8/w) (4096*w)
 unfold packD
 rw [if_neg (by omega),List.take_of_length_le (by omega),hs,if_neg,if_neg (by omega),List.map_map]
 ·congr 1
  conv=>rhs;rw [<- List.map_id cs]
  refine List.map_congr_left fun c hcm=>?_
  show l.getD (plc l c:Int).toNat 0=c
  rw [Int.toNat_natCast]
  exact plc_at (hl c hcm)
 ·rw [Bool.not_eq_false,List.all_eq_true]
  intro p hp
  obtain ⟨c,hcm,rfl⟩:=List.mem_map.1 hp
  have:=plc_lt (hl c hcm)
  exact decide_eq_true (by omega)
end Go.Proofs.YtlllmmceoeihkaaGreat.K
namespace Go.Proofs.YtlllmmceoeihkaaGreat.K
theorem getD_mem {l:List Int} {i:Nat} (h:i<l.length):l.getD i 0∈l:=by
 rw [List.getD_eq_getElem?_getD,List.getElem?_eq_getElem h,Option.getD_some]
 exact List.getElem_mem h
/-! ### the whole -/
def headL (f:Int) (l:List Int):List Int:=f::(l.length:Int)::l
def oneL (cs:List Int):List Int:=headL 1 (pal cs)++encR (pal cs) cs
def twoL (cs:List Int):List Int:=headL 2 (pal cs)++packTo (pal cs) cs (wid (pal cs).length) (8/wid (pal cs).length) (4096*wid (pal cs).length)
def encL (cs:List Int):List Int:=if (oneL cs).length<=(headL 1 (pal cs)).length+4096*wid (pal cs).length then oneL cs else twoL cs
def okPal (l:List Int):Bool:=(List.range l.length).all fun i=>decide (l.getD i 0<=16) && (i == 0 || decide (l.getD (i-1) 0<l.getD i 0))
def decL (bs:List Int):Int×List Int :=
 if bs.length<2 then (3,[])
 else if (bs.getD 0 0≠1∧bs.getD 0 0≠2)∨bs.getD 1 0<1∨17<bs.getD 1 0 then (4,[])
 else if (bs.length:Int)<2+bs.getD 1 0 then (3,[])
 else if okPal ((bs.drop 2).take (bs.getD 1 0).toNat)=false then (4,[])
 else if bs.getD 0 0=1 then runsD ((bs.drop 2).take (bs.getD 1 0).toNat) 32768 (bs.drop (2+(bs.getD 1 0).toNat))
 else packD ((bs.drop 2).take (bs.getD 1 0).toNat) (wid (bs.getD 1 0).toNat) (bs.drop (2+(bs.getD 1 0).toNat))
theorem okPal_pal (cs:List Int):okPal (pal cs)=true:=by
 unfold okPal
 rw [List.all_eq_true]
 intro i hi
 have hi':i<(pal cs).length:=List.mem_range.1 hi
 have hk:=pal_kinds cs _ (getD_mem hi')
 rw [decide_eq_true hk.2,Bool.true_and]
 rcases i with _ | i
 ·rfl
 ·have hr:=(List.pairwise_iff_getElem.1 (palTo_rise cs 17)) i (i+1) (by change i<(pal cs).length;omega) hi' (by omega)
  rw [Nat.add_sub_cancel,List.getD_eq_getElem?_getD,List.getD_eq_getElem?_getD,List.getElem?_eq_getElem (show i<(pal cs).length by omega),List.getElem?_eq_getElem hi',Option.getD_some,Option.getD_some]
  rw [decide_eq_true (show (pal cs)[i]<(pal cs)[i+1] from hr),Bool.or_true]
theorem pal_pos {cs:List Int} (hk:AreKinds cs) (hc:0<cs.length):1<=(pal cs).length:=by
 obtain ⟨c,hcm⟩:=List.exists_mem_of_length_pos hc
 exact List.length_pos_of_mem (mem_pal hk hcm)
theorem pal_len (cs:List Int):(pal cs).length<=17:=palTo_len cs 17
theorem dec_head (f:Int) (l rest:List Int) (h1:1<=l.length) (h17:l.length<=17) (hf:f=1∨f=2) (hp:okPal l=true) :
  decL (headL f l++rest)=if f=1 then runsD l 32768 rest else packD l (wid l.length) rest:=by
 have e0:(headL f l++rest).getD 0 0=f:=rfl
 have e1:(headL f l++rest).getD 1 0=(l.length:Int):=rfl
 have e2:(headL f l++rest).length=2+l.length+rest.length:=by
  unfold headL
  rw [List.length_append,List.length_cons,List.length_cons]
  omega
 have e3:((headL f l++rest).drop 2).take l.length=l:=by
  show (l++rest).take l.length=l
  rw [List.take_left]
 have e4:(headL f l++rest).drop (2+l.length)=rest:=by
  show (f::(l.length:Int)::(l++rest)).drop (2+l.length)=rest
  rw [Nat.add_comm,List.drop_succ_cons,List.drop_succ_cons,List.drop_left]
 unfold decL
 rw [e0,e1,e2,Int.toNat_natCast,e3,e4,hp,if_neg (by omega),if_neg (by omega),if_neg (by omega),if_neg (by simp)]
theorem dec_enc {cs:List Int} (hk:AreKinds cs) (hc:cs.length=32768):decL (encL cs)=(0,cs):=by
 have hl:∀ x∈cs,x∈pal cs:=fun x hx=>mem_pal hk hx
 have h1:=pal_pos hk (by omega)
 have h17:=pal_len cs
 unfold encL
 split
 ·unfold oneL
  rw [dec_head 1 _ _ h1 h17 (Or.inl rfl) (okPal_pal cs),if_pos rfl,<- hc]
  exact runs_back (pal cs) cs.length cs (Nat.le_refl _) (by omega) hl
 ·unfold twoL
  rw [dec_head 2 _ _ h1 h17 (Or.inr rfl) (okPal_pal cs),if_neg (by omega)]
  exact pack_back (pal cs) cs hc hl h17
theorem enc_len (cs:List Int):(encL cs).length<=32788:=by
 have h17:=pal_len cs
 have hh:∀ f,(headL f (pal cs)).length=(pal cs).length+2:=fun f=>rfl
 have hb:(pal cs).length+2+4096*wid (pal cs).length<=32788:=by
  unfold wid
  split
  ·omega
  ·split
   ·omega
   ·split <;> omega
 unfold encL
 split
 ·rename_i h
  rw [hh] at h
  omega
 ·unfold twoL
  rw [List.length_append,hh,packTo_len]
  exact hb
theorem okPal_kinds {l:List Int} (hb:AreBytes l) (h:okPal l=true):AreKinds l:=by
 intro x hx
 obtain ⟨i,hi,rfl⟩:=List.getElem_of_mem hx
 unfold okPal at h
 rw [List.all_eq_true] at h
 have h1:=h i (List.mem_range.2 hi)
 rw [Bool.and_eq_true,decide_eq_true_eq,List.getD_eq_getElem?_getD,List.getElem?_eq_getElem hi] at h1
 exact ⟨(hb _ hx).1,h1.1⟩
end Go.Proofs.YtlllmmceoeihkaaGreat.K
