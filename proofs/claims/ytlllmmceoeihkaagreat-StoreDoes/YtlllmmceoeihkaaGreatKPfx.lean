/-
  The document's place, width and palette.
  Parts of slices, bounds of numbers that are read, and runs one behind the other.
  Places one behind the other.
  The document's counts and palette of bytes at a row's head.
-/
import Derived.Test.YtlllmmceoeihkaaGreatKAll
import Derived.Test.YtlllmmceoeihkaaGreatKOwns
import Derived.Test.YtlllmmceoeihkaaGreatKMores
import Derived.Deep.DeepCutAuto
namespace Go.Proofs.YtlllmmceoeihkaaGreat.K
open Go.RowKit
theorem plc_first {l:List Int} {k:Int} {i:Nat} (hi:i<l.length) (h:l[i]=k) (hn:∀ j (hj:j<l.length),j<i->l[j]≠k):plc l k=i:=by
 have hm:k∈l:=h▸List.getElem_mem hi
 have h1:=plc_lt hm
 have h2:=plc_at hm
 rw [List.getD_eq_getElem?_getD,List.getElem?_eq_getElem h1,Option.getD_some] at h2
 rcases Nat.lt_trichotomy (plc l k) i with h3 | h3 | h3
 ·exact absurd h2 (hn _ h1 h3)
 ·exact h3
 ·exfalso
  unfold plc at h3
  rw [if_pos hm] at h3
  have h4:=List.not_of_lt_findIdx (xs:=l) (p:=(· == k)) (show i<l.findIdx (· == k) from h3)
  simp [h] at h4
theorem plc_none {l:List Int} {k:Int} (hn:∀ j (hj:j<l.length),l[j]≠k):plc l k=0:=by
 unfold plc
 rw [if_neg]
 intro hm
 obtain ⟨j,hj,e⟩:=List.getElem_of_mem hm
 exact hn j hj e
theorem rplace_c (a:Option Addr) (n cap:Nat) (l:List Int) (k:Int) (w:World) (hB:Bytes w a n l) (hn:n<=140737488355328) :
  Calls Tryz.prog 64 #[.slice a n cap,.int .u8 k] w fun e w'=>e = .returned (.int .i64 (plc l k:Int))∧w'=w:=by
 have H:Hid (Bytes w a n l):=hB
 clear hB
 obtain ⟨R,hR⟩:∃ R,R=plc l k:=⟨_,rfl⟩
 rw [<- hR]
 have HR:Hid (R=plc l k):=hR
 clear hR
 go_enter Tryz.func64,Tryz.ntmps64
 go_wp2
 go_loop [5] (fun i=>∃ j:Nat,j<=n∧i = .int .i64 j∧Hid (∀ m (hm:m<l.length),m<j->l[m]≠k)) (fun i=>n-(intOf i).toNat)
 case atStart=>exact ⟨0,Nat.zero_le _,rfl,fun m _ h=>absurd h (Nat.not_lt_zero _)⟩
 case round =>
  obtain ⟨j,hj,rfl,HN⟩:=hrel
  by_cases hlt:j<n
  ·obtain ⟨b,off,z,rfl,hcell,z0,z1,hj',hz⟩:=H.out.get j hlt
   have hlt':(j:Int)<n:=by omega
   by_cases e:z=k
   ·have eR:R=j:=by rw [HR.out];exact plc_first hj' (hz▸e) HN.out
    subst eR
    subst e
    clear hz HR HN H
    go_wp2
    go_ret
    exact ⟨rfl,rfl⟩
   ·have HN':Hid (∀ m (hm:m<l.length),m<j+1->l[m]≠k):=fun m hm h=>by
     by_cases e2:m=j
     ·subst e2;rw [<- hz];exact e
     ·exact HN.out m hm (by omega)
    have e':(z == k)=false:=by simp [e]
    clear hz HN e
    go_wp2
    go_round
    case rel=>exact ⟨j+1,by omega,by go_num,HN'⟩
    case measure=>simp [intOf];omega
  ·have eR:R=0:=by rw [HR.out];exact plc_none (fun m hm=>HN.out m hm (by have:=H.out.n;omega))
   subst eR
   have hlt':¬ (j:Int)<n:=by omega
   clear HR HN H
   go_wp2
   go_ret
   exact ⟨rfl,rfl⟩
theorem rwidth_c (n:Nat) (hn:n<=17) (w:World):Calls Tryz.prog 65 #[.int .i64 (n:Int)] w fun e w'=>e = .returned (.int .i64 (wid n:Int))∧w'=w:=by
 obtain ⟨R,hR⟩:∃ R,R=wid n:=⟨_,rfl⟩
 rw [<- hR]
 have HR:Hid (R=wid n):=hR
 clear hR
 go_enter Tryz.func65,Tryz.ntmps65
 go_wp2
 go_loop [3] (fun v=>(v = .int .i64 1∨(v = .int .i64 2∧2<n)∨(v = .int .i64 4∧4<n)∨(v = .int .i64 8∧16<n))) (fun v=>8-(intOf v).toNat)
 case atStart=>exact Or.inl rfl
 case round =>
  rcases hrel with rfl | ⟨rfl,h⟩|⟨rfl,h⟩|⟨rfl,h⟩
  ·by_cases h2:2<n
   ·have h2':(2:Int)<n:=by omega
    clear HR
    go_wp2
    go_round
    case rel=>exact Or.inr (Or.inl ⟨rfl,h2⟩)
    case measure=>simp [intOf]
   ·have h2':¬ (2:Int)<n:=by omega
    have e:R=1:=by rw [HR.out];unfold wid;rw [if_pos (by omega)]
    subst e
    clear HR
    go_wp2
    go_ret
    exact ⟨rfl,rfl⟩
  ·by_cases h2:4<n
   ·have h2':(4:Int)<n:=by omega
    clear HR
    go_wp2
    go_round
    case rel=>exact Or.inr (Or.inr (Or.inl ⟨rfl,h2⟩))
    case measure=>simp [intOf]
   ·have h2':¬ (4:Int)<n:=by omega
    have e:R=2:=by rw [HR.out];unfold wid;rw [if_neg (by omega),if_pos (by omega)]
    subst e
    clear HR
    go_wp2
    go_ret
    exact ⟨rfl,rfl⟩
  ·by_cases h2:16<n
   ·have h2':(16:Int)<n:=by omega
    clear HR
    go_wp2
    go_round
    case rel=>exact Or.inr (Or.inr (Or.inr ⟨rfl,h2⟩))
    case measure=>simp [intOf]
   ·have h2':¬ (16:Int)<n:=by omega
    have e:R=4:=by rw [HR.out];unfold wid;rw [if_neg (by omega),if_neg (by omega),if_pos (by omega)]
    subst e
    clear HR
    go_wp2
    go_ret
    exact ⟨rfl,rfl⟩
  ·have e:R=8:=by rw [HR.out];unfold wid;rw [if_neg (by omega),if_neg (by omega),if_neg (by omega)]
   subst e
   clear HR
   go_wp2
   go_ret
   exact ⟨rfl,rfl⟩
theorem cnt_pos (cs:List Int) (j:Int):∀ n,n<=cs.length->(0<cnt cs j n↔j∈cs.take n)
 | 0,_=>by simp [cnt]
 | n + 1,h=>by
   have ih:=cnt_pos cs j n (by omega)
   have h0:0<=cnt cs j n:=by
    clear ih
    induction n with
    | zero=>simp [cnt]
    | succ n ih'=>have:=ih' (by omega);unfold cnt;split <;> omega
   unfold cnt
   rw [List.take_succ_eq_append_getElem (by omega),List.mem_append,<- ih,List.mem_singleton,List.getD_eq_getElem?_getD,List.getElem?_eq_getElem (by omega),Option.getD_some]
   split
   ·rename_i e
    constructor
    ·intro _;exact Or.inr e.symm
    ·intro _;omega
   ·rename_i e
    rw [Int.add_zero]
    constructor
    ·intro h1;exact Or.inl h1
    ·rintro (h1 | h1)
     ·exact h1
     ·exact absurd h1.symm e
theorem cntTo_pos {cs:List Int} (hk:Kinds cs) (hl:cs.length=32768) (j:Nat) (hj:j<17):0<(cntTo cs 32768).getD j 0↔(j:Int)∈cs:=by
 rw [cntTo_cnt cs hk j hj,cnt_pos cs j 32768 (by omega),List.take_of_length_le (by omega)]
theorem palTo_fit (cs:List Int) (n:Nat) (h:n<=17):∀ z∈palTo cs n,0<=z∧z<=255:=fun z hz=>by
 obtain ⟨_,k,hk,rfl⟩:=(mem_palTo cs z n).1 hz
 omega
end Go.Proofs.YtlllmmceoeihkaaGreat.K
namespace Go.Proofs.YtlllmmceoeihkaaGreat.K
open Go.RowKit
/-! ### numbers that are read -/
theorem getF_in:∀ (f i:Nat) (acc:Int) (xs:List Int),0<=acc->(∀ z∈xs,0<=z∧z<=255)->0<=(getF f i acc xs).1∧(getF f i acc xs).1<=2147483647∧0<=(getF f i acc xs).2∧(getF f i acc xs).2<=i+f∧(getF f i acc xs).2<=i+xs.length
 | 0,_,_,_,_,_=>by simp [getF];omega
 | _+1,i,_,[],_,_=>by simp [getF];omega
 | f+1,i,acc,z::r,ha,hb=>by
   have hz:=hb z (List.mem_cons_self ..)
   have hp:(0:Int)<=z%128*128 ^ i:=Int.mul_nonneg (by omega) (Int.le_of_lt (Int.pow_pos (by omega)))
   unfold getF
   split
   ·split
    ·simp only [List.length_cons];omega
    ·simp only [List.length_cons];omega
   ·have ih:=getF_in f (i+1) (acc+z%128*128 ^ i) r (by omega) (fun y hy=>hb y (List.mem_cons_of_mem _ hy))
    simp only [List.length_cons]
    omega
theorem getL_in {xs:List Int} (hb:∀ z∈xs,0<=z∧z<=255):0<=(getL xs).1∧(getL xs).1<=2147483647∧0<=(getL xs).2∧(getL xs).2<=5∧(getL xs).2<=xs.length:=by
 have:=getF_in 5 0 0 xs (by omega) hb
 unfold getL
 omega
/-! ### parts of slices -/
theorem Bytes.drop {w:World} {b off n:Nat} {xs:List Int} (h:Bytes w (some ⟨b,off,none⟩) n xs) (m:Nat) (hm:m<=n):Bytes w (some ⟨b,off+m,none⟩) (n-m) (xs.drop m):=by
 have hn:=h.n
 refine ⟨by rw [List.length_drop,hn],?_,fun z hz=>h.fit z (List.mem_of_mem_drop hz)⟩
 by_cases he:xs.drop m=[]
 ·exact Or.inl he
 ·refine Or.inr ⟨b,off+m,rfl,fun k hk=>?_⟩
  rw [List.length_drop] at hk
  rcases h.cells with e | ⟨b',o',e,hc⟩
  ·subst e;simp at he
  ·cases e
   rw [Nat.add_assoc,hc (m+k) (by omega),List.getElem_drop]
theorem slice_from (b off n c m:Nat) (hm:m<=n):∃ o':Nat,(∀ w,(Instr.sliceAt 61 (.slice (some ⟨b,off,none⟩) n c) (some (.int .i64 (m:Int))) none none).run Tryz.prog w = .ok (.slice (some ⟨b,o',none⟩) (n-m) (c-m)) w) ∧
  (m=c∨o'=off+m):=by
 refine ⟨if c=m then off else off+m,fun w=>?_,?_⟩
 ·rw [run_sliceAt_slice w 61 _ _ _ _ (by kernel_rfl),run_slice_l w 61 (some ⟨b,off,none⟩) n c (by kernel_rfl) .i64 m (by omega) (by omega),show Tryz.prog.elem 61=5 by kernel_rfl,sizeOf5,Result.andThen_ok,Int.toNat_natCast]
  unfold sliced
  split
  ·rfl
  ·rw [Nat.mul_one];show Result.ok (Value.slice (some ((⟨b,off,none⟩:Addr).add m)) _ _) w=_;rw [Addr.add_mid]
 ·by_cases h:c=m
  ·exact Or.inl h.symm
  ·exact Or.inr (if_neg h)
theorem Bytes.from {w:World} {b off n c m o':Nat} {xs:List Int} (h:Bytes w (some ⟨b,off,none⟩) n xs) (hm:m<=n) (hc:n<=c) (ha:m=c∨o'=off+m):Bytes w (some ⟨b,o',none⟩) (n-m) (xs.drop m):=by
 have hd:=h.drop m hm
 rcases ha with e | rfl
 ·have hn:=h.n
  have h0:xs.drop m=[]:=List.drop_eq_nil_of_le (by omega)
  exact ⟨hd.n,Or.inl h0,hd.fit⟩
 ·exact hd
/-! ### runs one behind the other -/
def comb (out:List Int) (d:Int×List Int):Int×List Int:=if d.1=0 then (0,out++d.2) else (d.1,[])
theorem comb_nil (l:List Int) (need:Nat) (bs:List Int):comb [] (runsD l need bs)=runsD l need bs:=by
 unfold comb
 rw [List.nil_append]
 split
 ·rename_i h;rw [<- h]
 ·rename_i h
  have h2:(runsD l need bs).2=[]:=by
   revert h
   rw [runsD_eq]
   split
   ·split
    ·intro h;exact absurd rfl h
    ·intro _;rfl
   ·split
    ·intro _;rfl
    ·split
     ·intro _;rfl
     ·split
      ·intro _;rfl
      ·split
       ·intro _;rfl
       ·split
        ·intro h;exact absurd rfl h
        ·intro _;rfl
  rw [<- h2]
theorem comb_comb (a b:List Int) (d:Int×List Int):comb a (comb b d)=comb (a++b) d:=by
 unfold comb
 by_cases h:d.1=0
 ·rw [if_pos h,if_pos rfl,if_pos h,List.append_assoc]
 ·rw [if_neg h,if_neg h,if_neg h]
theorem runsD_short (l:List Int) (need:Nat) (h:need≠0):runsD l need []=(3,[]):=by rw [runsD_eq,if_neg h,if_pos rfl]
theorem runsD_form (l:List Int) (need:Nat) (bs:List Int) (h:need≠0) (hb:bs≠[]) (hg:(getL bs).2=0∨(getL bs).1<1∨(need:Int)<(getL bs).1):runsD l need bs=(4,[]):=by
 rw [runsD_eq,if_neg h,if_neg hb,dif_pos hg]
theorem runsD_cut (l:List Int) (need:Nat) (bs:List Int) (h:need≠0) (hb:bs≠[]) (hg:¬ ((getL bs).2=0∨(getL bs).1<1∨(need:Int)<(getL bs).1)) (hd:bs.drop (getL bs).2.toNat=[]):runsD l need bs=(3,[]):=by
 rw [runsD_eq,if_neg h,if_neg hb,dif_neg hg,hd]
theorem runsD_far (l:List Int) (need:Nat) (bs:List Int) (h:need≠0) (hb:bs≠[]) (hg:¬ ((getL bs).2=0∨(getL bs).1<1∨(need:Int)<(getL bs).1)) {p:Int} {r:List Int} (hd:bs.drop (getL bs).2.toNat=p::r) (hp:(l.length:Int)<=p):runsD l need bs=(4,[]):=by
 rw [runsD_eq,if_neg h,if_neg hb,dif_neg hg,hd]
 simp only
 rw [if_pos hp]
theorem runsD_go (l:List Int) (need:Nat) (bs:List Int) (h:need≠0) (hb:bs≠[]) (hg:¬ ((getL bs).2=0∨(getL bs).1<1∨(need:Int)<(getL bs).1)) {p:Int} {r:List Int} (hd:bs.drop (getL bs).2.toNat=p::r) (hp:¬ (l.length:Int)<=p) :
  runsD l need bs=comb (List.replicate (getL bs).1.toNat (l.getD p.toNat 0)) (runsD l (need-(getL bs).1.toNat) r):=by
 rw [runsD_eq,if_neg h,if_neg hb,dif_neg hg,hd]
 simp only
 rw [if_neg hp]
 rfl
end Go.Proofs.YtlllmmceoeihkaaGreat.K
namespace Go.Proofs.YtlllmmceoeihkaaGreat.K
open Go.RowKit
theorem spread_cons (w m:Nat) (v:Int) (r:List Int):spread w m (v::r)=digsW w m v++spread w m r:=by unfold spread;rw [List.flatMap_cons]
theorem spread_at (w m:Nat):∀ (bs:List Int) (i:Nat) (h:i<bs.length),(spread w m bs).drop (i*m)=digsW w m bs[i]++spread w m (bs.drop (i+1))
 | v::r,0,_=>by simp [spread_cons]
 | v::r,i+1,h=>by
   rw [spread_cons,Nat.add_mul,Nat.one_mul,Nat.add_comm,<- List.drop_drop,List.drop_append_of_le_length (by rw [digsW_len];exact Nat.le_refl _)]
   rw [show (digsW w m v).drop m=[] from List.drop_eq_nil_of_le (by rw [digsW_len];exact Nat.le_refl _),List.nil_append,spread_at w m r i (by simpa using h)]
   rfl
theorem spread_byte (w m:Nat) (bs:List Int) (i:Nat) (h:i<bs.length):digsW w m bs[i]=((spread w m bs).drop (i*m)).take m:=by
 rw [spread_at w m bs i h,List.take_append_of_le_length (by rw [digsW_len];exact Nat.le_refl _),List.take_of_length_le (by rw [digsW_len];exact Nat.le_refl _)]
theorem packD_bad {l:List Int} {w:Nat} {bs:List Int} (h:4096*w<=bs.length) {p:Int} (hp:p∈spread w (8/w) (bs.take (4096*w))) (hb:(l.length:Int)<=p):packD l w bs=(4,[]):=by
 unfold packD
 rw [if_neg (by omega),if_pos]
 rw [List.all_eq_false]
 exact ⟨p,hp,by simp;omega⟩
theorem packD_end {l:List Int} {w:Nat} {bs:List Int} (h:4096*w<=bs.length) (ha:∀ p∈spread w (8/w) (bs.take (4096*w)),p<l.length) :
  packD l w bs=if 4096*w<bs.length then (2,[]) else (0,(spread w (8/w) (bs.take (4096*w))).map fun p=>l.getD p.toNat 0):=by
 unfold packD
 rw [if_neg (by omega),if_neg]
 rw [Bool.not_eq_false,List.all_eq_true]
 intro p hp
 exact decide_eq_true (ha p hp)
theorem packD_short {l:List Int} {w:Nat} {bs:List Int} (h:bs.length<4096*w):packD l w bs=(3,[]):=by
 unfold packD
 rw [if_pos h]
end Go.Proofs.YtlllmmceoeihkaaGreat.K
set_option maxRecDepth 20000
namespace Go.Proofs.YtlllmmceoeihkaaGreat.K
open Go.RowKit
def Pfx (w:World) (g:Nat) (cs:List Int):Prop:=∃ cur,w.heap[g]?=some (.cells cur 5 (0,0))∧∀ k,k<cs.length->cur[k]?=some (.int .u8 (cs.getD k 0))
theorem Pfx.lt {w:World} {g:Nat} {cs:List Int} (h:Pfx w g cs):g<w.heap.size:=by
 obtain ⟨cur,hg,_⟩:=h
 exact (Array.getElem?_eq_some_iff.1 hg).1
theorem Pfx.cell {w:World} {g:Nat} {cs:List Int} (h:Pfx w g cs) {k:Nat} (hk:k<cs.length):w.cell? ⟨g,k,none⟩=some (.int .u8 (cs.getD k 0)):=by
 obtain ⟨cur,hg,hc⟩:=h
 rw [cell_of_row w g k _ 5 (0,0) hg]
 exact hc k hk
theorem Pfx.same {w w':World} {g:Nat} {cs:List Int} (h:Pfx w g cs) (e:w'.heap[g]?=w.heap[g]?):Pfx w' g cs:=by
 obtain ⟨cur,hg,hc⟩:=h
 exact ⟨cur,e.trans hg,hc⟩
theorem Pfx.below {w w':World} {g n:Nat} {cs:List Int} (h:Pfx w g cs) (hb:Below n w w') (hn:g<n):Pfx w' g cs:=h.same (hb.block g hn)
theorem Pfx.bytes {w:World} {g:Nat} {cs:List Int} (h:Pfx w g cs) (hk:∀ z∈cs,0<=z∧z<=255):Bytes w (some ⟨g,0,none⟩) cs.length cs :=
 ⟨rfl,.inr ⟨g,0,rfl,fun k hk=>by rw [Nat.zero_add,h.cell hk,List.getD_eq_getElem?_getD,List.getElem?_eq_getElem hk];rfl⟩,hk⟩
theorem own_pfx {w:World} {B:Nat} {a:Option Addr} {c:Nat} {cs:List Int} (h:Own w B a c cs) (h0:cs≠[]):∃ g,a=some ⟨g,0,none⟩∧B<=g∧cs.length<=c∧Pfx w g cs:=by
 rcases h.2 with ⟨_,h1⟩|⟨g,cap,cur,hv,hb,hg,hc,_,hs,ht⟩
 ·exact absurd (List.eq_nil_of_length_eq_zero h1) h0
 ·simp only [Value.slice.injEq] at hv
  refine ⟨g,hv.1,hb,by rw [hv.2.2];exact hc,cur,hg,fun k hk=>?_⟩
  have h1:(cur.toList.take (cs.length*1))[k]?=(cs.map (Value.int .u8))[k]?:=by rw [ht]
  rw [List.getElem?_take,if_pos (by omega),List.getElem?_map,List.getElem?_eq_getElem hk] at h1
  rw [<- Array.getElem?_toList,h1,List.getD_eq_getElem?_getD,List.getElem?_eq_getElem hk]
  rfl
set_option maxRecDepth 100000 in
theorem rcounts_p (cp g:Nat) (cs:List Int) (w:World) (hB:Pfx w g cs) (hl:cs.length=32768) (hk:Kinds cs) :
  Calls Tryz.prog 90 #[.slice (some ⟨g,0,none⟩) 32768 cp] w fun e w'=>e = .returned (.slice (some ⟨w.heap.size,0,none⟩) 17 17)∧B64k w' w.heap.size 3 (cntTo cs 32768)∧Below w.heap.size w w':=by
 have hmk:=make17
 have hb:=B64k.new w 3 (cntTo cs 0)
 have hg:=hB.lt
 rw [show List.replicate 17 (0:Int)=cntTo cs 0 from rfl] at hmk
 generalize hL:cntTo cs 0=L at hmk hb
 go_enter Tryz.func90,Tryz.ntmps90
 go_wp2
 subst hL
 go_loopw [4] (fun i wr=>∃ n:Nat,n<=32768∧i = .int .i64 n∧B64k wr w.heap.size 3 (cntTo cs n)∧Below w.heap.size w wr) (fun i _=>32768-(intOf i).toNat)
 case atStart=>exact ⟨0,Nat.zero_le _,rfl,hb,(Below.refl _ _).alloc (Nat.le_refl _) _⟩
 case round =>
  obtain ⟨n,hn,rfl,hC,hb1⟩:=hrel
  by_cases hlt:n<32768
  ·have hc:wr.cell? ⟨g,n,none⟩=some (.int .u8 (cs.getD n 0)):=(hB.below hb1 hg).cell (by omega)
   obtain ⟨v0,v1⟩:=hk.at n
   obtain ⟨V,hV⟩:=Int.eq_ofNat_of_zero_le v0
   have hV17:V<17:=by omega
   have hd:=hC.cell (k:=V) (by rw [cntTo_length];exact hV17)
   have hf:=hC.free V
   obtain ⟨c0,c1⟩:=cntTo_at cs n V hV17
   have R1:B64k (wr.setCell ⟨w.heap.size,V,none⟩ (.int .i64 ((cntTo cs n).getD V 0+1))) w.heap.size 3 (cntTo cs (n+1)):=by
    have:=hC.set V ((cntTo cs n).getD V 0+1)
    rw [show cntTo cs (n+1)=(cntTo cs n).set (cs.getD n 0).toNat ((cntTo cs n).getD (cs.getD n 0).toNat 0+1) from rfl,hV,Int.toNat_natCast]
    exact this
   have R2:Below w.heap.size w (wr.setCell ⟨w.heap.size,V,none⟩ (.int .i64 ((cntTo cs n).getD V 0+1))):=hb1.setCell (p:=⟨w.heap.size,V,none⟩) (Nat.le_refl _) _
   rw [hV] at hc
   have hlt':(n:Int)<32768:=by omega
   have hg':¬ g=w.heap.size:=by omega
   generalize (cntTo cs n).getD V 0=c at *
   clear hC hb1 hV v0 v1
   go_wp2
   go_roundw
   case rel=>exact ⟨n+1,by omega,by go_num,R1,R2⟩
   case measure=>simp [intOf];omega
  ·obtain rfl:n=32768:=by omega
   go_wp2
   go_ret
   exact ⟨rfl,hC,hb1⟩
set_option maxRecDepth 100000 in
set_option maxHeartbeats 1000000 in
theorem rpalette_p (cp g:Nat) (cs:List Int) (w:World) (hB:Pfx w g cs) (hl:cs.length=32768) (hk:Kinds cs) :
  Calls Tryz.prog 62 #[.slice (some ⟨g,0,none⟩) 32768 cp] w fun e w'=>∃ a c,e = .returned (.slice a (pal cs).length c)∧Own w' w.heap.size a c (pal cs)∧Below w.heap.size w w':=by
 go_enter Tryz.func62,Tryz.ntmps62
 go_wp2_with fail
 refine (rcounts_p cp g cs w hB hl hk).mono ?_
 rintro _ w1 ⟨rfl,hN1,hb1⟩
 have hs1:=hb1.size
 have hn1:=hN1.lt
 have hlc:=cntTo_length cs 32768
 have HP:Hid (∀ j:Nat,j<17->(0<(cntTo cs 32768).getD j 0↔(j:Int)∈cs)):=fun j hj=>cntTo_pos hk hl j hj
 generalize cntTo cs 32768=N at *
 go_wp2
 go_loopw [4,5] (fun v i wr=>∃ (j:Nat) (a2:Option Addr) (c2:Nat),j<=17∧i = .int .i64 j∧v = .slice a2 (palTo cs j).length c2∧Hid (Own wr w1.heap.size a2 c2 (palTo cs j))∧Below w1.heap.size w1 wr∧w1.heap.size<=wr.heap.size) (fun _ i _=>17-(intOf i).toNat)
 case atStart=>exact ⟨0,none,0,by omega,rfl,rfl,Own.nil _ _,Below.refl _ _,Nat.le_refl _⟩
 case round =>
  obtain ⟨j,a2,c2,hj,rfl,rfl,HO,hb2,hB2⟩:=hrel
  by_cases hlt:j<17
  ·have hc:=(hN1.below hb2 hn1).cell (k:=j) (by omega)
   have hlt':(j:Int)<17:=by omega
   have hin:=HP.out j hlt
   have hlen:=palTo_len cs j
   generalize N.getD j 0=x at *
   by_cases hm:(j:Int)∈cs
   ·have hx:0<x:=hin.2 hm
    have HS:Hid (palTo cs (j+1)=palTo cs j++[(j:Int)]):=by show _=_;rw [palTo,if_pos hm]
    have HO3:Hid (Own (wr.alloc (.cells #[.int .u8 (j:Int)] 5)) w1.heap.size a2 c2 (palTo cs j)):=HO.out.later ((Below.refl _ _).alloc (Nat.le_refl _) _)
    have HB3:Hid _:=oneByte wr (j:Int) (by omega)
    have HA3:Hid _:=belowAlloc hb2 hB2 (.cells #[.int .u8 (j:Int)] 5)
    clear hin hm
    generalize palTo cs j=L at *
    obtain ⟨P,hP⟩:∃ P,P=L.length:=⟨_,rfl⟩
    rw [<- hP] at hlen ⊢
    have HL:Hid (L.length=P):=hP.symm
    clear hP
    go_upto_region 7 with fail
    go_wp2_with (at_builtin;refine wpList_append_bytes rfl (.tmp 19) (.tmp 22) rfl w1.heap.size a2 P c2 L HL.out rfl HO3.out _ 1 1 [(j:Int)] rfl HB3.out (fun h=>by cases h) (by omega) w1 HA3.out.1 HA3.out.2 ?_;intro a4 c4 w4 HO4 hb4 hB4)
    go_roundw
    case rel =>
     refine ⟨j+1,a4,c4,by omega,by go_num,?_,?_,hb4,hB4⟩
     ·rw [HS.out,List.length_append,HL.out];rfl
     ·show Own _ _ _ _ _
      rw [HS.out];exact HO4.out
    case measure=>simp [intOf];omega
   ·have hx:¬ 0<x:=fun h=>hm (hin.1 h)
    have HS:Hid (palTo cs (j+1)=palTo cs j):=by show _=_;rw [palTo,if_neg hm]
    clear hin hm
    go_wp2
    go_roundw
    case rel =>
     refine ⟨j+1,a2,c2,by omega,by go_num,?_,?_,hb2,hB2⟩
     ·rw [HS.out]
     ·show Own _ _ _ _ _
      rw [HS.out];exact HO.out
    case measure=>simp [intOf];omega
  ·obtain rfl:j=17:=by omega
   go_wp2
   go_ret
   exact ⟨a2,c2,rfl,HO.out.base hs1,hb1.trans (hb2.mono hs1)⟩
end Go.Proofs.YtlllmmceoeihkaaGreat.K
