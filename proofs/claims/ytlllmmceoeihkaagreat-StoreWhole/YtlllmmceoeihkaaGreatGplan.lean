/-
  Plain: what a plan's blocks leave on the disk, and how slots are laid.
  The law's tells: a region tells its slots, each in sectors of its own, and the others free.
  The document's Plan: what slots have behind some changes.
-/
import Derived.Test.YtlllmmceoeihkaaGreatGrows
set_option maxRecDepth 20000
namespace Go.Proofs.YtlllmmceoeihkaaGreat
theorem blk_here (l:List Bk) (f:Fl) (i:Nat) (b:List Int):blk (put l f (i:Int) b) f i=b:=by
 unfold blk
 rw [has_put_same]
 rfl
theorem blk_other (l:List Bk) (f:Fl) (i j:Nat) (b:List Int) (h:i≠j):blk (put l f (i:Int) b) f j=blk l f j:=by
 unfold blk
 rw [has_put_other l f f i j b (fun e=>h (by omega))]
theorem blk_all (f:Fl) (i:Nat):∀ (ps:List Pb) (L:List Bk),(∀ p∈ps,p.i≠i)->blk (putAll f L ps) f i=blk L f i
 | [],_,_=>rfl
 | q::r,L,h=>by
   show blk (putAll f (put L f (q.i:Int) q.b) r) f i=_
   rw [blk_all f i r _ (fun p hp=>h p (List.mem_cons_of_mem _ hp)),blk_other _ _ _ _ _ (h q (by simp))]
theorem blk_mem (f:Fl):∀ (ps:List Pb) (L:List Bk),(ps.map (·.i)).Nodup->∀ p∈ps,blk (putAll f L ps) f p.i=p.b
 | [],_,_,p,hp=>by simp at hp
 | q::r,L,h,p,hp=>by
   rw [List.map_cons,List.nodup_cons] at h
   show blk (putAll f (put L f (q.i:Int) q.b) r) f p.i=_
   rcases List.mem_cons.1 hp with rfl | hr
   ·rw [blk_all f p.i r _ (fun p' hp' e=>h.1 (List.mem_map.2 ⟨p',hp',e⟩)),blk_here]
   ·exact blk_mem f r _ h.2 p hr
theorem blks_of {L:List Bk} {f:Fl} {i n:Nat} {b:Nat->List Int} (h:∀ j,j<n->blk L f (i+j)=b j):blks L f i n=((List.range n).map b).flatten:=by
 unfold blks
 rw [List.range'_eq_map_range,List.map_map]
 congr 1
 refine List.map_congr_left (fun j hj=>?_)
 exact h j (List.mem_range.1 hj)
def sec (b:List Int) (j:Nat):List Int:=(b.drop (32*j)).take 32
theorem sec_drop (b:List Int) (j:Nat):sec (b.drop 32) j=sec b (j+1):=by
 unfold sec
 rw [List.drop_drop,show 32+32*j=32*(j+1) by omega]
theorem secs_take:∀ (n:Nat) (b:List Int) (c:Nat->List Int),b.length<=32*n->(∀ j,j<n->(c j).length=32∧(c j).take (sec b j).length=sec b j)->(((List.range n).map c).flatten).take b.length=b
 | 0,b,c,h,_=>by
   have:b=[]:=List.eq_nil_of_length_eq_zero (by omega)
   subst this
   simp
 | n + 1,b,c,h,hc=>by
   obtain ⟨h1,h2⟩:=hc 0 (by omega)
   have e0:sec b 0=b.take 32:=by unfold sec;rfl
   rw [e0,List.length_take] at h2
   rw [List.range_succ_eq_map,List.map_cons,List.flatten_cons,List.map_map]
   by_cases hl:b.length<=32
   ·rw [List.take_append_of_le_length (by omega)]
    rw [Nat.min_eq_right hl,List.take_of_length_le hl] at h2
    exact h2
   ·rw [Nat.min_eq_left (by omega),List.take_of_length_le (by omega)] at h2
    have ih:=secs_take n (b.drop 32) (c ∘ Nat.succ) (by rw [List.length_drop];omega) (fun j hj=>by
     rw [sec_drop]
     exact hc (j+1) (by omega))
    rw [List.take_append,List.take_of_length_le (by omega),h1,h2]
    rw [List.length_drop] at ih
    rw [ih,List.take_append_drop]
theorem hdrR_len {sp:List Sp} {dat:List (List Int)} (h1:sp.length=16) (h2:dat.length=16):(hdrR sp dat).length=64:=by
 have key:∀ (l:List (Sp×List Int)),((l.map fun p=>hdr1 p.1 p.2).flatten).length=4*l.length:=by
  intro l
  induction l with
  | nil=>rfl
  | cons a r ih =>
    rw [List.map_cons,List.flatten_cons,List.length_append,ih,List.length_cons]
    show 4+4*r.length=_
    omega
 unfold hdrR
 rw [key,List.length_zip,h1,h2]
 rfl
theorem onD_put {L:List Bk} {ρ:Rho} {sp':List Sp} {dat':List (List Int)} {ps:List Pb} (hon:OnD L ρ) (hok:PsOk ps) (hG:GoodR sp' dat')
  (hhead:∀ i,i<2->∃ p∈ps,p.i=i∧p.b=sec (hdrR sp' dat') i)
  (hk:∀ k (h:k<sp'.length) (h':k<dat'.length),(∀ j,j<sp'[k].2->∃ p∈ps,p.i=sp'[k].1+j∧p.b.take (sec dat'[k] j).length=sec dat'[k] j) ∨
   (∃ (g:k<ρ.sp.length) (g':k<ρ.dat.length),ρ.sp[k]=sp'[k]∧ρ.dat[k]=dat'[k]∧∀ p∈ps,¬ (sp'[k].1<=p.i∧p.i<sp'[k].1+sp'[k].2))) :
  OnD (putAll ρ.file L ps) ⟨ρ.x,ρ.z,sp',dat'⟩:=by
 refine ⟨?_,fun k h h'=>?_⟩
 ·show blks (putAll ρ.file L ps) ρ.file 0 2=hdrR sp' dat'
  have hlen:=hdrR_len hG.n hG.m
  rw [blks_of (b:=sec (hdrR sp' dat')) (fun j hj=>by
   obtain ⟨p,hp,e1,e2⟩:=hhead j hj
   rw [Nat.zero_add,<- e2,<- e1]
   exact blk_mem _ _ _ hok.once p hp)]
  have:=secs_take 2 (hdrR sp' dat') (sec (hdrR sp' dat')) (by omega) (fun j hj=>by
   refine ⟨?_,List.take_of_length_le (Nat.le_refl _)⟩
   unfold sec
   rw [List.length_take,List.length_drop]
   omega)
  rw [List.take_of_length_le (by
   rw [show List.range 2=[0,1] from rfl]
   simp only [List.map_cons,List.map_nil,List.flatten_cons,List.flatten_nil,List.length_append,List.length_nil]
   unfold sec
   rw [List.length_take,List.length_drop,List.length_take,List.length_drop]
   omega)] at this
  exact this
 ·show (blks (putAll ρ.file L ps) ρ.file sp'[k].1 sp'[k].2).take dat'[k].length=dat'[k]
  rcases hk k h h' with hw | ⟨g,g',e1,e2,hn⟩
  ·have hlen:dat'[k].length<=32*sp'[k].2:=by
    rcases hG.ok k h h' with ⟨e,_⟩|⟨_,e,_⟩
    ·rw [e];exact Nat.zero_le _
    ·rw [e];unfold needS;omega
   rw [blks_of (b:=fun j=>blk (putAll ρ.file L ps) ρ.file (sp'[k].1+j)) (fun j _=>rfl)]
   refine secs_take _ _ _ hlen (fun j hj=>?_)
   obtain ⟨p,hp,e1,e2⟩:=hw j hj
   rw [<- e1,blk_mem _ _ _ hok.once p hp]
   exact ⟨(hok.ok p hp).2.1,e2⟩
  ·have:=hon.dat k g g'
   rw [e1,e2] at this
   rw [<- this]
   congr 1
   ·rw [this]
   ·unfold blks
    congr 1
    refine List.map_congr_left (fun i hi=>?_)
    rw [List.mem_range'_1] at hi
    exact blk_all _ _ _ _ (fun p hp e=>hn p hp (by omega))
/-! ### slots -/
theorem covers_nil (i:Nat):covers (0,0) i=false:=by unfold covers;exact decide_eq_false (by simp only;omega)
def layS:Nat->List (List Int)->List Sp
 | _,[]=>[]
 | m,b::r=>(if b=[] then (0,0) else (m,needS b.length))::layS (m+needS b.length) r
theorem layS_len:∀ (m:Nat) (l:List (List Int)),(layS m l).length=l.length
 | _,[]=>rfl
 | m,b::r=>by show (layS _ r).length+1=_;rw [layS_len];rfl
theorem layS_ok:∀ (l:List (List Int)) (m:Nat),2<=m->m+needAll l<=40->∀ k (h:k<(layS m l).length) (h':k<l.length),slotOk (layS m l)[k] l[k]
 | [],_,_,_,k,_,h'=>by simp at h'
 | b::r,m,hm,hl,0,_,_=>by
   show slotOk (if b=[] then (0,0) else (m,needS b.length)) b
   have e:needAll (b::r)=needS b.length+needAll r:=by simp [needAll]
   by_cases hb:b=[]
   ·rw [if_pos hb];exact .inl ⟨hb,rfl⟩
   ·rw [if_neg hb]
    have:b.length≠0:=fun h=>hb (List.eq_nil_of_length_eq_zero h)
    exact .inr ⟨by omega,rfl,hm,by simp only;omega⟩
 | b::r,m,hm,hl,k+1,h,h'=>by
   have e:needAll (b::r)=needS b.length+needAll r:=by simp [needAll]
   exact layS_ok r (m+needS b.length) (by omega) (by omega) k (by simpa [layS] using h) (by simpa using h')
theorem layS_low:∀ (l:List (List Int)) (m i:Nat),i<m->cnt (layS m l) i=0
 | [],_,_,_=>by simp [layS,cnt]
 | b::r,m,i,hi=>by
   have e:cnt (layS m (b::r)) i=cnt (layS (m+needS b.length) r) i+(if covers (if b=[] then (0,0) else (m,needS b.length)) i then 1 else 0):=by simp [cnt,layS,List.countP_cons]
   rw [e,layS_low r _ i (by omega)]
   by_cases hb:b=[]
   ·rw [if_pos hb,covers_nil];rfl
   ·rw [if_neg hb]
    have:covers (m,needS b.length) i=false:=by unfold covers;exact decide_eq_false (by simp only;omega)
    rw [this];rfl
theorem layS_once:∀ (l:List (List Int)) (m i:Nat),cnt (layS m l) i<=1
 | [],_,_=>by simp [layS,cnt]
 | b :: r,m,i=>by
   have e:cnt (layS m (b::r)) i=cnt (layS (m+needS b.length) r) i+(if covers (if b=[] then (0,0) else (m,needS b.length)) i then 1 else 0):=by simp [cnt,layS,List.countP_cons]
   have ih:=layS_once r (m+needS b.length) i
   by_cases hb:b=[]
   ·rw [e,if_pos hb,covers_nil]
    simp only [Bool.false_eq_true,if_false]
    omega
   ·rw [if_neg hb] at e
    by_cases hc:covers (m,needS b.length) i=true
    ·have hc':m<=i∧i<m+needS b.length:=of_decide_eq_true hc
     rw [e,layS_low r _ i (by omega),if_pos hc]
     omega
    ·rw [e,if_neg hc]
     omega
theorem layS_good {dat:List (List Int)} (hn:dat.length=16) (hl:2+needAll dat<=40) (hf:∀ b∈dat,∀ z∈b,0<=z∧z<=255):GoodR (layS 2 dat) dat :=
 ⟨by rw [layS_len];exact hn,hn,layS_ok dat 2 (by omega) hl,layS_once dat 2,hf⟩
/-! ### what a file tells -/
theorem has_in:∀ {l:List Bk} {f:Fl} {i:Int} {b:List Int},has l f i=some b->∃ k∈l,k.b=b
 | [],_,_,_,h=>by simp [has] at h
 | a::r,f,i,b,h=>by
   unfold has at h
   split at h
   ·exact ⟨a,by simp,by simpa using h⟩
   ·obtain ⟨k,hk,e⟩:=has_in h
    exact ⟨k,List.mem_cons_of_mem _ hk,e⟩
theorem blk_ok {L:List Bk} (hL:Good L) (hf:∀ b∈L,∀ z∈b.b,0<=z∧z<=255) (f:Fl) (i:Nat):(blk L f i).length=32∧∀ z∈blk L f i,0<=z∧z<=255:=by
 unfold blk
 cases h:has L f (i:Int) with
 | none =>
   refine ⟨by simp,fun z hz=>?_⟩
   have:=List.eq_of_mem_replicate hz
   omega
 | some b =>
   obtain ⟨k,hk,e⟩:=has_in h
   subst e
   exact ⟨(hL k hk).2.2,hf k hk⟩
theorem blks_ok {L:List Bk} (hL:Good L) (hf:∀ b∈L,∀ z∈b.b,0<=z∧z<=255) (f:Fl):∀ (n i:Nat),(blks L f i n).length=32*n∧∀ z∈blks L f i n,0<=z∧z<=255
 | 0,i=>by simp [blks]
 | n+1,i=>by
   have ih:=blks_ok hL hf f n (i+1)
   have h0:=blk_ok hL hf f i
   have e:blks L f i (n+1)=blk L f i++blks L f (i+1) n:=by unfold blks;rw [List.range'_succ,List.map_cons,List.flatten_cons]
   rw [e,List.length_append,ih.1,h0.1]
   refine ⟨by omega,fun z hz=>?_⟩
   rcases List.mem_append.1 hz with h | h
   ·exact h0.2 z h
   ·exact ih.2 z h
theorem rho_good {L:List Bk} (hL:Good L) (hf:∀ b∈L,∀ z∈b.b,0<=z∧z<=255) {x z:Int} (h:HdOk (headS L x z)):GoodR (rhoS L x z).sp (rhoS L x z).dat:=by
 have hlen:(headS L x z).length=16:=by simp [headS,entS]
 have hs:(rhoS L x z).sp=(headS L x z).map (·.1):=rfl
 have hd:(rhoS L x z).dat=(headS L x z).map (fun h=>(blks L (2,x,z) h.1.1 h.1.2).take h.2):=rfl
 refine ⟨by rw [hs,List.length_map,hlen],by rw [hd,List.length_map,hlen],fun k h1 h2=>?_,fun i=>by rw [hs];exact h.once i,fun b hb y hy=>?_⟩
 ·have hk:k<(headS L x z).length:=by rw [hs,List.length_map] at h1;exact h1
  refine (show slotOk ((headS L x z)[k].1) ((blks L (2,x,z) (headS L x z)[k].1.1 (headS L x z)[k].1.2).take (headS L x z)[k].2)->_ from fun hh=>by simp only [rhoS,List.getElem_map];exact hh) ?_
  generalize hq:(headS L x z)[k]=q
  have hm:q∈headS L x z:=by rw [<- hq];exact List.getElem_mem _
  rcases h.ok q hm with rfl | ⟨g1,g2,g3,g4⟩
  ·exact .inl ⟨rfl,rfl⟩
  ·have hb:=(blks_ok hL hf (2,x,z) q.1.2 q.1.1).1
   have hl:((blks L (2,x,z) q.1.1 q.1.2).take q.2).length=q.2:=by
    rw [List.length_take,hb]
    unfold needS at g2
    omega
   exact .inr ⟨by rw [hl];exact g1,by rw [hl];exact g2,g3,g4⟩
 ·rw [hd] at hb
  obtain ⟨q,_,rfl⟩:=List.mem_map.1 hb
  exact (blks_ok hL hf (2,x,z) q.1.2 q.1.1).2 y (List.mem_of_mem_take hy)
end Go.Proofs.YtlllmmceoeihkaaGreat
set_option maxRecDepth 20000
namespace Go.Proofs.YtlllmmceoeihkaaGreat
open Go.RowKit
/-! ### how often each sector is counted -/
theorem cnt_one (s:Sp) (i:Nat):cnt [s] i=if covers s i then 1 else 0:=by simp [cnt,List.countP_cons]
theorem cnt_nil (f i:Nat):cnt [(f,0)] i=0:=by
 rw [cnt_one]
 unfold covers
 rw [decide_eq_false (by simp only;omega)]
 rfl
def hRow (n:Nat):List Int:=(List.range 40).map fun i=>if i<n then 1 else 0
theorem free_len (sp:List Sp):(freeR sp).length<=38:=by
 have h1:∀ j,(spTo 2 (tkR sp) j).length<=j:=by
  intro j
  induction j with
  | zero=>exact Nat.le_refl _
  | succ j ih =>
    rw [spTo]
    split
    ·omega
    ·unfold addS
     split
     ·rename_i hl
      split
      ·have:=last_split hl
       have h2:=congrArg List.length this
       simp only [List.length_append,List.length_cons,List.length_nil] at h2 ⊢
       omega
      ·simp only [List.length_append,List.length_cons,List.length_nil]
       omega
     ·simp only [List.length_cons,List.length_nil]
      omega
 unfold freeR spansS
 rw [tkR_len]
 exact h1 38
theorem all_in {sp:List Sp} {dat:List (List Int)} (H:GoodR sp dat) {s:Sp} (hs:s∈sp++freeR sp):s.1+s.2<=40:=by
 rcases List.mem_append.1 hs with h | h
 ·rcases sp_in H h with rfl | h
  ·decide
  ·exact h.2
 ·exact ((freeR_is sp).ins s h).2.2.1
end Go.Proofs.YtlllmmceoeihkaaGreat
set_option maxRecDepth 20000
namespace Go.Proofs.YtlllmmceoeihkaaGreat
open Go.RowKit
/-! ### a row of slices of one's own -/
def hadR (hd:List Nat):List Bool:=(List.range 16).map fun i=>decide (i∈hd)
theorem hadR_len (hd:List Nat):(hadR hd).length=16:=by simp [hadR]
theorem hadR_at (hd:List Nat) {i:Nat} (hi:i<16):(hadR hd).getD i false=decide (i∈hd):=by simp [hadR,List.getD_eq_getElem?_getD,hi]
theorem hadR_set (hd:List Nat) {i:Nat} (hi:i<16):(hadR hd).set i true=hadR (i::hd):=by
 apply List.ext_getElem?
 intro j
 rw [List.getElem?_set]
 simp only [hadR,List.length_map,List.length_range,List.getElem?_map]
 by_cases hj:j<16
 ·rw [List.getElem?_range hj]
  by_cases e:i=j
  ·rw [if_pos e,if_pos hi]
   simp [e]
  ·rw [if_neg e]
   simp [Ne.symm e]
 ·rw [List.getElem?_eq_none (by simp;omega)]
  by_cases e:i=j
  ·omega
  ·rw [if_neg e];rfl
theorem chg_bad {d:List (List Int)} {hd:List Nat} {c:Cs} {r:List Cs} (h:¬ (0<=c.s∧c.s<16∧c.s.toNat∉hd)):chgAll d hd (c::r)=none:=by rw [chgAll,if_neg h]
theorem chg_ok {d:List (List Int)} {hd:List Nat} {c:Cs} {r:List Cs} (h:0<=c.s∧c.s<16∧c.s.toNat∉hd):chgAll d hd (c::r)=chgAll (d.set c.s.toNat c.b) (c.s.toNat::hd) r:=by rw [chgAll,if_pos h]
end Go.Proofs.YtlllmmceoeihkaaGreat
