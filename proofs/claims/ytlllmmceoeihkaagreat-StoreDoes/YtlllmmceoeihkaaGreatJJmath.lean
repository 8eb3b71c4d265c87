/-
  Plain mathematics for the layer disk: blocks that were written, the power, files in order; no program is named here.
  Plain mathematics for the laws of the layer disk; no program is named here.
  Plain mathematics for the layer space: numbers that are taken or free, spans; no program is named here.
  Plain mathematics for the layer journal: groups of blocks, what is wrong with one, a disk behind one; no program is named here.
  Plain mathematics: four whole numbers as a block of 32 bytes, and back; the sum of bytes; no program is named here.
  Plain mathematics: the journal's file: notes, a head; disks that Open takes on; no program is named here.
-/
namespace Go.Proofs.YtlllmmceoeihkaaGreat
section
abbrev Fl:Type:=Int×Int×Int
structure Bk where
 f:Fl
 i:Int
 b:List Int
structure St where
 l:List Bk
 out:Bool
 armed:Bool
 left:Int
 writes:Int
def has:List Bk->Fl->Int->Option (List Int)
 | [],_,_=>none
 | b::r,f,i=>if b.f=f∧b.i=i then some b.b else has r f i
def put:List Bk->Fl->Int->List Int->List Bk
 | [],f,i,bs=>[⟨f,i,bs⟩]
 | b::r,f,i,bs=>if b.f=f∧b.i=i then ⟨f,i,bs⟩::r else b::put r f i bs
theorem has_put_same (l:List Bk) (f:Fl) (i:Int) (bs:List Int):has (put l f i bs) f i=some bs:=by
 induction l with
 | nil=>simp [put,has]
 | cons b r ih =>
   unfold put
   split
   ·simp [has]
   ·rename_i h
    rw [has,if_neg h,ih]
theorem has_put_other (l:List Bk) (f g:Fl) (i j:Int) (bs:List Int) (h:¬ (f=g∧i=j)):has (put l f i bs) g j=has l g j:=by
 induction l with
 | nil=>simp [put,has,h]
 | cons b r ih =>
   unfold put
   split
   ·rename_i e
    rw [has,has,if_neg h,if_neg (by rw [e.1,e.2];exact h)]
   ·rw [has,has,ih]
theorem mem_put {l:List Bk} {f:Fl} {i:Int} {bs:List Int} {b:Bk} (h:b∈put l f i bs):b∈l∨b=⟨f,i,bs⟩:=by
 induction l with
 | nil=>simp [put] at h;exact Or.inr h
 | cons a r ih =>
   unfold put at h
   split at h
   ·rcases List.mem_cons.1 h with h | h
    ·exact Or.inr h
    ·exact Or.inl (List.mem_cons_of_mem _ h)
   ·rcases List.mem_cons.1 h with h | h
    ·exact Or.inl (by rw [h];exact List.mem_cons_self ..)
    ·rcases ih h with h | h
     ·exact Or.inl (List.mem_cons_of_mem _ h)
     ·exact Or.inr h
def at_ (l:List Bk):List (Fl×Int):=l.map fun b=>(b.f,b.i)
theorem at_put (l:List Bk) (f:Fl) (i:Int) (bs:List Int):at_ (put l f i bs)=if (has l f i).isSome then at_ l else at_ l++[(f,i)]:=by
 induction l with
 | nil=>rfl
 | cons b r ih =>
   unfold put
   split
   ·rename_i e
    rw [has,if_pos e]
    simp [at_,e.1,e.2]
   ·rename_i e
    rw [has,if_neg e]
    show (b.f,b.i)::at_ (put r f i bs)=_
    rw [ih]
    split
    ·rfl
    ·rfl
theorem has_mem {l:List Bk} {f:Fl} {i:Int} {bs:List Int} (h:has l f i=some bs):(⟨f,i,bs⟩:Bk)∈l:=by
 induction l with
 | nil=>simp [has] at h
 | cons b r ih =>
   rw [has] at h
   split at h
   ·rename_i e
    cases h
    obtain ⟨bf,bi,bb⟩:=b
    simp only at e
    obtain ⟨rfl,rfl⟩:=e
    exact List.mem_cons_self ..
   ·exact List.mem_cons_of_mem _ (ih h)
theorem has_none {l:List Bk} {f:Fl} {i:Int}:has l f i=none↔(f,i)∉at_ l:=by
 induction l with
 | nil=>simp [has,at_]
 | cons b r ih =>
   rw [has]
   split
   ·rename_i e
    simp [at_,e.1,e.2]
   ·rename_i e
    rw [ih]
    unfold at_
    rw [List.map_cons,List.mem_cons,not_or]
    constructor
    ·intro h
     refine ⟨fun he=>e ?_,h⟩
     cases he
     exact ⟨rfl,rfl⟩
    ·exact fun h=>h.2
/-! ### what calls answer -/
def St.new:St:=⟨[],false,false,0,0⟩
abbrev argOk (i:Int) (n:Nat):Prop:=0<=i∧i<4096∧n=32
def St.wrote (S:St) (f:Fl) (i:Int) (bs:List Int):St :=
 { l:=put S.l f i bs,out:=S.armed && decide (S.left-1<=0),armed:=S.armed,left:=if S.armed then S.left-1 else S.left,writes:=S.writes+1 }
def St.write (S:St) (f:Fl) (i:Int) (bs:List Int):Int×St :=
 if argOk i bs.length then (if S.out then (8,S) else (0,S.wrote f i bs)) else (1,S)
def St.read (S:St) (f:Fl) (i:Int):Int×List Int :=
 if 0<=i∧i<4096 then (if S.out then (8,[]) else (0,(has S.l f i).getD (List.replicate 32 0))) else (1,[])
def St.cut (S:St) (n:Int):St:={ S with armed:=true,left:=n,out:=S.out || decide (n<1) }
def lenOf:List (Fl×Int)->Fl->Int
 | [],_=>0
 | p::r,f=>if p.1=f then max (p.2+1) (lenOf r f) else lenOf r f
/-! ### files in order -/
def ltF (a b:Fl):Bool:=decide (a.1<b.1∨a.1=b.1∧(a.2.1<b.2.1∨a.2.1=b.2.1∧a.2.2<b.2.2))
def ins (f:Fl):List Fl->List Fl
 | []=>[f]
 | g::r=>if ltF g f then g::ins f r else if g=f then g::r else f::g::r
theorem lenOf_le {p:List (Fl×Int)} {f:Fl} {i:Int} (h:(f,i)∈p):i+1<=lenOf p f:=by
 induction p with
 | nil=>simp at h
 | cons q r ih =>
   unfold lenOf
   rcases List.mem_cons.1 h with e | e
   ·subst e
    rw [if_pos rfl]
    exact Int.le_max_left ..
   ·have:=ih e
    split
    ·exact Int.le_trans this (Int.le_max_right ..)
    ·exact this
theorem lenOf_is {p:List (Fl×Int)} {f:Fl} (hp:∀ q∈p,0<=q.2):lenOf p f=0∧(∀ i,(f,i)∉p)∨∃ i,(f,i)∈p∧lenOf p f=i+1:=by
 induction p with
 | nil=>exact Or.inl ⟨rfl,fun i=>by simp⟩
 | cons q r ih =>
   have h0:=hp q (List.mem_cons_self ..)
   unfold lenOf
   rcases ih (fun x hx=>hp x (List.mem_cons_of_mem _ hx)) with ⟨h1,h2⟩|⟨i,h1,h2⟩
   ·split
    ·rename_i e
     refine Or.inr ⟨q.2,by rw [<- e];exact List.mem_cons_self ..,?_⟩
     rw [h1]
     omega
    ·rename_i e
     refine Or.inl ⟨h1,fun i hi=>?_⟩
     rcases List.mem_cons.1 hi with e2 | e2
     ·exact e (by rw [<- e2])
     ·exact h2 i e2
   ·split
    ·rename_i e
     by_cases hle:q.2+1<=lenOf r f
     ·exact Or.inr ⟨i,List.mem_cons_of_mem _ h1,by rw [Int.max_eq_right hle,h2]⟩
     ·exact Or.inr ⟨q.2,by rw [<- e];exact List.mem_cons_self ..,by omega⟩
    ·exact Or.inr ⟨i,List.mem_cons_of_mem _ h1,h2⟩
def Good (l:List Bk):Prop:=∀ b∈l,0<=b.i∧b.i<4096∧b.b.length=32
theorem Good.put {l:List Bk} (h:Good l) {f:Fl} {i:Int} {bs:List Int} (ha:argOk i bs.length):Good (put l f i bs):=fun b hb=>by
 rcases mem_put hb with hb | rfl
 ·exact h b hb
 ·exact ⟨ha.1,ha.2.1,ha.2.2⟩
theorem Good.at_ {l:List Bk} (h:Good l):∀ q∈at_ l,0<=q.2∧q.2<4096:=fun q hq=>by
 obtain ⟨b,hb,rfl⟩:=List.mem_map.1 hq
 exact ⟨(h b hb).1,(h b hb).2.1⟩
end
section
/-! ### bounds -/
theorem put_len (l:List Bk) (f:Fl) (i:Int) (bs:List Int):(put l f i bs).length<=l.length+1:=by
 induction l with
 | nil=>simp [put]
 | cons b r ih =>
   unfold put
   split
   ·simp
   ·simp only [List.length_cons];omega
end
end Go.Proofs.YtlllmmceoeihkaaGreat
namespace Go.Proofs.YtlllmmceoeihkaaGreat
def allS (T:List Bool) (f m:Nat) (b:Bool):Bool:=((T.drop f).take m).all (· == b)
def setS (T:List Bool) (f m:Nat) (b:Bool):List Bool:=T.take f++List.replicate m b++T.drop (f+m)
theorem setS_len {T:List Bool} {f m:Nat} (h:f+m<=T.length) (b:Bool):(setS T f m b).length=T.length:=by
 unfold setS
 simp only [List.length_append,List.length_take,List.length_replicate,List.length_drop]
 omega
theorem setS_zero (T:List Bool) (f:Nat) (b:Bool):setS T f 0 b=T:=by
 unfold setS
 simp
theorem setS_at {T:List Bool} {f m:Nat} (h:f+m<=T.length) (b:Bool) (i:Nat):(setS T f m b)[i]?=if f<=i∧i<f+m then some b else T[i]?:=by
 unfold setS
 by_cases h1:i<f
 ·rw [if_neg (by omega),List.append_assoc,List.getElem?_append_left (by rw [List.length_take];omega),List.getElem?_take,if_pos h1]
 ·by_cases h2:i<f+m
  ·rw [if_pos (by omega),List.append_assoc,List.getElem?_append_right (by rw [List.length_take];omega),List.getElem?_append_left (by rw [List.length_take,List.length_replicate];omega),List.getElem?_replicate,if_pos (by rw [List.length_take];omega)]
  ·rw [if_neg (by omega),List.getElem?_append_right (by simp only [List.length_append,List.length_take,List.length_replicate];omega),List.getElem?_drop]
   congr 1
   simp only [List.length_append,List.length_take,List.length_replicate]
   omega
theorem setS_next {T:List Bool} {f m:Nat} (h:f+m<T.length) (b:Bool):(setS T f m b).set (f+m) b=setS T f (m+1) b:=by
 apply List.ext_getElem?
 intro i
 rw [setS_at (by omega),List.getElem?_set,setS_at (by omega),setS_len (by omega)]
 by_cases h1:f+m=i
 ·subst h1
  rw [if_pos rfl,if_pos h,if_pos (by omega)]
 ·rw [if_neg h1]
  by_cases h2:f<=i∧i<f+m
  ·rw [if_pos h2,if_pos (by omega)]
  ·rw [if_neg h2,if_neg (by omega)]
theorem allS_iff {T:List Bool} {f m:Nat} (h:f+m<=T.length) (b:Bool):allS T f m b=true↔∀ i,f<=i->i<f+m->T[i]?=some b:=by
 unfold allS
 rw [List.all_eq_true]
 constructor
 ·intro ha i h1 h2
  have hi:i<T.length:=by omega
  have hm:T[i]∈(T.drop f).take m:=by
   refine List.mem_iff_getElem?.2 ⟨i-f,?_⟩
   rw [List.getElem?_take,if_pos (by omega),List.getElem?_drop,show f+(i-f)=i by omega,List.getElem?_eq_getElem hi]
  rw [List.getElem?_eq_getElem hi,show T[i]=b by simpa using ha _ hm]
 ·intro ha x hx
  obtain ⟨k,hk⟩:=List.mem_iff_getElem?.1 hx
  rw [List.getElem?_take] at hk
  split at hk
  ·rename_i hkm
   rw [List.getElem?_drop,ha (f+k) (by omega) (by omega)] at hk
   simpa using (Option.some.inj hk).symm
  ·cases hk
abbrev Sp:Type:=Nat×Nat
def addS (l:List Sp) (i:Nat):List Sp :=
 match l.getLast? with
 | some (f,m)=>if f+m=i then l.dropLast++[(f,m+1)] else l++[(i,1)]
 | none=>[(i,1)]
def spTo (h:Nat) (T:List Bool):Nat->List Sp
 | 0=>[]
 | j+1=>if T.getD (h+j) false then spTo h T j else addS (spTo h T j) (h+j)
def spansS (h:Nat) (T:List Bool):List Sp:=spTo h T (T.length-h)
structure IsSp (h e:Nat) (T:List Bool) (l:List Sp):Prop where
 ins:∀ x∈l,1<=x.2∧h<=x.1∧x.1+x.2<=e∧∀ i,x.1<=i->i<x.1+x.2->T.getD i false=false
 gap:l.Pairwise fun a b=>a.1+a.2<b.1
 all:∀ i,h<=i->i<e->T.getD i false=false->∃ x∈l,x.1<=i∧i<x.1+x.2
theorem IsSp.nil (h:Nat) (T:List Bool):IsSp h h T []:=⟨fun x hx=>(by cases hx),List.Pairwise.nil,fun i h1 h2=>by omega⟩
theorem last_split {l:List Sp} {x:Sp} (h:l.getLast?=some x):l=l.dropLast++[x]:=by
 obtain ⟨ys,rfl⟩:=List.getLast?_eq_some_iff.1 h
 simp
theorem IsSp.next {h e:Nat} {T:List Bool} {l:List Sp} (H:IsSp h e T l) (he:h<=e):IsSp h (e+1) T (if T.getD e false then l else addS l e):=by
 by_cases ht:T.getD e false=true
 ·rw [if_pos ht]
  refine ⟨fun x hx=>?_,H.gap,fun i h1 h2 h3=>?_⟩
  ·have:=H.ins x hx
   exact ⟨this.1,this.2.1,by omega,this.2.2.2⟩
  ·by_cases hi:i=e
   ·subst hi
    rw [ht] at h3
    cases h3
   ·exact H.all i h1 (by omega) h3
 ·have hf:T.getD e false=false:=by simpa using ht
  rw [if_neg ht]
  unfold addS
  cases hl:l.getLast? with
  | none =>
    obtain rfl:l=[]:=List.getLast?_eq_none_iff.1 hl
    refine ⟨fun x hx=>?_,by simp,fun i h1 h2 h3=>?_⟩
    ·obtain rfl:=List.mem_singleton.1 hx
     refine ⟨Nat.le_refl _,he,Nat.le_refl _,fun i h1 h2=>?_⟩
     simp only at h1 h2
     rw [show i=e by omega]
     exact hf
    ·by_cases hi:i=e
     ·exact ⟨(e,1),by simp,by simp only;omega,by simp only;omega⟩
     ·obtain ⟨x,hx,_⟩:=H.all i h1 (by omega) h3
      cases hx
  | some x =>
    obtain ⟨f,m⟩:=x
    have hs:=last_split hl
    have hin:=H.ins (f,m) (by rw [hs];simp)
    simp only at hin
    simp only
    by_cases hfm:f+m=e
    ·rw [if_pos hfm]
     have hg:=H.gap
     rw [hs,List.pairwise_append] at hg
     refine ⟨fun x hx=>?_,?_,fun i h1 h2 h3=>?_⟩
     ·rcases List.mem_append.1 hx with hx | hx
      ·have:=H.ins x (by rw [hs];exact List.mem_append_left _ hx)
       exact ⟨this.1,this.2.1,by omega,this.2.2.2⟩
      ·obtain rfl:=List.mem_singleton.1 hx
       refine ⟨by simp only;omega,hin.2.1,by simp only;omega,fun i h1 h2=>?_⟩
       simp only at h1 h2
       by_cases hi:i=e
       ·rw [hi];exact hf
       ·exact hin.2.2.2 i h1 (by omega)
     ·rw [List.pairwise_append]
      refine ⟨hg.1,by simp,fun a ha b hb=>?_⟩
      obtain rfl:=List.mem_singleton.1 hb
      exact hg.2.2 a ha (f,m) (by simp)
     ·by_cases hi:i=e
      ·exact ⟨(f,m+1),by simp,by simp only;omega,by simp only;omega⟩
      ·obtain ⟨x,hx,h4,h5⟩:=H.all i h1 (by omega) h3
       rw [hs] at hx
       rcases List.mem_append.1 hx with hx | hx
       ·exact ⟨x,List.mem_append_left _ hx,h4,h5⟩
       ·obtain rfl:=List.mem_singleton.1 hx
        exact ⟨(f,m+1),by simp,h4,by simp only at h5 ⊢;omega⟩
    ·rw [if_neg hfm]
     refine ⟨fun x hx=>?_,?_,fun i h1 h2 h3=>?_⟩
     ·rcases List.mem_append.1 hx with hx | hx
      ·have:=H.ins x hx
       exact ⟨this.1,this.2.1,by omega,this.2.2.2⟩
      ·obtain rfl:=List.mem_singleton.1 hx
       refine ⟨Nat.le_refl _,he,Nat.le_refl _,fun i h1 h2=>?_⟩
       simp only at h1 h2
       rw [show i=e by omega]
       exact hf
     ·rw [List.pairwise_append]
      refine ⟨H.gap,by simp,fun a ha b hb=>?_⟩
      obtain rfl:=List.mem_singleton.1 hb
      simp only
      have hg:=H.gap
      rw [hs,List.pairwise_append] at hg
      rw [hs] at ha
      rcases List.mem_append.1 ha with ha | ha
      ·have:=hg.2.2 a ha (f,m) (by simp)
       simp only at this
       omega
      ·obtain rfl:=List.mem_singleton.1 ha
       simp only
       omega
     ·by_cases hi:i=e
      ·exact ⟨(e,1),by simp,by simp only;omega,by simp only;omega⟩
      ·obtain ⟨x,hx,h4⟩:=H.all i h1 (by omega) h3
       exact ⟨x,List.mem_append_left _ hx,h4⟩
theorem spTo_is (h:Nat) (T:List Bool):∀ j,IsSp h (h+j) T (spTo h T j)
 | 0=>IsSp.nil h T
 | j+1=>(spTo_is h T j).next (by omega)
theorem spans_is {h:Nat} {T:List Bool} (hh:h<=T.length):IsSp h T.length T (spansS h T):=by
 have:=spTo_is h T (T.length-h)
 rw [show h+(T.length-h)=T.length by omega] at this
 exact this
theorem IsSp.tail {h e:Nat} {T:List Bool} {x:Sp} {r:List Sp} (K:IsSp h e T (x::r)):IsSp (x.1+x.2) e T r:=by
 have kx:=(List.pairwise_cons.1 K.gap).1
 have hx:=K.ins x (by simp)
 refine ⟨fun z hz=>?_,(List.pairwise_cons.1 K.gap).2,fun i h1 h2 h3=>?_⟩
 ·have h1:=K.ins z (List.mem_cons_of_mem _ hz)
  have h2:=kx z hz
  exact ⟨h1.1,by omega,h1.2.2.1,h1.2.2.2⟩
 ·obtain ⟨u,hu,hu1,hu2⟩:=K.all i (by omega) h2 h3
  rcases List.mem_cons.1 hu with rfl | hu
  ·omega
  ·exact ⟨u,hu,hu1,hu2⟩
theorem IsSp.unique {e:Nat} {T:List Bool} {l:List Sp}:∀ {h:Nat} {l':List Sp},IsSp h e T l->IsSp h e T l'->l=l':=by
 induction l with
 | nil =>
   intro h l' H H'
   match l',H' with
   | [],_=>rfl
   | y::r',H' =>
     have hy:=H'.ins y (by simp)
     obtain ⟨x,hx,_⟩:=H.all y.1 hy.2.1 (by omega) (hy.2.2.2 y.1 (Nat.le_refl _) (by omega))
     cases hx
 | cons x r ih =>
   intro h l' H H'
   have hx:=H.ins x (by simp)
   match l',H' with
   | [],H' =>
     obtain ⟨y,hy,_⟩:=H'.all x.1 hx.2.1 (by omega) (hx.2.2.2 x.1 (Nat.le_refl _) (by omega))
     cases hy
   | y :: r',H' =>
     have hy:=H'.ins y (by simp)
     have gx:=(List.pairwise_cons.1 H.gap).1
     have gy:=(List.pairwise_cons.1 H'.gap).1
     have e1:x.1=y.1:=by
      obtain ⟨z,hz,hz1,hz2⟩:=H'.all x.1 hx.2.1 (by omega) (hx.2.2.2 x.1 (Nat.le_refl _) (by omega))
      obtain ⟨u,hu,hu1,hu2⟩:=H.all y.1 hy.2.1 (by omega) (hy.2.2.2 y.1 (Nat.le_refl _) (by omega))
      have h1:y.1<=x.1:=by
       rcases List.mem_cons.1 hz with rfl | hz
       ·exact hz1
       ·have:=gy z hz;omega
      have h2:x.1<=y.1:=by
       rcases List.mem_cons.1 hu with rfl | hu
       ·exact hu1
       ·have:=gx u hu;omega
      omega
     have e2:x.2=y.2:=by
      rcases Nat.lt_trichotomy x.2 y.2 with hlt | heq | hgt
      ·exfalso
       obtain ⟨u,hu,hu1,hu2⟩:=H.all (x.1+x.2) (by omega) (by omega) (hy.2.2.2 _ (by omega) (by omega))
       rcases List.mem_cons.1 hu with rfl | hu
       ·omega
       ·have:=gx u hu;omega
      ·exact heq
      ·exfalso
       obtain ⟨u,hu,hu1,hu2⟩:=H'.all (y.1+y.2) (by omega) (by omega) (hx.2.2.2 _ (by omega) (by omega))
       rcases List.mem_cons.1 hu with rfl | hu
       ·omega
       ·have:=gy u hu;omega
     obtain rfl:x=y:=Prod.ext e1 e2
     rw [ih H.tail H'.tail]
theorem spans_of {h:Nat} {T:List Bool} {l:List Sp} (hh:h<=T.length) (H:IsSp h T.length T l):l=spansS h T:=H.unique (spans_is hh)
/-! ### room, the largest, the lowest place -/
def firstS (l:List Sp) (n:Nat):Option Sp:=l.find? (fun x=>decide (n<=x.2))
theorem IsSp.cover {h e:Nat} {T:List Bool} {l:List Sp} (H:IsSp h e T l) {f m:Nat} (hm:1<=m) (hf:h<=f) (he:f+m<=e) (ha:∀ i,f<=i->i<f+m->T.getD i false=false):∃ x∈l,x.1<=f∧f+m<=x.1+x.2:=by
 obtain ⟨x,hx,h1,h2⟩:=H.all f hf (by omega) (ha f (Nat.le_refl _) (by omega))
 refine ⟨x,hx,h1,?_⟩
 refine Nat.le_of_not_lt (fun hlt=>?_)
 obtain ⟨y,hy,h3,h4⟩:=H.all (x.1+x.2) (by omega) (by omega) (ha _ (by omega) (by omega))
 have hne:x≠y:=fun e=>by subst e;omega
 obtain ⟨i,hi,rfl⟩:=List.mem_iff_getElem.1 hx
 obtain ⟨j,hj,rfl⟩:=List.mem_iff_getElem.1 hy
 have hp:=List.pairwise_iff_getElem.1 H.gap
 rcases Nat.lt_trichotomy i j with hij | hij | hij
 ·have:=hp i j hi hj hij
  omega
 ·subst hij
  exact hne rfl
 ·have:=hp j i hj hi hij
  have:=H.ins _ (List.getElem_mem hi)
  omega
def takeS (h:Nat) (T:List Bool) (n:Nat):Option Nat:=(List.range' h (T.length-h)).find? (fun i=>decide (i+n<=T.length) && allS T i n false)
theorem getD_of {T:List Bool} {i:Nat} {b:Bool} (h:T[i]?=some b):T.getD i false=b:=by rw [List.getD_eq_getElem?_getD,h];rfl
theorem get_of {T:List Bool} {i:Nat} {b:Bool} (hi:i<T.length) (h:T.getD i false=b):T[i]?=some b:=by
 rw [List.getElem?_eq_getElem hi,<- h,List.getD_eq_getElem?_getD,List.getElem?_eq_getElem hi]
 rfl
theorem find_range' (p:Nat->Bool):∀ (k h i:Nat),h<=i->i<h+k->p i=true->(∀ j,h<=j->j<i->p j=false)->(List.range' h k).find? p=some i
 | 0,h,i,h1,h2,_,_=>by omega
 | k+1,h,i,h1,h2,h3,h4=>by
   rw [List.range'_succ,List.find?_cons]
   by_cases e:h=i
   ·subst e
    rw [h3]
   ·rw [h4 h (Nat.le_refl _) (by omega)]
    exact find_range' p k (h+1) i (by omega) (by omega) h3 (fun j hj hji=>h4 j (by omega) hji)
theorem find_none (p:Nat->Bool) (k h:Nat) (H:∀ j,h<=j->j<h+k->p j=false):(List.range' h k).find? p=none:=by
 rw [List.find?_eq_none]
 intro x hx
 rw [List.mem_range'_1] at hx
 rw [H x hx.1 hx.2]
 decide
theorem take_first {h:Nat} {T:List Bool} {l:List Sp} (hh:h<=T.length) (H:IsSp h T.length T l) {n:Nat} (hn:1<=n):takeS h T n=(firstS l n).map (·.1):=by
 have hit:∀ i,h<=i->(decide (i+n<=T.length) && allS T i n false)=true->∃ x∈l,x.1<=i∧i+n<=x.1+x.2:=fun i hi hp=>by
  rw [Bool.and_eq_true,decide_eq_true_iff] at hp
  exact H.cover hn hi hp.1 (fun j h1 h2=>getD_of ((allS_iff hp.1 false).1 hp.2 j h1 h2))
 unfold takeS
 cases hf:firstS l n with
 | none =>
   refine find_none _ _ _ (fun j h1 h2=>?_)
   cases hp:(decide (j+n<=T.length) && allS T j n false) with
   | false=>rfl
   | true =>
     obtain ⟨x,hx,h3,h4⟩:=hit j h1 hp
     have:=List.find?_eq_none.1 hf x hx
     exact absurd (decide_eq_true (by omega)) this
 | some x =>
   obtain ⟨hx,as,bs,hl,has⟩:=List.find?_eq_some_iff_append.1 hf
   have hx:=of_decide_eq_true hx
   have hmem:x∈l:=by rw [hl];simp
   have hin:=H.ins x hmem
   show _=some x.1
   refine find_range' _ _ _ _ hin.2.1 (by omega) ?_ (fun j h1 h2=>?_)
   ·rw [Bool.and_eq_true,decide_eq_true_iff]
    refine ⟨by omega,(allS_iff (by omega) false).2 (fun i h3 h4=>get_of (by omega) (hin.2.2.2 i h3 (by omega)))⟩
   ·cases hp:(decide (j+n<=T.length) && allS T j n false) with
    | false=>rfl
    | true =>
      exfalso
      obtain ⟨y,hy,h3,h4⟩:=hit j h1 hp
      rw [hl] at hy
      have hg:=H.gap
      rw [hl,List.pairwise_append,List.pairwise_cons] at hg
      rcases List.mem_append.1 hy with hy | hy
      ·have:=has y hy
       simp only [Bool.not_eq_true',decide_eq_false_iff_not] at this
       omega
      ·rcases List.mem_cons.1 hy with rfl | hy
       ·omega
       ·have:=hg.2.1.1 y hy
        omega
end Go.Proofs.YtlllmmceoeihkaaGreat
namespace Go.Proofs.YtlllmmceoeihkaaGreat
section
def badB (b:Bk):Bool:=decide (b.f.1=1∨b.i<0∨4096<=b.i∨b.b.length≠32)
def may (l:List Bk):Int:=if l.any badB then 1 else if 256<l.length then 7 else 0
def doAll (V l:List Bk):List Bk:=l.foldl (fun V b=>put V b.f b.i b.b) V
def St.doAll (S:St) (l:List Bk):St:=l.foldl (fun S b=>(S.write b.f b.i b.b).2) S
theorem badB_false {b:Bk}:badB b=false↔b.f.1≠1∧argOk b.i b.b.length:=by
 unfold badB argOk
 rw [decide_eq_false_iff_not]
 omega
theorem may_ok {l:List Bk}:may l=0↔(∀ b∈l,badB b=false)∧l.length<=256:=by
 unfold may
 cases h:l.any badB with
 | true =>
   simp only [if_true]
   refine ⟨fun h=>by omega,fun ⟨h1,_⟩=>?_⟩
   obtain ⟨b,hb,hx⟩:=List.any_eq_true.1 h
   rw [h1 b hb] at hx
   cases hx
 | false =>
   have h1:∀ b∈l,badB b=false:=by
    intro b hb
    cases hx:badB b with
    | false=>rfl
    | true=>rw [List.any_eq_true.2 ⟨b,hb,hx⟩] at h;cases h
   simp only [Bool.false_eq_true,if_false]
   by_cases h2:256<l.length
   ·rw [if_pos h2]
    exact ⟨fun h=>by omega,fun ⟨_,h⟩=>by omega⟩
   ·rw [if_neg h2]
    exact ⟨fun _=>⟨h1,by omega⟩,fun _=>rfl⟩
theorem may_is (l:List Bk):may l=0∨may l=1∨may l=7:=by
 unfold may
 split
 ·exact Or.inr (Or.inl rfl)
 ·split
  ·exact Or.inr (Or.inr rfl)
  ·exact Or.inl rfl
theorem St.doAll_snoc (S:St) (l:List Bk) (b:Bk):S.doAll (l++[b])=((S.doAll l).write b.f b.i b.b).2:=by
 unfold St.doAll
 rw [List.foldl_append]
 rfl
theorem St.doAll_take (S:St) (l:List Bk) (j:Nat) (h:j<l.length):S.doAll (l.take (j+1))=((S.doAll (l.take j)).write l[j].f l[j].i l[j].b).2:=by
 rw [List.take_succ_eq_append_getElem h,St.doAll_snoc]
def St.free (S:St):Prop:=S.out=false∧S.armed=false
theorem St.free.write {S:St} (h:S.free) (f:Fl) (i:Int) (b:List Int):(S.write f i b).2.free:=by
 obtain ⟨h1,h2⟩:=h
 unfold St.write
 split
 ·rw [h1]
  exact ⟨by simp [St.wrote,h2],h2⟩
 ·exact ⟨h1,h2⟩
theorem St.free.doAll {S:St} (h:S.free) (l:List Bk):(S.doAll l).free:=by
 induction l generalizing S with
 | nil=>exact h
 | cons b r ih=>exact ih (h.write b.f b.i b.b)
theorem write_few (S:St) (f:Fl) (i:Int) (b:List Int):(S.write f i b).2.l.length<=S.l.length+1∧(S.write f i b).2.writes<=S.writes+1:=by
 unfold St.write
 split
 ·split
  ·exact ⟨by simp,by simp only;omega⟩
  ·exact ⟨put_len _ _ _ _,Int.le_refl _⟩
 ·exact ⟨by simp,by simp only;omega⟩
theorem doAll_few (S:St) (l:List Bk):(S.doAll l).l.length<=S.l.length+l.length∧(S.doAll l).writes<=S.writes+l.length:=by
 induction l generalizing S with
 | nil=>exact ⟨Nat.le_refl _,by simp [St.doAll]⟩
 | cons b r ih =>
   have h1:=write_few S b.f b.i b.b
   have h2:=ih (S.write b.f b.i b.b).2
   have e:St.doAll S (b::r)=St.doAll (S.write b.f b.i b.b).2 r:=rfl
   rw [e]
   simp only [List.length_cons]
   omega
end
section
def byteAt (x:Int) (m:Nat):Int:=x/256 ^ m%256
def rowB (r:List Int):List Int:=(List.range 32).map fun i=>byteAt (r.getD (i/8) 0) (i%8)
def part (bs:List Int) (k:Nat):Nat->Int
 | 0=>0
 | m+1=>part bs k m+bs.getD (8*k+m) 0*256 ^ m
def sg (x:Int):Int:=(x+9223372036854775808)%18446744073709551616-9223372036854775808
def rowI (bs:List Int):List Int:=[sg (part bs 0 8),sg (part bs 1 8),sg (part bs 2 8),sg (part bs 3 8)]
theorem byteAt_bd (x:Int) (m:Nat):0<=byteAt x m∧byteAt x m<=255:=by unfold byteAt;omega
theorem rowB_len (r:List Int):(rowB r).length=32:=by simp [rowB]
theorem rowB_fit (r:List Int):∀ z∈rowB r,0<=z∧z<=255:=by
 intro z hz
 obtain ⟨i,_,rfl⟩:=List.mem_map.1 hz
 exact byteAt_bd _ _
theorem rowB_at (r:List Int) {i:Nat} (h:i<32):(rowB r).getD i 0=byteAt (r.getD (i/8) 0) (i%8):=by
 rw [List.getD_eq_getElem?_getD,List.getElem?_eq_getElem (by rw [rowB_len];exact h)]
 simp [rowB]
theorem emod_mul_ (x a b:Int) (ha:0<a) (hb:0<b):x%(a*b)=x%a+x/a%b*a:=by
 have h1:=Int.emod_add_mul_ediv x a
 have h2:=Int.emod_add_mul_ediv (x/a) b
 have h3:=Int.emod_nonneg x (by omega:a≠0)
 have h4:=Int.emod_lt_of_pos x ha
 have h5:=Int.emod_nonneg (x/a) (by omega:b≠0)
 have h6:=Int.emod_lt_of_pos (x/a) hb
 have e:x=(x%a+x/a%b*a)+(a*b)*(x/a/b):=by
  have h10:a*(x/a)=a*(x/a%b)+a*(b*(x/a/b)):=by rw [<- Int.mul_add,h2]
  rw [Int.mul_assoc a b,Int.mul_comm (x/a%b) a]
  omega
 have h7:x/a%b*a<=(b-1)*a:=Int.mul_le_mul_of_nonneg_right (by omega) (by omega)
 have h8:(b-1)*a=a*b-a:=by rw [Int.sub_mul,Int.mul_comm b a];omega
 have h9:0<=x/a%b*a:=Int.mul_nonneg h5 (by omega)
 generalize x/a%b*a=u at *
 generalize x%a=v at *
 rw [e,Int.add_mul_emod_self_left]
 exact Int.emod_eq_of_lt (by omega) (by omega)
theorem part_eq {bs:List Int} {k:Nat} {x:Int}:∀ m,m<=8->(∀ j,j<8->bs.getD (8*k+j) 0=byteAt x j)->part bs k m=x%256 ^ m
 | 0,_,_=>by simp [part]
 | m+1,hm,h=>by
   rw [part,part_eq m (by omega) h,h m (by omega),Int.pow_succ,emod_mul_ x (256 ^ m) 256 (Int.pow_pos (by omega)) (by omega)]
   rfl
theorem sg_id {x:Int} (h1 : -9223372036854775808<=x) (h2:x<=9223372036854775807):sg (x%256 ^ 8)=x:=by
 unfold sg
 have:(256:Int) ^ 8=18446744073709551616:=by decide
 rw [this]
 omega
theorem rowI_rowB {a b c d:Int} (ha : -9223372036854775808<=a∧a<=9223372036854775807) (hb : -9223372036854775808<=b∧b<=9223372036854775807) (hc : -9223372036854775808<=c∧c<=9223372036854775807) (hd : -9223372036854775808<=d∧d<=9223372036854775807):rowI (rowB [a,b,c,d])=[a,b,c,d]:=by
 have key:∀ k,k<4->part (rowB [a,b,c,d]) k 8=([a,b,c,d]:List Int).getD k 0%256 ^ 8:=fun k hk=>part_eq 8 (Nat.le_refl _) (fun j hj=>by
  rw [rowB_at _ (by omega),show (8*k+j)/8=k by omega,show (8*k+j)%8=j by omega])
 unfold rowI
 rw [key 0 (by decide),key 1 (by decide),key 2 (by decide),key 3 (by decide)]
 show [sg (a%256 ^ 8),sg (b%256 ^ 8),sg (c%256 ^ 8),sg (d%256 ^ 8)]=_
 rw [sg_id ha.1 ha.2,sg_id hb.1 hb.2,sg_id hc.1 hc.2,sg_id hd.1 hd.2]
theorem part_bd {bs:List Int} (h:∀ z∈bs,0<=z∧z<=255) (k:Nat):∀ m,0<=part bs k m∧part bs k m<256 ^ m
 | 0=>by simp [part]
 | m+1=>by
   have h1:=part_bd h k m
   have h2:0<=bs.getD (8*k+m) 0∧bs.getD (8*k+m) 0<=255:=by
    rw [List.getD_eq_getElem?_getD]
    cases e:bs[8*k+m]? with
    | none=>exact ⟨by decide,by decide⟩
    | some z=>exact h z (List.mem_of_getElem? e)
   have h3:(0:Int)<256 ^ m:=Int.pow_pos (by omega)
   have h4:0<=bs.getD (8*k+m) 0*256 ^ m:=Int.mul_nonneg h2.1 (by omega)
   have h5:bs.getD (8*k+m) 0*256 ^ m<=255*256 ^ m:=Int.mul_le_mul_of_nonneg_right h2.2 (by omega)
   rw [part,Int.pow_succ]
   omega
def noughts:List Int:=List.replicate 32 0
theorem rowB_noughts:rowB [0,0,0,0]=noughts:=by decide
/-! ### the sum -/
def fnv (x c:Int):Int:=((x.toNat ^^^ c.toNat:Nat):Int)*16777619%4294967296
def sumL (zs:List Int):Int:=zs.foldl fnv 2166136261
theorem fnv_bd (x c:Int):0<=fnv x c∧fnv x c<=4294967295:=by unfold fnv;omega
theorem foldl_bd (zs:List Int) (x:Int) (h:0<=x∧x<=4294967295):0<=zs.foldl fnv x∧zs.foldl fnv x<=4294967295:=by
 induction zs generalizing x with
 | nil=>exact h
 | cons z r ih=>exact ih _ (fnv_bd x z)
theorem sumL_bd (zs:List Int):0<=sumL zs∧sumL zs<=4294967295:=foldl_bd zs _ (by omega)
theorem sumL_succ (zs:List Int) (k:Nat) (hk:k<zs.length):sumL (zs.take (k+1))=fnv (sumL (zs.take k)) zs[k]:=by
 unfold sumL
 rw [List.take_succ_eq_append_getElem hk,List.foldl_append]
 rfl
end
section
abbrev J0:Fl:=(1,0,0)
def whereB (b:Bk):List Int:=rowB [b.f.1,b.f.2.1,b.f.2.2,b.i]
def notesL:List Bk->Nat->List Bk
 | [],_=>[]
 | b::r,k=>⟨J0,1+2*(k:Int),whereB b⟩::⟨J0,2+2*(k:Int),b.b⟩::notesL r (k+1)
def noteBytes (l:List Bk):List Int:=l.flatMap (·.b)
def headB (l:List Bk):List Int:=rowB [(l.length:Int),sumL (noteBytes (notesL l 0)),0,0]
def headK (l:List Bk):Bk:=⟨J0,0,headB l⟩
def endK:Bk:=⟨J0,0,noughts⟩
def groupAll (l:List Bk):List Bk:=notesL l 0++headK l::(l++[endK])
def BkOk (b:Bk):Prop:=(-9223372036854775808<=b.f.1∧b.f.1<=9223372036854775807)∧(-9223372036854775808<=b.f.2.1∧b.f.2.1<=9223372036854775807)∧(-9223372036854775808<=b.f.2.2∧b.f.2.2<=9223372036854775807)∧(-9223372036854775808<=b.i∧b.i<=9223372036854775807)
def hdB (L:List Bk):List Int:=(has L J0 0).getD noughts
def Shows (L V:List Bk):Prop:=(∀ f i,f.1≠1->has L f i=has V f i)∧∀ b∈L,b.f.1=1->b.f=(1,0,0)
def Idle (L V:List Bk):Prop:=hdB L=noughts∧Shows L V
structure Pend (L l:List Bk):Prop where
 pos:l≠[]
 len:l.length<=256
 good:∀ b∈l,badB b=false
 ok:∀ b∈l,BkOk b
 head:has L J0 0=some (headB l)
 notes:∀ k (h:k<l.length),has L J0 (1+2*(k:Int))=some (whereB l[k])∧has L J0 (2+2*(k:Int))=some l[k].b
def RecL (L V:List Bk):Prop:=Idle L V∨∃ l,Pend L l∧Shows (doAll L l) V
theorem doAll_app (L a b:List Bk):doAll L (a++b)=doAll (doAll L a) b:=by unfold doAll;rw [List.foldl_append]
theorem doAll_cons (L:List Bk) (b:Bk) (r:List Bk):doAll L (b::r)=doAll (put L b.f b.i b.b) r:=rfl
theorem has_doAll_other {l:List Bk} {f:Fl} {i:Int} (h:∀ b∈l,¬ (b.f=f∧b.i=i)):∀ L,has (doAll L l) f i=has L f i:=by
 induction l with
 | nil=>intro L;rfl
 | cons b r ih =>
   intro L
   rw [doAll_cons,ih (fun x hx=>h x (List.mem_cons_of_mem _ hx)),has_put_other _ _ _ _ _ _ (h b (List.mem_cons_self ..))]
theorem has_doAll_same {l:List Bk} {f:Fl} {i:Int} (h:∃ b∈l,b.f=f∧b.i=i):∀ L L',has (doAll L l) f i=has (doAll L' l) f i:=by
 induction l with
 | nil=>obtain ⟨b,hb,_⟩:=h;cases hb
 | cons b r ih =>
   intro L L'
   rw [doAll_cons,doAll_cons]
   by_cases hr:∃ x∈r,x.f=f∧x.i=i
   ·exact ih hr _ _
   ·have hn:∀ x∈r,¬ (x.f=f∧x.i=i):=fun x hx he=>hr ⟨x,hx,he⟩
    rw [has_doAll_other hn,has_doAll_other hn]
    obtain ⟨x,hx,he⟩:=h
    rcases List.mem_cons.1 hx with rfl | hx
    ·obtain ⟨rfl,rfl⟩:=he
     rw [has_put_same,has_put_same]
    ·exact absurd he (hn x hx)
theorem mem_done {L l:List Bk} {b:Bk} (h:b∈doAll L l):b∈L∨∃ x∈l,b.f=x.f:=by
 induction l generalizing L with
 | nil=>exact Or.inl h
 | cons x r ih =>
   rw [doAll_cons] at h
   rcases ih h with h | ⟨y,hy,e⟩
   ·rcases mem_put h with h | rfl
    ·exact Or.inl h
    ·exact Or.inr ⟨x,List.mem_cons_self ..,rfl⟩
   ·exact Or.inr ⟨y,List.mem_cons_of_mem _ hy,e⟩
theorem Shows.own {L V js:List Bk} (h:Shows L V) (hj:∀ b∈js,b.f=J0):Shows (doAll L js) V:=by
 refine ⟨fun f i hf=>?_,fun b hb hf=>?_⟩
 ·rw [has_doAll_other (fun b hb he=>hf (by rw [<- he.1,hj b hb]))]
  exact h.1 f i hf
 ·rcases mem_done hb with hb | ⟨x,hx,e⟩
  ·exact h.2 b hb hf
  ·rw [e,hj x hx]
theorem Shows.both {L V l:List Bk} (h:Shows L V) (hl:∀ b∈l,badB b=false):Shows (doAll L l) (doAll V l):=by
 refine ⟨fun f i hf=>?_,fun b hb hf=>?_⟩
 ·by_cases hx:∃ b∈l,b.f=f∧b.i=i
  ·exact has_doAll_same hx _ _
  ·have hn:∀ x∈l,¬ (x.f=f∧x.i=i):=fun x hx' he=>hx ⟨x,hx',he⟩
   rw [has_doAll_other hn,has_doAll_other hn]
   exact h.1 f i hf
 ·rcases mem_done hb with hb | ⟨x,hx,e⟩
  ·exact h.2 b hb hf
  ·exact absurd (e▸hf) (badB_false.1 (hl x hx)).1
theorem Shows.twice {L V l k:List Bk} (h:Shows (doAll L l) V) (hk:∀ b∈k,b∈l) (hl:∀ b∈l,badB b=false):Shows (doAll (doAll L k) l) V:=by
 refine ⟨fun f i hf=>?_,fun b hb hf=>?_⟩
 ·rw [<- h.1 f i hf]
  by_cases hx:∃ b∈l,b.f=f∧b.i=i
  ·exact has_doAll_same hx _ _
  ·have hn:∀ x∈l,¬ (x.f=f∧x.i=i):=fun x hx' he=>hx ⟨x,hx',he⟩
   rw [has_doAll_other hn,has_doAll_other hn,has_doAll_other (fun x hx'=>hn x (hk x hx'))]
 ·rcases mem_done hb with hb | ⟨x,hx,e⟩
  ·rcases mem_done hb with hb | ⟨x,hx,e⟩
   ·by_cases hx:∃ y∈doAll L l,y.f=b.f∧y.i=b.i
    ·obtain ⟨y,hy,e,_⟩:=hx
     rw [<- e]
     exact h.2 y hy (by rw [e];exact hf)
    ·exfalso
     have h1:has (doAll L l) b.f b.i=none:=by
      rw [has_none]
      intro hm
      obtain ⟨y,hy,e⟩:=List.mem_map.1 hm
      simp only [Prod.mk.injEq] at e
      exact hx ⟨y,hy,e⟩
     have h2:has L b.f b.i≠none:=by
      rw [Ne,has_none,Classical.not_not]
      exact List.mem_map.2 ⟨b,hb,rfl⟩
     rw [has_doAll_other (fun y hy he=>(badB_false.1 (hl y hy)).1 (by rw [he.1];exact hf))] at h1
     exact h2 h1
   ·exact absurd (e▸hf) (badB_false.1 (hl x (hk x hx))).1
  ·exact absurd (e▸hf) (badB_false.1 (hl x hx)).1
theorem has_own {L l:List Bk} (hl:∀ b∈l,badB b=false) (i:Int):has (doAll L l) J0 i=has L J0 i :=
 has_doAll_other (fun b hb he=>(badB_false.1 (hl b hb)).1 (by rw [he.1])) L
theorem Pend.over {L l k:List Bk} (h:Pend L l) (hk:∀ b∈k,badB b=false):Pend (doAll L k) l :=
 ⟨h.pos,h.len,h.good,h.ok,(has_own hk 0).trans h.head,fun j hj=>⟨(has_own hk _).trans (h.notes j hj).1,(has_own hk _).trans (h.notes j hj).2⟩⟩
theorem notes_file {l:List Bk} {k:Nat}:∀ b∈notesL l k,b.f=J0∧1+2*(k:Int)<=b.i∧b.i<1+2*((k+l.length:Nat):Int):=by
 induction l generalizing k with
 | nil=>intro b hb;cases hb
 | cons x r ih =>
   intro b hb
   simp only [notesL,List.mem_cons] at hb
   rcases hb with rfl | rfl | hb
   ·exact ⟨rfl,by simp only;omega,by simp only [List.length_cons];omega⟩
   ·exact ⟨rfl,by simp only;omega,by simp only [List.length_cons];omega⟩
   ·have:=ih b hb
    exact ⟨this.1,by omega,by simp only [List.length_cons];omega⟩
theorem notes_len (l:List Bk):∀ k,(notesL l k).length=2*l.length:=by
 induction l with
 | nil=>intro k;rfl
 | cons x r ih =>
   intro k
   simp only [notesL,List.length_cons,ih]
   omega
theorem notes_stand (l:List Bk):∀ (k:Nat) (L:List Bk) (j:Nat) (h:j<l.length),has (doAll L (notesL l k)) J0 (1+2*((k+j:Nat):Int))=some (whereB l[j])∧has (doAll L (notesL l k)) J0 (2+2*((k+j:Nat):Int))=some l[j].b:=by
 induction l with
 | nil=>intro k L j h;cases h
 | cons x r ih =>
   intro k L j h
   simp only [notesL,doAll_cons]
   cases j with
   | zero =>
     have hn:∀ i:Int,i<3+2*(k:Int)->∀ b∈notesL r (k+1),¬ (b.f=J0∧b.i=i):=fun i hi b hb he=>by
      have:=notes_file b hb
      omega
     rw [has_doAll_other (hn _ (by omega)),has_doAll_other (hn _ (by omega))]
     constructor
     ·rw [has_put_other _ _ _ _ _ _ (by intro he;have:=he.2;omega)]
      exact has_put_same _ _ _ _
     ·exact has_put_same _ _ _ _
   | succ j =>
     have:=ih (k+1) (put (put L J0 (1+2*(k:Int)) (whereB x)) J0 (2+2*(k:Int)) x.b) j (by simpa using h)
     rw [show k+1+j=k+(j+1) by omega] at this
     simpa using this
theorem hd_other {L js:List Bk} (h:∀ b∈js,b.i≠0∨b.f≠J0):hdB (doAll L js)=hdB L:=by
 unfold hdB
 rw [has_doAll_other (fun b hb he=>(h b hb).elim (fun x=>x he.2) (fun x=>x he.1))]
theorem hd_put (L:List Bk) (b:List Int):hdB (put L J0 0 b)=b:=by
 unfold hdB
 rw [has_put_same]
 rfl
theorem pend_new {L l:List Bk} (hp:l≠[]) (hm:may l=0) (hk:∀ b∈l,BkOk b):Pend (put (doAll L (notesL l 0)) J0 0 (headB l)) l:=by
 obtain ⟨h1,h2⟩:=may_ok.1 hm
 refine ⟨hp,h2,h1,hk,has_put_same _ _ _ _,fun j hj=>?_⟩
 have:=notes_stand l 0 L j hj
 rw [Nat.zero_add] at this
 rw [has_put_other _ _ _ _ _ _ (by intro he;have:=he.2;omega),has_put_other _ _ _ _ _ _ (by intro he;have:=he.2;omega)]
 exact this
theorem Shows.head {L V:List Bk} (h:Shows L V) (b:List Int):Shows (put L J0 0 b) V:=h.own (js:=[⟨J0,0,b⟩]) (fun x hx=>by rw [List.mem_singleton.1 hx])
theorem settle_cut {L V l:List Bk} (hP:Pend L l) (hV:Shows (doAll L l) V) (k:Nat):RecL (doAll L ((l++[endK]).take k)) V∧(l.length<k->Idle (doAll L ((l++[endK]).take k)) V):=by
 by_cases hk:k<=l.length
 ·rw [List.take_append_of_le_length hk]
  have hm:∀ b∈l.take k,b∈l:=fun b hb=>List.mem_of_mem_take hb
  exact ⟨Or.inr ⟨l,hP.over (fun b hb=>hP.good b (hm b hb)),hV.twice hm hP.good⟩,fun h=>by omega⟩
 ·have e:(l++[endK]).take k=l++[endK]:=List.take_of_length_le (by simp;omega)
  have hI:Idle (doAll L (l++[endK])) V:=by
   rw [doAll_app]
   exact ⟨hd_put _ _,hV.head _⟩
  rw [e]
  exact ⟨Or.inl hI,fun _=>hI⟩
theorem group_cut {L V l:List Bk} (hI:Idle L V) (hp:l≠[]) (hm:may l=0) (hk:∀ b∈l,BkOk b) (k:Nat) :
  (k<=2*l.length->RecL (doAll L ((groupAll l).take k)) V)∧(2*l.length<k->RecL (doAll L ((groupAll l).take k)) (doAll V l))∧((groupAll l).length<=k->Idle (doAll L ((groupAll l).take k)) (doAll V l)):=by
 have hn:=notes_len l 0
 unfold groupAll
 refine ⟨fun h=>?_,fun h=>?_,fun h=>?_⟩
 ·rw [List.take_append_of_le_length (by omega)]
  refine Or.inl ⟨?_,hI.2.own (fun b hb=>(notes_file b (List.mem_of_mem_take hb)).1)⟩
  rw [hd_other (fun b hb=>Or.inl (by have:=(notes_file b (List.mem_of_mem_take hb)).2.1;omega))]
  exact hI.1
 ·obtain ⟨m,rfl⟩:∃ m,k=(notesL l 0).length+(m+1):=⟨k-2*l.length-1,by omega⟩
  rw [List.take_length_add_append,List.take_succ_cons,doAll_app,doAll_cons]
  refine (settle_cut (pend_new hp hm hk) ?_ m).1
  exact ((hI.2.own (fun b hb=>(notes_file b hb).1)).head _).both (may_ok.1 hm).1
 ·obtain ⟨m,rfl⟩:∃ m,k=(notesL l 0).length+(m+1):=⟨k-2*l.length-1,by simp only [List.length_append,List.length_cons] at h;omega⟩
  rw [List.take_length_add_append,List.take_succ_cons,doAll_app,doAll_cons]
  refine (settle_cut (pend_new hp hm hk) ?_ m).2 (by simp only [List.length_append,List.length_cons,List.length_nil] at h;omega)
  exact ((hI.2.own (fun b hb=>(notes_file b hb).1)).head _).both (may_ok.1 hm).1
theorem St.doAll_out {S:St} (h:S.out=true) (l:List Bk) (hl:∀ b∈l,argOk b.i b.b.length):S.doAll l=S:=by
 induction l with
 | nil=>rfl
 | cons b r ih =>
   have e:S.doAll (b::r)=St.doAll (S.write b.f b.i b.b).2 r:=rfl
   rw [e]
   unfold St.write
   rw [if_pos (hl b (List.mem_cons_self ..)),if_pos h]
   exact ih (fun x hx=>hl x (List.mem_cons_of_mem _ hx))
theorem St.doAll_some {S:St} (l:List Bk) (hl:∀ b∈l,argOk b.i b.b.length):∃ k,k<=l.length∧(S.doAll l).l=Go.Proofs.YtlllmmceoeihkaaGreat.doAll S.l (l.take k)∧(S.doAll l).writes=S.writes+k∧((S.doAll l).out=false->k=l.length):=by
 induction l generalizing S with
 | nil=>exact ⟨0,Nat.le_refl _,rfl,by simp [St.doAll],fun _=>rfl⟩
 | cons b r ih =>
   by_cases h:S.out=true
   ·rw [St.doAll_out h _ hl]
    exact ⟨0,Nat.zero_le _,rfl,by simp,fun h'=>by rw [h] at h';cases h'⟩
   ·have e:S.doAll (b::r)=St.doAll (S.wrote b.f b.i b.b) r:=by
     show St.doAll (S.write b.f b.i b.b).2 r=_
     unfold St.write
     rw [if_pos (hl b (List.mem_cons_self ..)),if_neg h]
    rw [e]
    obtain ⟨k,h1,h2,h3,h4⟩:=ih (S:=S.wrote b.f b.i b.b) (fun x hx=>hl x (List.mem_cons_of_mem _ hx))
    refine ⟨k+1,by simp only [List.length_cons];omega,?_,?_,fun h'=>by simp only [List.length_cons];rw [h4 h']⟩
    ·rw [h2,List.take_succ_cons,doAll_cons]
     rfl
    ·rw [h3]
     show S.writes+1+(k:Int)=S.writes+((k+1:Nat):Int)
     omega
theorem groupAll_len (l:List Bk):(groupAll l).length=3*l.length+2:=by
 unfold groupAll
 simp only [List.length_append,List.length_cons,List.length_nil,notes_len]
 omega
theorem groupAll_arg {l:List Bk} (hm:may l=0):∀ b∈groupAll l,argOk b.i b.b.length:=by
 obtain ⟨h1,h2⟩:=may_ok.1 hm
 have hn:∀ (l:List Bk) (k:Nat),(∀ b∈l,badB b=false)->k+l.length<=256->∀ b∈notesL l k,argOk b.i b.b.length:=by
  intro l
  induction l with
  | nil=>intro k _ _ b hb;cases hb
  | cons x r ih =>
    intro k hg hle b hb
    simp only [notesL,List.mem_cons] at hb
    simp only [List.length_cons] at hle
    rcases hb with rfl | rfl | hb
    ·exact ⟨by simp only;omega,by simp only;omega,rowB_len _⟩
    ·exact ⟨by simp only;omega,by simp only;omega,(badB_false.1 (hg x (List.mem_cons_self ..))).2.2.2⟩
    ·exact ih (k+1) (fun y hy=>hg y (List.mem_cons_of_mem _ hy)) (by omega) b hb
 intro b hb
 unfold groupAll at hb
 simp only [List.mem_append,List.mem_cons,List.not_mem_nil,or_false] at hb
 rcases hb with hb | rfl | hb | rfl
 ·exact hn l 0 h1 (by omega) b hb
 ·exact ⟨Int.le_refl 0,show (0:Int)<4096 by decide,rowB_len _⟩
 ·exact (badB_false.1 (h1 b hb)).2
 ·exact ⟨by decide,by decide,by decide⟩
theorem settle_arg {L l:List Bk} (h:Pend L l):∀ b∈l++[endK],argOk b.i b.b.length:=by
 intro b hb
 rcases List.mem_append.1 hb with hb | hb
 ·exact (badB_false.1 (h.good b hb)).2
 ·rw [List.mem_singleton.1 hb]
  exact ⟨by decide,by decide,by decide⟩
end
end Go.Proofs.YtlllmmceoeihkaaGreat
