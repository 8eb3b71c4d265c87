/-
  The store, plainly: what the disk tells of chunks; edits by regions; what a Save leaves.
  The program's store: a chunk's region and slot; a slot's chunk.
-/
import Derived.Test.YtlllmmceoeihkaaGreatSa
import Derived.Test.YtlllmmceoeihkaaGreatSr
import Derived.Test.YtlllmmceoeihkaaGreatJSrcs
import Derived.Test.YtlllmmceoeihkaaGreatNhdr
import Derived.Test.YtlllmmceoeihkaaGreatJJmath
import Derived.Test.YtlllmmceoeihkaaGreatGwrites
import Derived.Test.YtlllmmceoeihkaaGreatDv
import Derived.Test.YtlllmmceoeihkaaGreatGfill
import Derived.Test.YtlllmmceoeihkaaGreatCl
import Derived.Deep.DeepCutAuto
set_option maxRecDepth 20000
namespace Go.Proofs.YtlllmmceoeihkaaGreat
abbrev Ed:=Int->Int->List Int
def encK (b:List Int):List Int:=if b=[] then [] else K.encL b
theorem encK_nil:encK []=[]:=rfl
def slotN (x z:Int):Nat:=(z%4*4+x%4).toNat
theorem slotN_lt (x z:Int):slotN x z<16:=by unfold slotN;omega
theorem slotN_int (x z:Int):(slotN x z:Int)=z%4*4+x%4:=by unfold slotN;omega
def ownX (X:Int) (i:Nat):Int:=X*4+((i%4:Nat):Int)
def ownZ (Z:Int) (i:Nat):Int:=Z*4+((i/4:Nat):Int)
theorem own_slot (x z:Int):ownX (x/4) (slotN x z)=x∧ownZ (z/4) (slotN x z)=z:=by
 have h:=slotN_int x z
 have h1:=slotN_lt x z
 unfold ownX ownZ
 generalize slotN x z=i at *
 omega
theorem slot_own {X Z:Int} {i:Nat} (hi:i<16):slotN (ownX X i) (ownZ Z i)=i∧ownX X i/4=X∧ownZ Z i/4=Z:=by
 unfold slotN ownX ownZ
 omega
theorem own_eq {X Z x z:Int} {i:Nat} (hi:i<16):(ownX X i=x∧ownZ Z i=z)↔(x/4=X∧z/4=Z∧i=slotN x z):=by
 constructor
 ·rintro ⟨rfl,rfl⟩
  obtain ⟨h1,h2,h3⟩:=slot_own (X:=X) (Z:=Z) hi
  exact ⟨h2,h3,h1.symm⟩
 ·rintro ⟨rfl,rfl,rfl⟩
  exact own_slot x z
def regD (E:Ed) (X Z:Int):List (List Int):=(List.range 16).map fun i=>encK (E (ownX X i) (ownZ Z i))
theorem regD_len (E:Ed) (X Z:Int):(regD E X Z).length=16:=by simp [regD]
theorem regD_at (E:Ed) (X Z:Int) {i:Nat} (hi:i<16):(regD E X Z).getD i []=encK (E (ownX X i) (ownZ Z i)):=by
 simp [regD,List.getD_eq_getElem?_getD,hi]
theorem regD_slot (E:Ed) (x z:Int):(regD E (x/4) (z/4)).getD (slotN x z) []=encK (E x z):=by
 rw [regD_at E _ _ (slotN_lt x z),(own_slot x z).1,(own_slot x z).2]
theorem regD_congr {E E':Ed} {X Z:Int} (h:∀ x z,x/4=X->z/4=Z->E x z=E' x z):regD E X Z=regD E' X Z:=by
 unfold regD
 refine List.map_congr_left (fun i hi=>?_)
 have hi:=List.mem_range.1 hi
 obtain ⟨_,h2,h3⟩:=slot_own (X:=X) (Z:=Z) hi
 rw [h _ _ h2 h3]
def Ed.put (E:Ed) (x z:Int) (b:List Int):Ed:=fun x' z'=>if x'=x∧z'=z then b else E x' z'
theorem regD_put (E:Ed) (x z:Int) (b:List Int):regD (E.put x z b) (x/4) (z/4)=(regD E (x/4) (z/4)).set (slotN x z) (encK b):=by
 apply List.ext_getElem
 ·simp [regD]
 ·intro i h1 h2
  have hi:i<16:=by simpa [regD] using h1
  rw [List.getElem_set]
  simp only [regD,List.getElem_map,List.getElem_range,Ed.put]
  by_cases e:slotN x z=i
  ·rw [if_pos e,if_pos ((own_eq hi).2 ⟨rfl,rfl,e.symm⟩)]
  ·rw [if_neg e,if_neg (fun h=>e ((own_eq hi).1 h).2.2.symm)]
def Reg (V:List Bk) (X Z:Int) (d:List (List Int)):Prop:=∃ sp,GoodR sp d∧OnD V ⟨X,Z,sp,d⟩
theorem Reg.open2 {V:List Bk} {X Z:Int} {d:List (List Int)} (h:Reg V X Z d):HdOk (headS V X Z)∧∃ sp,GoodR sp d∧OnD V ⟨X,Z,sp,d⟩∧rhoS V X Z=⟨X,Z,sp,d⟩:=by
 obtain ⟨sp,hG,hO⟩:=h
 obtain ⟨h1,h2⟩:=open_on (ρ:=⟨X,Z,sp,d⟩) hG hO
 exact ⟨h1,sp,hG,hO,h2⟩
theorem Reg.other {V V':List Bk} {X Z:Int} {d:List (List Int)} (h:Reg V X Z d) (he:∀ i,blk V' (2,X,Z) i=blk V (2,X,Z) i):Reg V' X Z d:=by
 obtain ⟨sp,hG,hO⟩:=h
 exact ⟨sp,hG,hO.other he⟩
structure Has (V:List Bk) (E:Ed):Prop where
 good:Good V
 reg:∀ X Z,Reg V X Z (regD E X Z)
def E0:Ed:=fun _ _=>[]
theorem good_sp0:GoodR sp0 dat0:=by
 refine ⟨rfl,rfl,fun k h h'=>.inl ⟨List.getElem_replicate ..,List.getElem_replicate ..⟩,fun i=>?_,fun b hb=>?_⟩
 ·rw [cnt_zero (fun s hs=>?_)]
  ·omega
  ·rw [List.eq_of_mem_replicate hs]
   simp only
   omega
 ·rw [List.eq_of_mem_replicate hb]
  intro z hz
  cases hz
theorem has_new:Has [] E0:=⟨fun b (hb:b∈[])=>absurd hb (by simp),fun X Z=>⟨sp0,by show GoodR sp0 dat0;exact good_sp0,on_blank (blank_nil _)⟩⟩
/-! ### edits -/
structure Eb where
 x:Int
 z:Int
 a:Option Addr
 n:Nat
 c:Nat
 b:List Int
def Eb.cells (e:Eb):List Int:=if Z.noneB e.b then [] else e.b
def Eb.dat (e:Eb):List Int:=if Z.noneB e.b then [] else K.encL e.b
def rgE (X Z:Int) (e:Eb):Bool:=decide (e.x/4=X∧e.z/4=Z)
def Eb.ok (e:Eb):Prop:=e.b.length=32768∧K.Kinds e.b
theorem Eb.dat_enc (e:Eb) (h:e.ok):encK e.cells=e.dat:=by
 unfold Eb.cells Eb.dat encK
 cases hb:Z.noneB e.b with
 | true=>rfl
 | false =>
   simp only [Bool.false_eq_true,if_false]
   rw [if_neg]
   intro hb
   have:=h.1
   rw [hb] at this
   cases this
def Eb.cs (e:Eb):Cs:=⟨(slotN e.x e.z:Int),e.dat⟩
def setE (E:Ed) (l:List Eb):Ed:=l.foldl (fun E e=>E.put e.x e.z e.cells) E
def Once (l:List Eb):Prop:=l.Pairwise fun a b=>¬ (a.x=b.x∧a.z=b.z)
theorem setE_other {l:List Eb}:∀ {E:Ed} {x z:Int},(∀ e∈l,¬ (e.x=x∧e.z=z))->setE E l x z=E x z:=by
 induction l with
 | nil=>intro E x z _;rfl
 | cons e r ih =>
   intro E x z h
   show setE (E.put e.x e.z e.cells) r x z=_
   rw [ih (fun q hq=>h q (List.mem_cons_of_mem _ hq))]
   unfold Ed.put
   rw [if_neg (fun q=>h e (by simp) ⟨q.1.symm,q.2.symm⟩)]
theorem setE_congr {l:List Eb}:∀ {E E':Ed} {x z:Int},E x z=E' x z->setE E l x z=setE E' l x z:=by
 induction l with
 | nil=>intro E E' x z h;exact h
 | cons e r ih =>
   intro E E' x z h
   refine ih (E:=E.put e.x e.z e.cells) (E':=E'.put e.x e.z e.cells) ?_
   unfold Ed.put
   split
   ·rfl
   ·exact h
theorem setE_filter {X Z:Int}:∀ {l:List Eb} {E:Ed} {x z:Int},x/4=X->z/4=Z->setE E (l.filter (rgE X Z)) x z=setE E l x z
 | [],_,_,_,_,_=>rfl
 | e::r,E,x,z,hx,hz=>by
   by_cases h:rgE X Z e=true
   ·rw [List.filter_cons_of_pos h]
    exact setE_filter (E:=E.put e.x e.z e.cells) hx hz
   ·rw [List.filter_cons_of_neg h,setE_filter hx hz]
    refine setE_congr (l:=r) ?_
    show E x z=(if x=e.x∧z=e.z then e.cells else E x z)
    rw [if_neg]
    rintro ⟨rfl,rfl⟩
    exact h (decide_eq_true ⟨hx,hz⟩)
theorem slot_ne {X Z:Int} {a b:Eb} (ha:rgE X Z a=true) (hb:rgE X Z b=true) (h:¬ (a.x=b.x∧a.z=b.z)):slotN a.x a.z≠slotN b.x b.z:=fun e=>by
 have h1:=of_decide_eq_true ha
 have h2:=of_decide_eq_true hb
 have o1:=own_slot a.x a.z
 have o2:=own_slot b.x b.z
 rw [h1.1,h1.2,e] at o1
 rw [h2.1,h2.2] at o2
 exact h ⟨o1.1.symm.trans o2.1,o1.2.symm.trans o2.2⟩
theorem chg_edits {X Z:Int}:∀ {l:List Eb} {E:Ed} {had:List Nat},(∀ e∈l,rgE X Z e=true∧e.ok)->Once l->(∀ e∈l,slotN e.x e.z∉had)->chgAll (regD E X Z) had (l.map Eb.cs)=some (regD (setE E l) X Z)
 | [],_,_,_,_,_=>rfl
 | e::r,E,had,hl,ho,hh=>by
   obtain ⟨h1,h2⟩:=List.pairwise_cons.1 ho
   have he:=hl e (by simp)
   have hat:=of_decide_eq_true he.1
   have hs:=slotN_lt e.x e.z
   show chgAll (regD E X Z) had (e.cs::r.map Eb.cs)=_
   rw [chg_ok (c:=e.cs) ⟨by show (0:Int)<=(slotN e.x e.z:Int);omega,by show (slotN e.x e.z:Int)<16;omega,by show (slotN e.x e.z:Int).toNat∉had;rw [Int.toNat_natCast];exact hh e (by simp)⟩]
   have e1:(regD E X Z).set e.cs.s.toNat e.cs.b=regD (E.put e.x e.z e.cells) X Z:=by
    rw [<- hat.1,<- hat.2,regD_put,Eb.dat_enc e he.2]
    rfl
   have e2:e.cs.s.toNat=slotN e.x e.z:=Int.toNat_natCast _
   rw [e1,e2]
   refine chg_edits (fun q hq=>hl q (List.mem_cons_of_mem _ hq)) h2 (fun q hq=>?_)
   rw [List.mem_cons,not_or]
   exact ⟨fun h=>slot_ne (hl q (List.mem_cons_of_mem _ hq)).1 he.1 (fun k=>h1 q hq ⟨k.1.symm,k.2.symm⟩) h,hh q (List.mem_cons_of_mem _ hq)⟩
def fitR (E:Ed) (X Z:Int):Prop:=2+needAll (regD E X Z)<=40
theorem plan_edits {X Z:Int} {l:List Eb} {E:Ed} (hl:∀ e∈l,rgE X Z e=true∧e.ok) (ho:Once l):(fitR (setE E l) X Z->planS (regD E X Z) (l.map Eb.cs)=(0,regD (setE E l) X Z))∧(¬ fitR (setE E l) X Z->planS (regD E X Z) (l.map Eb.cs)=(11,[])):=by
 have h:=chg_edits (E:=E) (had:=[]) hl ho (fun _ _ h=>by cases h)
 unfold planS
 rw [h]
 exact ⟨fun (hf:2+needAll (regD (setE E l) X Z)<=40)=>by simp only;rw [if_pos hf],fun (hf:¬ 2+needAll (regD (setE E l) X Z)<=40)=>by simp only;rw [if_neg hf]⟩
/-! ### what is written -/
structure Pg where
 X:Int
 Z:Int
 d':List (List Int)
 ps:List Pb
def Pg.file (g:Pg):Fl:=(2,g.X,g.Z)
structure PgOk (V:List Bk) (g:Pg):Prop where
 ok:PsOk g.ps
 put:∃ sp d sp',OnD V ⟨g.X,g.Z,sp,d⟩∧GoodR sp' g.d'∧∀ L,Good L->OnD L ⟨g.X,g.Z,sp,d⟩->OnD (putAll g.file L g.ps) ⟨g.X,g.Z,sp',g.d'⟩
def Pg.bks (g:Pg):List Bk:=g.ps.map fun p=>⟨g.file,(p.i:Int),p.b⟩
def bksG (gs:List Pg):List Bk:=gs.flatMap Pg.bks
theorem doAll_append (V a b:List Bk):doAll V (a++b)=doAll (doAll V a) b:=by simp [doAll,List.foldl_append]
theorem doAll_bks (f:Fl):∀ (ps:List Pb) (L:List Bk),doAll L (ps.map fun p=>⟨f,(p.i:Int),p.b⟩)=putAll f L ps
 | [],_=>rfl
 | p::r,L=>doAll_bks f r (put L f (p.i:Int) p.b)
theorem PgOk.other {V V':List Bk} {g:Pg} (h:PgOk V g) (he:∀ i,blk V' g.file i=blk V g.file i):PgOk V' g:=by
 obtain ⟨ok,sp,d,sp',h1,h2,h3⟩:=h
 exact ⟨ok,sp,d,sp',h1.other he,h2,h3⟩
theorem put_all:∀ (gs:List Pg) (L:List Bk),Good L->gs.Pairwise (fun a b=>a.file≠b.file)->(∀ g∈gs,PgOk L g) ->
  Good (doAll L (bksG gs))∧(∀ f:Fl,(∀ g∈gs,g.file≠f)->∀ i,blk (doAll L (bksG gs)) f i=blk L f i)∧∀ g∈gs,Reg (doAll L (bksG gs)) g.X g.Z g.d'
 | [],L,hL,_,_=>⟨hL,fun _ _ _=>rfl,fun g hg=>by cases hg⟩
 | g :: r,L,hL,hp,hk=>by
   obtain ⟨hp1,hp2⟩:=List.pairwise_cons.1 hp
   have hg:=hk g (by simp)
   obtain ⟨sp,d,sp',h1,h2,h3⟩:=hg.put
   have e:doAll L (bksG (g::r))=doAll (putAll g.file L g.ps) (bksG r):=by
    show doAll L (g.bks++bksG r)=_
    rw [doAll_append]
    unfold Pg.bks
    rw [doAll_bks]
   rw [e]
   have hG:=Good.putAll (f:=g.file) g.ps hL hg.ok
   obtain ⟨i1,i2,i3⟩:=put_all r (putAll g.file L g.ps) hG hp2 (fun q hq=>(hk q (List.mem_cons_of_mem _ hq)).other (fun i=>blk_putAll_other (hp1 q hq) g.ps L i))
   refine ⟨i1,fun f hf i=>?_,fun q hq=>?_⟩
   ·rw [i2 f (fun q hq=>hf q (List.mem_cons_of_mem _ hq)) i,blk_putAll_other (hf g (by simp))]
   ·rcases List.mem_cons.1 hq with rfl | hq
    ·have:=h3 L hL h1
     exact ⟨sp',h2,this.other (fun i=>i2 q.file (fun t ht=>(hp1 t ht).symm) i)⟩
    ·exact i3 q hq
theorem save_has {V:List Bk} {E E':Ed} {gs:List Pg} (h:Has V E) (hp:gs.Pairwise (fun a b=>a.file≠b.file)) (hk:∀ g∈gs,PgOk V g∧g.d'=regD E' g.X g.Z) (ho:∀ X Z,(∀ g∈gs,¬ (g.X=X∧g.Z=Z))->regD E' X Z=regD E X Z):Has (doAll V (bksG gs)) E':=by
 obtain ⟨i1,i2,i3⟩:=put_all gs V h.good hp (fun g hg=>(hk g hg).1)
 refine ⟨i1,fun X Z=>?_⟩
 by_cases hx:∃ g∈gs,g.X=X∧g.Z=Z
 ·obtain ⟨g,hg,rfl,rfl⟩:=hx
  have:=i3 g hg
  rwa [(hk g hg).2] at this
 ·rw [ho X Z (fun g hg e=>hx ⟨g,hg,e⟩)]
  refine (h.reg X Z).other (fun i=>i2 _ (fun g hg e=>hx ⟨g,hg,?_⟩) i)
  simp only [Pg.file,Prod.mk.injEq,true_and] at e
  exact e
theorem bks_ok {gs:List Pg} (hk:∀ g∈gs,PsOk g.ps):∀ b∈bksG gs,badB b=false:=by
 intro b hb
 obtain ⟨g,hg,hb⟩:=List.mem_flatMap.1 hb
 obtain ⟨p,hp,rfl⟩:=List.mem_map.1 hb
 have:=(hk g hg).ok p hp
 refine decide_eq_false ?_
 simp only [Pg.file]
 omega
theorem bks_len {gs:List Pg} (hk:∀ g∈gs,PsOk g.ps):(bksG gs).length<=gs.length*40:=by
 induction gs with
 | nil=>simp [bksG]
 | cons g r ih =>
   have h1:=ih (fun q hq=>hk q (List.mem_cons_of_mem _ hq))
   have h2:=hk g (by simp)
   have h3:=nodup_len 40 (g.ps.map (·.i)) h2.once (fun x hx=>by
    obtain ⟨p,hp,rfl⟩:=List.mem_map.1 hx
    exact (h2.ok p hp).1)
   have e:(bksG (g::r)).length=g.bks.length+(bksG r).length:=by
    show (g.bks++bksG r).length=_
    rw [List.length_append]
   rw [e,List.length_cons,Nat.succ_mul]
   simp only [Pg.bks,List.length_map] at h3 ⊢
   omega
theorem bks_may {gs:List Pg} (hk:∀ g∈gs,PsOk g.ps) (hl:gs.length<=6):may (bksG gs)=0:=by
 have h1:=bks_len hk
 exact may_ok.2 ⟨bks_ok hk,by omega⟩
/-! ### sums over slots -/
def sumN (f:Nat->Nat):Nat->Nat
 | 0=>0
 | n+1=>sumN f n+f n
theorem sumN_congr {f g:Nat->Nat}:∀ {n:Nat},(∀ i,i<n->f i=g i)->sumN f n=sumN g n
 | 0,_=>rfl
 | n+1,h=>by
   show sumN f n+f n=sumN g n+g n
   rw [sumN_congr (fun i hi=>h i (by omega)),h n (by omega)]
theorem sumN_add (f g:Nat->Nat):∀ n,sumN (fun i=>f i+g i) n=sumN f n+sumN g n
 | 0=>rfl
 | n+1=>by
   show sumN (fun i=>f i+g i) n+(f n+g n)=sumN f n+f n+(sumN g n+g n)
   rw [sumN_add f g n]
   omega
theorem sumN_zero {f:Nat->Nat}:∀ {n:Nat},(∀ i,i<n->f i=0)->sumN f n=0
 | 0,_=>rfl
 | n+1,h=>by
   show sumN f n+f n=0
   rw [sumN_zero (fun i hi=>h i (by omega)),h n (by omega)]
theorem sumN_one {a m:Nat}:∀ {n:Nat},a<n->sumN (fun i=>if i=a then m else 0) n=m
 | 0,h=>by omega
 | n+1,h=>by
   show sumN (fun i=>if i=a then m else 0) n+(if n=a then m else 0)=m
   by_cases e:n=a
   ·rw [if_pos e,sumN_zero (fun i hi=>if_neg (by omega))]
    omega
   ·rw [if_neg e,sumN_one (by omega)]
    rfl
theorem sum_range (f:Nat->Nat):∀ n,((List.range n).map f).sum=sumN f n
 | 0=>rfl
 | n+1=>by
   rw [List.range_succ,List.map_append,List.sum_append,sum_range f n]
   simp [sumN]
open Z in
def manyK (L:List Km) (x z:Int):Nat:=match L.find? (atK x z) with
 | none=>0
 | some k=>k.m
open Z in
def OnceK (L:List Km):Prop:=L.Pairwise fun a b=>¬ (a.x=b.x∧a.z=b.z)
open Z in
theorem manyK_cons (k:Km) (L:List Km) (x z:Int):manyK (k::L) x z=if k.x=x∧k.z=z then k.m else manyK L x z:=by
 unfold manyK
 by_cases h:k.x=x∧k.z=z
 ·rw [List.find?_cons_of_pos (by unfold atK;exact decide_eq_true h),if_pos h]
 ·rw [List.find?_cons_of_neg (by unfold atK;rw [decide_eq_true_iff];exact h),if_neg h]
open Z in
theorem manyK_none {L:List Km} {x z:Int} (h:∀ k∈L,¬ (k.x=x∧k.z=z)):manyK L x z=0:=by
 unfold manyK
 have:L.find? (atK x z)=none:=List.find?_eq_none.2 (fun k hk=>by unfold atK;rw [decide_eq_true_iff];exact h k hk)
 rw [this]
open Z in
theorem sumT_slots (x z:Int):∀ (L:List Km),OnceK L->sumT x z L=sumN (fun i=>if i=slotN x z then 0 else manyK L (ownX (x/4) i) (ownZ (z/4) i)) 16
 | [],_=>(sumN_zero (fun i _=>by split <;> rfl)).symm
 | k :: L,h=>by
   obtain ⟨h1,h2⟩:=List.pairwise_cons.1 h
   have ih:=sumT_slots x z L h2
   have hk0:manyK L k.x k.z=0:=manyK_none (fun q hq e=>h1 q hq ⟨e.1.symm,e.2.symm⟩)
   have e:∀ i,i<16->(if i=slotN x z then 0 else manyK (k::L) (ownX (x/4) i) (ownZ (z/4) i))=(if i=slotN x z then 0 else manyK L (ownX (x/4) i) (ownZ (z/4) i))+(if inR x z k then (if i=slotN k.x k.z then k.m else 0) else 0):=fun i hi=>by
    rw [manyK_cons]
    have ho:(k.x=ownX (x/4) i∧k.z=ownZ (z/4) i)↔(k.x/4=x/4∧k.z/4=z/4∧i=slotN k.x k.z):=by
     have:=own_eq (X:=x/4) (Z:=z/4) (x:=k.x) (z:=k.z) hi
     rw [<- this]
     exact ⟨fun q=>⟨q.1.symm,q.2.symm⟩,fun q=>⟨q.1.symm,q.2.symm⟩⟩
    by_cases hs:i=slotN x z
    ·rw [if_pos hs,if_pos hs]
     by_cases hr:inR x z k=true
     ·rw [if_pos hr,if_neg]
      intro hi2
      have hr2:=of_decide_eq_true hr
      have:=ho.2 ⟨hr2.2.1,hr2.2.2,hi2⟩
      rw [hs,(own_slot x z).1,(own_slot x z).2] at this
      exact hr2.1 this
     ·rw [if_neg hr]
    ·rw [if_neg hs,if_neg hs]
     by_cases hq:k.x=ownX (x/4) i∧k.z=ownZ (z/4) i
     ·rw [if_pos hq,<- hq.1,<- hq.2,hk0]
      obtain ⟨q1,q2,q3⟩:=ho.1 hq
      have hr:inR x z k=true:=decide_eq_true ⟨fun e=>hs (by rw [q3,e.1,e.2]),q1,q2⟩
      rw [if_pos hr,if_pos q3]
      omega
     ·rw [if_neg hq]
      by_cases hr:inR x z k=true
      ·have hr2:=of_decide_eq_true hr
       rw [if_pos hr,if_neg (fun h=>hq (ho.2 ⟨hr2.2.1,hr2.2.2,h⟩))]
       omega
      ·rw [if_neg hr]
       omega
   rw [sumN_congr e,sumN_add,<- ih]
   show (if inR x z k then k.m else 0)+sumT x z L=_
   by_cases hr:inR x z k=true
   ·simp only [hr,if_true]
    rw [sumN_one (slotN_lt _ _)]
    omega
   ·simp only [hr,Bool.false_eq_true,if_false]
    rw [sumN_zero (fun _ _=>rfl)]
    omega
theorem needAll_reg (E:Ed) (X Z:Int):needAll (regD E X Z)=sumN (fun i=>needS (encK (E (ownX X i) (ownZ Z i))).length) 16:=by
 unfold needAll regD
 rw [List.map_map,sum_range]
 rfl
theorem sumN_out (f:Nat->Nat) {a:Nat}:∀ {n:Nat},a<n->sumN f n=f a+sumN (fun i=>if i=a then 0 else f i) n
 | 0,h=>by omega
 | n+1,h=>by
   show sumN f n+f n=f a+(sumN (fun i=>if i=a then 0 else f i) n+(if n=a then 0 else f n))
   by_cases e:n=a
   ·subst e
    rw [if_pos rfl,sumN_congr (f:=fun i=>if i=n then 0 else f i) (g:=f) (fun i hi=>if_neg (by omega))]
    omega
   ·rw [if_neg e,sumN_out f (by omega:a<n)]
    omega
end Go.Proofs.YtlllmmceoeihkaaGreat
set_option maxRecDepth 20000
namespace Go.Proofs.YtlllmmceoeihkaaGreat
open Go.RowKit
theorem ndiv_c (a:Int) (h:I64 a) (w:World):Calls Tryz.prog 81 #[.int .i64 a,.int .i64 4] w fun e w'=>e = .returned (.int .i64 (a/4))∧w'=w:=D.div_hi a 4 w (by omega) (by omega) h.1 h.2
theorem nmod_c (a:Int) (h:I64 a) (w:World):Calls Tryz.prog 82 #[.int .i64 a,.int .i64 4] w fun e w'=>e = .returned (.int .i64 (a%4))∧w'=w:=D.mod_hi a 4 w (by omega) (by omega) h.1 h.2
theorem box_a (w:World) (x z:Int):Below w.heap.size w (w.alloc (.cells #[.int .i64 x,.int .i64 z] 39))∧(w.alloc (.cells #[.int .i64 x,.int .i64 z] 39)).heap[w.heap.size]?=some (.cells #[.int .i64 x,.int .i64 z] 39 (0,0)):=⟨(Below.refl _ _).alloc (Nat.le_refl _) _,heap_alloc_new w _⟩
theorem two_stored {w:World} {g:Nat} {a b:Value} {t:TypeId} (h:w.heap[g]?=some (.cells #[a,b] t (0,0))) (c d:Value):((w.setCell ⟨g,0,none⟩ c).setCell ⟨g,1,none⟩ d).heap[g]?=some (.cells #[c,d] t (0,0)):=by
 have h1:=heap_setCell_same w g 0 _ t c h
 have h2:=heap_setCell_same _ g 1 _ t d h1
 exact h2
set_option maxHeartbeats 2000000 in
theorem home_c (x z:Int) (hx:I64 x) (hz:I64 z) (w:World):Calls Tryz.prog 52 #[valA x z] w fun e w'=>e = .returned (.tuple #[valA (x/4) (z/4),.int .i64 (slotN x z:Int)])∧Below w.heap.size w w':=by
 rw [slotN_int]
 obtain ⟨Post,hPost⟩:∃ Post:Ending->World->Prop,Post=fun e w'=>e = .returned (.tuple #[valA (x/4) (z/4),.int .i64 (z%4*4+x%4)])∧Below w.heap.size w w':=⟨_,rfl⟩
 rw [<- hPost]
 have HP:Hid (∀ w',Below w.heap.size w w'->Post (.returned (.tuple #[.agg #[.int .i64 (x/4),.int .i64 (z/4)],.int .i64 (z%4*4+x%4)])) w'):=fun w' h=>by rw [hPost];exact ⟨rfl,h⟩
 clear hPost
 have HDv:Hid (∀ a,I64 a->∀ W,Calls Tryz.prog 81 #[.int .i64 a,.int .i64 4] W fun e w'=>e = .returned (.int .i64 (a/4))∧w'=W):=fun a h W=>ndiv_c a h W
 have HMd:Hid (∀ a,I64 a->∀ W,Calls Tryz.prog 82 #[.int .i64 a,.int .i64 4] W fun e w'=>e = .returned (.int .i64 (a%4))∧w'=W):=fun a h W=>nmod_c a h W
 have hx4:=Int.emod_nonneg x (show (4:Int)≠0 by omega)
 have hx5:=Int.emod_lt_of_pos x (show (0:Int)<4 by omega)
 have hz4:=Int.emod_nonneg z (show (4:Int)≠0 by omega)
 have hz5:=Int.emod_lt_of_pos z (show (0:Int)<4 by omega)
 have Hw:Hid (IntKind.i64.wrap (IntKind.i64.wrap (z%4*4)+x%4)=z%4*4+x%4):=by show _=_;rw [IntWalk.i64_in (z%4*4) (by omega),IntWalk.i64_in _ (by omega)]
 obtain ⟨hb0,k0⟩:=box_a w x z
 go_enter Tryz.func52,Tryz.ntmps52
 go_upto_region 1 with fail
 have hN:=heap_alloc_new (w.alloc (.cells #[.int .i64 x,.int .i64 z] 39)) (.cells #[.int .i64 0,.int .i64 0] 39)
 have hb1:Below w.heap.size w ((w.alloc (.cells #[.int .i64 x,.int .i64 z] 39)).alloc (.cells #[.int .i64 0,.int .i64 0] 39)):=hb0.alloc hb0.size _
 have hs1:(w.alloc (.cells #[.int .i64 x,.int .i64 z] 39)).heap.size=w.heap.size+1:=World.size_alloc _ _
 have k1:((w.alloc (.cells #[.int .i64 x,.int .i64 z] 39)).alloc (.cells #[.int .i64 0,.int .i64 0] 39)).heap[w.heap.size]?=some (.cells #[.int .i64 x,.int .i64 z] 39 (0,0)):=(((Below.refl _ _).alloc (Nat.le_refl _) _).block w.heap.size (by omega)).trans k0
 rw [hs1] at hN
 clear k0 hb0
 generalize (w.alloc (.cells #[.int .i64 x,.int .i64 z] 39)).alloc (.cells #[.int .i64 0,.int .i64 0] 39)=W1 at *
 go_cut [4] (fun v wc=>∃ b,v = .pointer (some ⟨b,0,none⟩)∧Hid (w.heap.size+1<b∧Z.Cls w.heap.size w [(b,.cells #[.int .i64 (x/4),.int .i64 (z/4)] 39 (0,0)),(w.heap.size,.cells #[.int .i64 x,.int .i64 z] 39 (0,0))] wc∧wc.heap[w.heap.size+1]?=some (.cells #[.int .i64 0,.int .i64 0] 39 (0,0))))
 case first =>
  refine Z.region_L (Z.Cls w.heap.size w [(w.heap.size,.cells #[.int .i64 x,.int .i64 z] 39 (0,0))]) 99 (by kernel_rfl) ?_
  have h_va:(Z.Cls w.heap.size w [(w.heap.size,.cells #[.int .i64 x,.int .i64 z] 39 (0,0))]) W1.drew:=(Z.Cls.more (bs:=[]) ⟨Nat.le_refl _,hb1,fun p hp=>by cases hp⟩ k1).drew
  have hN_r_va:W1.drew.heap[w.heap.size+1]?=some (.cells #[.int .i64 0,.int .i64 0] 39 (0,0)):=hN
  clear hb1 hN k1 hs1
  generalize W1.drew=va at *
  have hl_va:w.heap.size+1<va.heap.size:=(Array.getElem?_eq_some_iff.1 hN_r_va).1
  have hne:Nonempty (Z.Sub (Z.Cls w.heap.size w [(w.heap.size,.cells #[.int .i64 x,.int .i64 z] 39 (0,0))])):=⟨⟨_,h_va⟩⟩
  have q0:∀ s:Z.Sub (Z.Cls w.heap.size w [(w.heap.size,.cells #[.int .i64 x,.int .i64 z] 39 (0,0))]),s.w.cell? ⟨w.heap.size,0,none⟩=some (.int .i64 x):=fun s=>by rw [s.ok.cell (List.mem_of_getElem? (i:=0) rfl)];rfl
  have q1:∀ s:Z.Sub (Z.Cls w.heap.size w [(w.heap.size,.cells #[.int .i64 x,.int .i64 z] 39 (0,0))]),s.w.cell? ⟨w.heap.size,1,none⟩=some (.int .i64 z):=fun s=>by rw [s.ok.cell (List.mem_of_getElem? (i:=0) rfl)];rfl
  refine Z.gen_L (by intro d v c a w h;cases d <;> exact h) (fun QX HQP HQX=>?_)
  refine Z.tk 0 rfl HQP h_va fun K hK=>?_;go_simp;refine hK _ ?_;clear hK K
  refine Z.tk 1 rfl HQP h_va fun K hK=>?_;go_simp;refine hK _ ?_;clear hK K
  refine Z.tk 3 rfl HQP h_va fun K hK=>?_;go_simp;refine hK _ ?_;clear hK K
  refine Z.tk 4 rfl HQP h_va fun K hK=>?_;go_simp;refine hK _ ?_;clear hK K
  refine Z.two_L (i:=2) (j:=7) (by kernel_rfl) rfl rfl (fun K hK=>?_) (fun K hK=>?_)
  ·go_simp
   refine (HDv.out x hx _).mono ?_
   rintro _ wS ⟨rfl,hwS⟩
   replace hwS:=hwS.symm
   subst hwS
   refine hK.out _ _ (fun _=>h_va) ?_
   clear hK K
   refine Z.two_L (i:=5) (j:=7) (by kernel_rfl) rfl rfl (fun K hK=>?_) (fun K hK=>?_)
   ·go_simp
    refine (HDv.out z hz _).mono ?_
    rintro _ wS ⟨rfl,hwS⟩
    replace hwS:=hwS.symm
    subst hwS
    refine hK.out _ _ (fun _=>h_va) ?_
    clear hK K
    refine Z.tk 6 rfl HQP h_va fun K hK=>?_;go_simp;refine hK _ ?_;clear hK K
    refine Z.ol 7 rfl fun K hK=>?_
    go_simp
    have hN_in_v1:=heap_alloc_new va (.cells #[.int .i64 0,.int .i64 0] 39)
    have h_v1:=h_va.alloc (.cells #[.int .i64 0,.int .i64 0] 39)
    have hb_v1:Below va.heap.size va (va.alloc (.cells #[.int .i64 0,.int .i64 0] 39)):=(Below.refl _ _).alloc (Nat.le_refl _) _
    have hN_r_v1:(va.alloc (.cells #[.int .i64 0,.int .i64 0] 39)).heap[w.heap.size+1]?=some (.cells #[.int .i64 0,.int .i64 0] 39 (0,0)):=(hb_v1.block _ (Array.getElem?_eq_some_iff.1 hN_r_va).1).trans hN_r_va
    refine hK.out _ _ (fun _=>h_v1) ?_
    clear hK K
    generalize va.alloc (.cells #[.int .i64 0,.int .i64 0] 39)=v1 at *
    refine Z.ol 8 rfl fun K hK=>?_
    go_simp
    have e0:v1.cell? ⟨va.heap.size,0,none⟩=some (.int .i64 0):=by rw [cell_of_row v1 _ 0 _ 39 (0,0) hN_in_v1];rfl
    have e1:v1.cell? ⟨va.heap.size,1,none⟩=some (.int .i64 0):=by rw [cell_of_row v1 _ 1 _ 39 (0,0) hN_in_v1];rfl
    have f0:v1.frozen? ⟨va.heap.size,0,none⟩=false:=frozen_of_row v1 _ 0 _ 39 hN_in_v1
    have f1:v1.frozen? ⟨va.heap.size,1,none⟩=false:=frozen_of_row v1 _ 1 _ 39 hN_in_v1
    go_simp
    have hN_in_v2:=two_stored hN_in_v1 (.int .i64 (x/4)) (.int .i64 (z/4))
    have h_v2:=(h_v1.store (c:=va.heap.size) (by omega) (fun p hp=>by simp only [List.mem_singleton] at hp;subst hp;simp only;omega) 0 (.int .i64 (x/4))).store (c:=va.heap.size) (by omega) (fun p hp=>by simp only [List.mem_singleton] at hp;subst hp;simp only;omega) 1 (.int .i64 (z/4))
    have hN_r_v2:=(Below.heap_setCell (v1.setCell ⟨va.heap.size,0,none⟩ (.int .i64 (x/4))) ⟨va.heap.size,1,none⟩ (.int .i64 (z/4)) (w.heap.size+1) (by simp only;omega)).trans ((Below.heap_setCell v1 ⟨va.heap.size,0,none⟩ (.int .i64 (x/4)) (w.heap.size+1) (by simp only;omega)).trans hN_r_v1)
    refine hK.out _ _ (fun _=>h_v2) ?_
    clear hK K e0 e1 f0 f1
    generalize (v1.setCell ⟨va.heap.size,0,none⟩ (.int .i64 (x/4))).setCell ⟨va.heap.size,1,none⟩ (.int .i64 (z/4))=v2 at *
    refine Z.done_L (by kernel_rfl) ?_ _
    refine HQX.out _ _ ?_
    clear HQX HQP QX
    have hX:Hid _:=And.intro (show w.heap.size+1<va.heap.size by omega) (And.intro (h_v2.more hN_in_v2) hN_r_v2)
    clear hne q0 q1 hN_in_v2 hN_r_v2 h_v2 HP HMd
    go_wp2
    go_meet
    case rel=>exact ⟨_,rfl,hX.out⟩
   ·go_simp
    have hN_in_v3:=heap_alloc_new va (.cells #[.int .i64 0,.int .i64 0] 39)
    have h_v3:=h_va.alloc (.cells #[.int .i64 0,.int .i64 0] 39)
    have hb_v3:Below va.heap.size va (va.alloc (.cells #[.int .i64 0,.int .i64 0] 39)):=(Below.refl _ _).alloc (Nat.le_refl _) _
    have hN_r_v3:(va.alloc (.cells #[.int .i64 0,.int .i64 0] 39)).heap[w.heap.size+1]?=some (.cells #[.int .i64 0,.int .i64 0] 39 (0,0)):=(hb_v3.block _ (Array.getElem?_eq_some_iff.1 hN_r_va).1).trans hN_r_va
    refine hK.out _ _ (fun _=>h_v3) ?_
    clear hK K
    generalize va.alloc (.cells #[.int .i64 0,.int .i64 0] 39)=v3 at *
    refine Z.ol 5 rfl fun K hK=>?_
    go_simp
    refine (HDv.out z hz _).mono ?_
    rintro _ wS ⟨rfl,hwS⟩
    replace hwS:=hwS.symm
    subst hwS
    refine hK.out _ _ (fun _=>h_v3) ?_
    clear hK K
    refine Z.ol 6 rfl fun K hK=>?_
    go_simp
    refine hK.out _ _ (fun _=>h_v3) ?_
    clear hK K
    refine Z.ol 8 rfl fun K hK=>?_
    go_simp
    have e0:v3.cell? ⟨va.heap.size,0,none⟩=some (.int .i64 0):=by rw [cell_of_row v3 _ 0 _ 39 (0,0) hN_in_v3];rfl
    have e1:v3.cell? ⟨va.heap.size,1,none⟩=some (.int .i64 0):=by rw [cell_of_row v3 _ 1 _ 39 (0,0) hN_in_v3];rfl
    have f0:v3.frozen? ⟨va.heap.size,0,none⟩=false:=frozen_of_row v3 _ 0 _ 39 hN_in_v3
    have f1:v3.frozen? ⟨va.heap.size,1,none⟩=false:=frozen_of_row v3 _ 1 _ 39 hN_in_v3
    go_simp
    have hN_in_v4:=two_stored hN_in_v3 (.int .i64 (x/4)) (.int .i64 (z/4))
    have h_v4:=(h_v3.store (c:=va.heap.size) (by omega) (fun p hp=>by simp only [List.mem_singleton] at hp;subst hp;simp only;omega) 0 (.int .i64 (x/4))).store (c:=va.heap.size) (by omega) (fun p hp=>by simp only [List.mem_singleton] at hp;subst hp;simp only;omega) 1 (.int .i64 (z/4))
    have hN_r_v4:=(Below.heap_setCell (v3.setCell ⟨va.heap.size,0,none⟩ (.int .i64 (x/4))) ⟨va.heap.size,1,none⟩ (.int .i64 (z/4)) (w.heap.size+1) (by simp only;omega)).trans ((Below.heap_setCell v3 ⟨va.heap.size,0,none⟩ (.int .i64 (x/4)) (w.heap.size+1) (by simp only;omega)).trans hN_r_v3)
    refine hK.out _ _ (fun _=>h_v4) ?_
    clear hK K e0 e1 f0 f1
    generalize (v3.setCell ⟨va.heap.size,0,none⟩ (.int .i64 (x/4))).setCell ⟨va.heap.size,1,none⟩ (.int .i64 (z/4))=v4 at *
    refine Z.done_L (by kernel_rfl) ?_ _
    refine HQX.out _ _ ?_
    clear HQX HQP QX
    have hX:Hid _:=And.intro (show w.heap.size+1<va.heap.size by omega) (And.intro (h_v4.more hN_in_v4) hN_r_v4)
    clear hne q0 q1 hN_in_v4 hN_r_v4 h_v4 HP HMd
    go_wp2
    go_meet
    case rel=>exact ⟨_,rfl,hX.out⟩
  ·go_simp
   have hN_in_v5:=heap_alloc_new va (.cells #[.int .i64 0,.int .i64 0] 39)
   have h_v5:=h_va.alloc (.cells #[.int .i64 0,.int .i64 0] 39)
   have hb_v5:Below va.heap.size va (va.alloc (.cells #[.int .i64 0,.int .i64 0] 39)):=(Below.refl _ _).alloc (Nat.le_refl _) _
   have hN_r_v5:(va.alloc (.cells #[.int .i64 0,.int .i64 0] 39)).heap[w.heap.size+1]?=some (.cells #[.int .i64 0,.int .i64 0] 39 (0,0)):=(hb_v5.block _ (Array.getElem?_eq_some_iff.1 hN_r_va).1).trans hN_r_va
   refine hK.out _ _ (fun _=>h_v5) ?_
   clear hK K
   generalize va.alloc (.cells #[.int .i64 0,.int .i64 0] 39)=v5 at *
   refine Z.ol 2 rfl fun K hK=>?_
   go_simp
   refine (HDv.out x hx _).mono ?_
   rintro _ wS ⟨rfl,hwS⟩
   replace hwS:=hwS.symm
   subst hwS
   refine hK.out _ _ (fun _=>h_v5) ?_
   clear hK K
   refine Z.ol 5 rfl fun K hK=>?_
   go_simp
   refine (HDv.out z hz _).mono ?_
   rintro _ wS ⟨rfl,hwS⟩
   replace hwS:=hwS.symm
   subst hwS
   refine hK.out _ _ (fun _=>h_v5) ?_
   clear hK K
   refine Z.ol 6 rfl fun K hK=>?_
   go_simp
   refine hK.out _ _ (fun _=>h_v5) ?_
   clear hK K
   refine Z.ol 8 rfl fun K hK=>?_
   go_simp
   have e0:v5.cell? ⟨va.heap.size,0,none⟩=some (.int .i64 0):=by rw [cell_of_row v5 _ 0 _ 39 (0,0) hN_in_v5];rfl
   have e1:v5.cell? ⟨va.heap.size,1,none⟩=some (.int .i64 0):=by rw [cell_of_row v5 _ 1 _ 39 (0,0) hN_in_v5];rfl
   have f0:v5.frozen? ⟨va.heap.size,0,none⟩=false:=frozen_of_row v5 _ 0 _ 39 hN_in_v5
   have f1:v5.frozen? ⟨va.heap.size,1,none⟩=false:=frozen_of_row v5 _ 1 _ 39 hN_in_v5
   go_simp
   have hN_in_v6:=two_stored hN_in_v5 (.int .i64 (x/4)) (.int .i64 (z/4))
   have h_v6:=(h_v5.store (c:=va.heap.size) (by omega) (fun p hp=>by simp only [List.mem_singleton] at hp;subst hp;simp only;omega) 0 (.int .i64 (x/4))).store (c:=va.heap.size) (by omega) (fun p hp=>by simp only [List.mem_singleton] at hp;subst hp;simp only;omega) 1 (.int .i64 (z/4))
   have hN_r_v6:=(Below.heap_setCell (v5.setCell ⟨va.heap.size,0,none⟩ (.int .i64 (x/4))) ⟨va.heap.size,1,none⟩ (.int .i64 (z/4)) (w.heap.size+1) (by simp only;omega)).trans ((Below.heap_setCell v5 ⟨va.heap.size,0,none⟩ (.int .i64 (x/4)) (w.heap.size+1) (by simp only;omega)).trans hN_r_v5)
   refine hK.out _ _ (fun _=>h_v6) ?_
   clear hK K e0 e1 f0 f1
   generalize (v5.setCell ⟨va.heap.size,0,none⟩ (.int .i64 (x/4))).setCell ⟨va.heap.size,1,none⟩ (.int .i64 (z/4))=v6 at *
   refine Z.done_L (by kernel_rfl) ?_ _
   refine HQX.out _ _ ?_
   clear HQX HQP QX
   have hX:Hid _:=And.intro (show w.heap.size+1<va.heap.size by omega) (And.intro (h_v6.more hN_in_v6) hN_r_v6)
   clear hne q0 q1 hN_in_v6 hN_r_v6 h_v6 HP HMd
   go_wp2
   go_meet
   case rel=>exact ⟨_,rfl,hX.out⟩
 case rest =>
 obtain ⟨b,rfl,hX⟩:=hcut
 clear hb1 hN k1 hs1
 go_upto_region 2 with fail
 refine Z.region_L (Z.Cls w.heap.size w [(b,.cells #[.int .i64 (x/4),.int .i64 (z/4)] 39 (0,0)),(w.heap.size,.cells #[.int .i64 x,.int .i64 z] 39 (0,0))]) 99 (by kernel_rfl) ?_
 have h_vb:(Z.Cls w.heap.size w [(b,.cells #[.int .i64 (x/4),.int .i64 (z/4)] 39 (0,0)),(w.heap.size,.cells #[.int .i64 x,.int .i64 z] 39 (0,0))]) wc.drew:=hX.out.2.1.drew
 have hN_r_vb:wc.drew.heap[w.heap.size+1]?=some (.cells #[.int .i64 0,.int .i64 0] 39 (0,0)):=hX.out.2.2
 have hgb:=hX.out.1
 clear hX
 generalize wc.drew=vb at *
 have hl_vb:b<vb.heap.size:=(Array.getElem?_eq_some_iff.1 (h_vb.at_ _ (List.mem_cons_self))).1
 have hne:Nonempty (Z.Sub (Z.Cls w.heap.size w [(b,.cells #[.int .i64 (x/4),.int .i64 (z/4)] 39 (0,0)),(w.heap.size,.cells #[.int .i64 x,.int .i64 z] 39 (0,0))])):=⟨⟨_,h_vb⟩⟩
 have q0:∀ s:Z.Sub (Z.Cls w.heap.size w [(b,.cells #[.int .i64 (x/4),.int .i64 (z/4)] 39 (0,0)),(w.heap.size,.cells #[.int .i64 x,.int .i64 z] 39 (0,0))]),s.w.cell? ⟨b,0,none⟩=some (.int .i64 (x/4)):=fun s=>by rw [s.ok.cell (List.mem_of_getElem? (i:=0) rfl)];rfl
 have q1:∀ s:Z.Sub (Z.Cls w.heap.size w [(b,.cells #[.int .i64 (x/4),.int .i64 (z/4)] 39 (0,0)),(w.heap.size,.cells #[.int .i64 x,.int .i64 z] 39 (0,0))]),s.w.cell? ⟨b,1,none⟩=some (.int .i64 (z/4)):=fun s=>by rw [s.ok.cell (List.mem_of_getElem? (i:=0) rfl)];rfl
 have q2:∀ s:Z.Sub (Z.Cls w.heap.size w [(b,.cells #[.int .i64 (x/4),.int .i64 (z/4)] 39 (0,0)),(w.heap.size,.cells #[.int .i64 x,.int .i64 z] 39 (0,0))]),s.w.cell? ⟨w.heap.size,0,none⟩=some (.int .i64 x):=fun s=>by rw [s.ok.cell (List.mem_of_getElem? (i:=1) rfl)];rfl
 have q3:∀ s:Z.Sub (Z.Cls w.heap.size w [(b,.cells #[.int .i64 (x/4),.int .i64 (z/4)] 39 (0,0)),(w.heap.size,.cells #[.int .i64 x,.int .i64 z] 39 (0,0))]),s.w.cell? ⟨w.heap.size,1,none⟩=some (.int .i64 z):=fun s=>by rw [s.ok.cell (List.mem_of_getElem? (i:=1) rfl)];rfl
 refine Z.gen_L (by intro d v c a w h;cases d <;> exact h) (fun QX HQP HQX=>?_)
 refine Z.tk 0 rfl HQP h_vb fun K hK=>?_;go_simp;refine hK _ ?_;clear hK K
 refine Z.tk 1 rfl HQP h_vb fun K hK=>?_;go_simp;refine hK _ ?_;clear hK K
 refine Z.tk 2 rfl HQP h_vb fun K hK=>?_;go_simp;refine hK _ ?_;clear hK K
 refine Z.tk 5 rfl HQP h_vb fun K hK=>?_;go_simp;refine hK _ ?_;clear hK K
 refine Z.tk 6 rfl HQP h_vb fun K hK=>?_;go_simp;refine hK _ ?_;clear hK K
 refine Z.ol 3 rfl fun K hK=>?_
 go_simp
 refine (HMd.out z hz _).mono ?_
 rintro _ wS ⟨rfl,hwS⟩
 replace hwS:=hwS.symm
 subst hwS
 refine hK.out _ _ (fun _=>h_vb) ?_
 clear hK K
 refine Z.tk 4 rfl HQP h_vb fun K hK=>?_;go_simp;refine hK _ ?_;clear hK K
 refine Z.ol 7 rfl fun K hK=>?_
 go_simp
 refine (HMd.out x hx _).mono ?_
 rintro _ wS ⟨rfl,hwS⟩
 replace hwS:=hwS.symm
 subst hwS
 refine hK.out _ _ (fun _=>h_vb) ?_
 clear hK K
 refine Z.tk 8 rfl HQP h_vb fun K hK=>?_;go_simp;refine hK _ ?_;clear hK K
 refine Z.ol 9 rfl fun K hK=>?_
 go_simp
 have e0:vb.cell? ⟨w.heap.size+1,0,none⟩=some (.int .i64 0):=by rw [cell_of_row vb _ 0 _ 39 (0,0) hN_r_vb];rfl
 have e1:vb.cell? ⟨w.heap.size+1,1,none⟩=some (.int .i64 0):=by rw [cell_of_row vb _ 1 _ 39 (0,0) hN_r_vb];rfl
 have f0:vb.frozen? ⟨w.heap.size+1,0,none⟩=false:=frozen_of_row vb _ 0 _ 39 hN_r_vb
 have f1:vb.frozen? ⟨w.heap.size+1,1,none⟩=false:=frozen_of_row vb _ 1 _ 39 hN_r_vb
 go_simp
 have hN_r_v1:=two_stored hN_r_vb (.int .i64 (x/4)) (.int .i64 (z/4))
 have h_v1:=(h_vb.store (c:=w.heap.size+1) (by omega) (fun p hp=>by simp only [List.mem_cons,List.not_mem_nil,or_false] at hp;rcases hp with rfl | rfl <;> simp only <;> omega) 0 (.int .i64 (x/4))).store (c:=w.heap.size+1) (by omega) (fun p hp=>by simp only [List.mem_cons,List.not_mem_nil,or_false] at hp;rcases hp with rfl | rfl <;> simp only <;> omega) 1 (.int .i64 (z/4))
 refine hK.out _ _ (fun _=>h_v1) ?_
 clear hK K e0 e1 f0 f1
 generalize (vb.setCell ⟨w.heap.size+1,0,none⟩ (.int .i64 (x/4))).setCell ⟨w.heap.size+1,1,none⟩ (.int .i64 (z/4))=v1 at *
 refine Z.ol 10 rfl fun K hK=>?_
 go_simp
 refine hK.out _ _ (fun _=>h_v1) ?_
 clear hK K
 refine Z.done_L (by kernel_rfl) ?_ _
 refine HQX.out _ _ ?_
 clear HQX HQP QX
 have R:=HP.out v1 h_v1.bel
 rw [<- Hw.out] at R
 have hr:=hN_r_v1
 clear hne q0 q1 q2 q3 HP
 go_wp2
 exact bodyPost_ret (results_row_tmp (p:=2) (u:=3) (ty:=39) rfl _ _ _ _ _ _ _ rfl hr Tryz.underlying39 rfl (by kernel_rfl)) rfl R
set_option maxHeartbeats 2000000 in
theorem owner_c (X Y:Int) (i:Nat) (hX : -1099511627776<=X∧X<=1099511627776) (hZ : -1099511627776<=Y∧Y<=1099511627776) (hi:i<16) (w:World):Calls Tryz.prog 87 #[valA X Y,.int .i64 (i:Int)] w fun e w'=>e = .returned (valA (ownX X i) (ownZ Y i))∧Below w.heap.size w w':=by
 have ex:ownX X i=X*4+(i:Int)%4:=by unfold ownX;omega
 have ez:ownZ Y i=Y*4+(i:Int)/4:=by unfold ownZ;omega
 rw [ex,ez]
 clear ex ez
 obtain ⟨Post,hPost⟩:∃ Post:Ending->World->Prop,Post=fun e w'=>e = .returned (valA (X*4+(i:Int)%4) (Y*4+(i:Int)/4))∧Below w.heap.size w w':=⟨_,rfl⟩
 rw [<- hPost]
 have HP:Hid (∀ w',Below w.heap.size w w'->Post (.returned (.agg #[.int .i64 (IntKind.i64.wrap (IntKind.i64.wrap (X*4)+(i:Int)%4)),.int .i64 (IntKind.i64.wrap (IntKind.i64.wrap (Y*4)+(i:Int)/4))])) w'):=fun w' h=>by
  rw [hPost,IntWalk.i64_in (X*4) (by omega),IntWalk.i64_in (Y*4) (by omega),IntWalk.i64_in (X*4+_) (by omega),IntWalk.i64_in (Y*4+_) (by omega)]
  exact ⟨rfl,h⟩
 clear hPost
 have HDv:Hid (∀ W,Calls Tryz.prog 81 #[.int .i64 (i:Int),.int .i64 4] W fun e w'=>e = .returned (.int .i64 ((i:Int)/4))∧w'=W):=fun W=>ndiv_c _ ⟨by omega,by omega⟩ W
 have HMd:Hid (∀ W,Calls Tryz.prog 82 #[.int .i64 (i:Int),.int .i64 4] W fun e w'=>e = .returned (.int .i64 ((i:Int)%4))∧w'=W):=fun W=>nmod_c _ ⟨by omega,by omega⟩ W
 obtain ⟨hb0,k0⟩:=box_a w X Y
 clear hX hZ hi
 go_enter Tryz.func87,Tryz.ntmps87
 go_upto_region 1 with fail
 have hN:=heap_alloc_new (w.alloc (.cells #[.int .i64 X,.int .i64 Y] 39)) (.cells #[.int .i64 0,.int .i64 0] 39)
 have hb1:Below w.heap.size w ((w.alloc (.cells #[.int .i64 X,.int .i64 Y] 39)).alloc (.cells #[.int .i64 0,.int .i64 0] 39)):=hb0.alloc hb0.size _
 have hs1:(w.alloc (.cells #[.int .i64 X,.int .i64 Y] 39)).heap.size=w.heap.size+1:=World.size_alloc _ _
 have k1:((w.alloc (.cells #[.int .i64 X,.int .i64 Y] 39)).alloc (.cells #[.int .i64 0,.int .i64 0] 39)).heap[w.heap.size]?=some (.cells #[.int .i64 X,.int .i64 Y] 39 (0,0)):=(((Below.refl _ _).alloc (Nat.le_refl _) _).block w.heap.size (by omega)).trans k0
 rw [hs1] at hN
 clear k0 hb0
 generalize (w.alloc (.cells #[.int .i64 X,.int .i64 Y] 39)).alloc (.cells #[.int .i64 0,.int .i64 0] 39)=W1 at *
 refine Z.region_L (Z.Cls w.heap.size w [(w.heap.size,.cells #[.int .i64 X,.int .i64 Y] 39 (0,0))]) 99 (by kernel_rfl) ?_
 have h_va:(Z.Cls w.heap.size w [(w.heap.size,.cells #[.int .i64 X,.int .i64 Y] 39 (0,0))]) W1.drew:=(Z.Cls.more (bs:=[]) ⟨Nat.le_refl _,hb1,fun p hp=>by cases hp⟩ k1).drew
 have hN_r_va:W1.drew.heap[w.heap.size+1]?=some (.cells #[.int .i64 0,.int .i64 0] 39 (0,0)):=hN
 clear hb1 hN k1 hs1
 generalize W1.drew=va at *
 have hl_va:w.heap.size+1<va.heap.size:=(Array.getElem?_eq_some_iff.1 hN_r_va).1
 have hne:Nonempty (Z.Sub (Z.Cls w.heap.size w [(w.heap.size,.cells #[.int .i64 X,.int .i64 Y] 39 (0,0))])):=⟨⟨_,h_va⟩⟩
 have q0:∀ s:Z.Sub (Z.Cls w.heap.size w [(w.heap.size,.cells #[.int .i64 X,.int .i64 Y] 39 (0,0))]),s.w.cell? ⟨w.heap.size,0,none⟩=some (.int .i64 X):=fun s=>by rw [s.ok.cell (List.mem_of_getElem? (i:=0) rfl)];rfl
 have q1:∀ s:Z.Sub (Z.Cls w.heap.size w [(w.heap.size,.cells #[.int .i64 X,.int .i64 Y] 39 (0,0))]),s.w.cell? ⟨w.heap.size,1,none⟩=some (.int .i64 Y):=fun s=>by rw [s.ok.cell (List.mem_of_getElem? (i:=0) rfl)];rfl
 refine Z.gen_L (by intro d v c a w h;cases d <;> exact h) (fun QX HQP HQX=>?_)
 refine Z.tk 0 rfl HQP h_va fun K hK=>?_;go_simp;refine hK _ ?_;clear hK K
 refine Z.tk 1 rfl HQP h_va fun K hK=>?_;go_simp;refine hK _ ?_;clear hK K
 refine Z.tk 2 rfl HQP h_va fun K hK=>?_;go_simp;refine hK _ ?_;clear hK K
 refine Z.tk 3 rfl HQP h_va fun K hK=>?_;go_simp;refine hK _ ?_;clear hK K
 refine Z.tk 6 rfl HQP h_va fun K hK=>?_;go_simp;refine hK _ ?_;clear hK K
 refine Z.tk 7 rfl HQP h_va fun K hK=>?_;go_simp;refine hK _ ?_;clear hK K
 refine Z.tk 8 rfl HQP h_va fun K hK=>?_;go_simp;refine hK _ ?_;clear hK K
 refine Z.tk 9 rfl HQP h_va fun K hK=>?_;go_simp;refine hK _ ?_;clear hK K
 refine Z.ol 4 rfl fun K hK=>?_
 go_simp
 refine (HMd.out _).mono ?_
 rintro _ wS ⟨rfl,hwS⟩
 replace hwS:=hwS.symm
 subst hwS
 refine hK.out _ _ (fun _=>h_va) ?_
 clear hK K
 refine Z.tk 5 rfl HQP h_va fun K hK=>?_;go_simp;refine hK _ ?_;clear hK K
 refine Z.ol 10 rfl fun K hK=>?_
 go_simp
 refine (HDv.out _).mono ?_
 rintro _ wS ⟨rfl,hwS⟩
 replace hwS:=hwS.symm
 subst hwS
 refine hK.out _ _ (fun _=>h_va) ?_
 clear hK K
 refine Z.ol 11 rfl fun K hK=>?_
 go_simp
 refine hK.out _ _ (fun _=>h_va) ?_
 clear hK K
 refine Z.ol 12 rfl fun K hK=>?_
 go_simp
 refine hK.out _ _ (fun _=>h_va) ?_
 clear hK K
 refine Z.ol 13 rfl fun K hK=>?_
 go_simp
 have e0:va.cell? ⟨w.heap.size+1,0,none⟩=some (.int .i64 0):=by rw [cell_of_row va _ 0 _ 39 (0,0) hN_r_va];rfl
 have e1:va.cell? ⟨w.heap.size+1,1,none⟩=some (.int .i64 0):=by rw [cell_of_row va _ 1 _ 39 (0,0) hN_r_va];rfl
 have f0:va.frozen? ⟨w.heap.size+1,0,none⟩=false:=frozen_of_row va _ 0 _ 39 hN_r_va
 have f1:va.frozen? ⟨w.heap.size+1,1,none⟩=false:=frozen_of_row va _ 1 _ 39 hN_r_va
 go_simp
 have hN_r_v1:=two_stored hN_r_va (.int .i64 (IntKind.i64.wrap (IntKind.i64.wrap (X*4)+(i:Int)%4))) (.int .i64 (IntKind.i64.wrap (IntKind.i64.wrap (Y*4)+(i:Int)/4)))
 have h_v1:=(h_va.store (c:=w.heap.size+1) (by omega) (fun p hp=>by simp only [List.mem_singleton] at hp;subst hp;simp only;omega) 0 (.int .i64 (IntKind.i64.wrap (IntKind.i64.wrap (X*4)+(i:Int)%4)))).store (c:=w.heap.size+1) (by omega) (fun p hp=>by simp only [List.mem_singleton] at hp;subst hp;simp only;omega) 1 (.int .i64 (IntKind.i64.wrap (IntKind.i64.wrap (Y*4)+(i:Int)/4)))
 refine hK.out _ _ (fun _=>h_v1) ?_
 clear hK K e0 e1 f0 f1
 generalize (va.setCell ⟨w.heap.size+1,0,none⟩ (.int .i64 (IntKind.i64.wrap (IntKind.i64.wrap (X*4)+(i:Int)%4)))).setCell ⟨w.heap.size+1,1,none⟩ (.int .i64 (IntKind.i64.wrap (IntKind.i64.wrap (Y*4)+(i:Int)/4)))=v1 at *
 refine Z.done_L (by kernel_rfl) ?_ _
 refine HQX.out _ _ ?_
 clear HQX HQP QX
 have R:=HP.out v1 h_v1.bel
 have e0:v1.cell? ⟨w.heap.size+1,0,none⟩=some (.int .i64 (IntKind.i64.wrap (IntKind.i64.wrap (X*4)+(i:Int)%4))):=by rw [cell_of_row v1 _ 0 _ 39 (0,0) hN_r_v1];rfl
 have e1:v1.cell? ⟨w.heap.size+1,1,none⟩=some (.int .i64 (IntKind.i64.wrap (IntKind.i64.wrap (Y*4)+(i:Int)/4))):=by rw [cell_of_row v1 _ 1 _ 39 (0,0) hN_r_v1];rfl
 clear hne q0 q1 HP
 go_wp2
 exact bodyPost_ret (v:=.agg #[(.int .i64 (IntKind.i64.wrap (IntKind.i64.wrap (X*4)+(i:Int)%4))),(.int .i64 (IntKind.i64.wrap (IntKind.i64.wrap (Y*4)+(i:Int)/4)))]) (by simp [results,Tryz.results87,go_sem,e0,e1]) rfl R
end Go.Proofs.YtlllmmceoeihkaaGreat
