/-
  The document's store, plain: what it tells of a chunk.
  The document's store: May, Copy.
  The document's Save: what its steps leave.
  The document's store: Save.
  The program's store: Reserve.
-/
import Derived.Test.YtlllmmceoeihkaaGreatRv
import Derived.Test.YtlllmmceoeihkaaGreatPb
import Derived.Laws.AppendOwn
import Derived.Test.YtlllmmceoeihkaaGreatCl
import Derived.Deep.DeepCutAuto
set_option maxRecDepth 20000
namespace Go.Proofs.YtlllmmceoeihkaaGreat
open Go.RowKit
open Z (Km atK loadK plK needK)
def putK:List Km->Km->List Km
 | [],q=>[q]
 | k::r,q=>if atK q.x q.z k=true then q::r else k::putK r q
theorem putK_some {q:Km}:∀ {L:List Km} {k:Nat},L.findIdx? (atK q.x q.z)=some k->putK L q=L.set k q
 | [],k,h=>by cases h
 | p::r,k,h=>by
   unfold putK
   rw [List.findIdx?_cons] at h
   by_cases e:atK q.x q.z p=true
   ·rw [if_pos e] at h ⊢
    cases h
    rfl
   ·rw [if_neg e] at h ⊢
    cases hf:r.findIdx? (atK q.x q.z) with
    | none=>rw [hf] at h;cases h
    | some j =>
      rw [hf] at h
      cases h
      rw [putK_some hf]
      rfl
theorem putK_none {q:Km}:∀ {L:List Km},L.findIdx? (atK q.x q.z)=none->putK L q=L++[q]
 | [],_=>rfl
 | p::r,h=>by
   unfold putK
   rw [List.findIdx?_cons] at h
   by_cases e:atK q.x q.z p=true
   ·rw [if_pos e] at h;cases h
   ·rw [if_neg e] at h ⊢
    cases hf:r.findIdx? (atK q.x q.z) with
    | some j=>rw [hf] at h;cases h
    | none=>rw [putK_none hf];rfl
theorem atK_self (q:Km):atK q.x q.z q=true:=by simp [atK]
theorem atK_iff (x z:Int) (k:Km):atK x z k=true↔k.x=x∧k.z=z:=by simp [atK]
theorem find_putK (q:Km) (x z:Int):∀ L:List Km,(putK L q).find? (atK x z)=if x=q.x∧z=q.z then some q else L.find? (atK x z)
 | []=>by
   show ([q]:List Km).find? _=_
   by_cases e:x=q.x∧z=q.z
   ·rw [if_pos e,e.1,e.2,List.find?_cons_of_pos (atK_self q)]
   ·rw [if_neg e,List.find?_cons_of_neg (fun h=>e (by rw [atK_iff] at h;exact ⟨h.1.symm,h.2.symm⟩))]
 | p :: r=>by
   unfold putK
   by_cases e1:atK q.x q.z p=true
   ·rw [if_pos e1]
    rw [atK_iff] at e1
    by_cases e:x=q.x∧z=q.z
    ·rw [if_pos e,e.1,e.2,List.find?_cons_of_pos (atK_self q)]
    ·rw [if_neg e,List.find?_cons_of_neg (fun h=>e (by rw [atK_iff] at h;exact ⟨h.1.symm,h.2.symm⟩)),List.find?_cons_of_neg (fun h=>e (by rw [atK_iff] at h;exact ⟨h.1.symm.trans e1.1,h.2.symm.trans e1.2⟩))]
   ·rw [if_neg e1]
    by_cases e2:atK x z p=true
    ·rw [List.find?_cons_of_pos e2,List.find?_cons_of_pos e2,if_neg]
     intro e
     rw [e.1,e.2] at e2
     exact e1 e2
    ·rw [List.find?_cons_of_neg e2,List.find?_cons_of_neg e2,find_putK q x z r]
theorem loadK_put (L:List Km) (q:Km) (x z:Int):loadK (putK L q) x z=if x=q.x∧z=q.z then q.b else loadK L x z:=by
 unfold loadK
 rw [find_putK]
 by_cases e:x=q.x∧z=q.z
 ·rw [if_pos e,if_pos e]
 ·rw [if_neg e,if_neg e]
theorem manyK_put (L:List Km) (q:Km) (x z:Int):manyK (putK L q) x z=if x=q.x∧z=q.z then q.m else manyK L x z:=by
 unfold manyK
 rw [find_putK]
 by_cases e:x=q.x∧z=q.z
 ·rw [if_pos e,if_pos e]
 ·rw [if_neg e,if_neg e]
theorem putK_mem {q p:Km}:∀ {L:List Km},p∈putK L q->p=q∨p∈L
 | [],h=>.inl (List.mem_singleton.1 h)
 | k::r,h=>by
   unfold putK at h
   split at h
   ·rcases List.mem_cons.1 h with rfl | h
    ·exact .inl rfl
    ·exact .inr (List.mem_cons_of_mem _ h)
   ·rcases List.mem_cons.1 h with rfl | h
    ·exact .inr (by simp)
    ·exact (putK_mem h).imp id (List.mem_cons_of_mem _)
theorem putK_once {q:Km}:∀ {L:List Km},OnceK L->OnceK (putK L q)
 | [],_=>List.pairwise_singleton _ _
 | k::r,h=>by
   have h:=List.pairwise_cons.1 h
   unfold putK
   split
   ·rename_i e
    rw [atK_iff] at e
    exact List.pairwise_cons.2 ⟨fun p hp=>by rw [<- e.1,<- e.2];exact h.1 p hp,h.2⟩
   ·rename_i e
    refine List.pairwise_cons.2 ⟨fun p hp=>?_,putK_once h.2⟩
    rcases putK_mem hp with rfl | hp
    ·exact fun h=>e (by rw [atK_iff];exact h)
    ·exact h.1 p hp
theorem putK_len (q:Km):∀ L:List Km,(putK L q).length<=L.length+1
 | []=>Nat.le_refl _
 | k::r=>by
   have:=putK_len q r
   unfold putK
   split <;> simp <;> omega
def fixKm (k:Km):Km:={ k with m:=needK k.b }
theorem find_fix (x z:Int):∀ L:List Km,(L.map fixKm).find? (atK x z)=(L.find? (atK x z)).map fixKm
 | []=>rfl
 | k::r=>by
   have ih:=find_fix x z r
   have e:atK x z (fixKm k)=atK x z k:=rfl
   rw [List.map_cons,List.find?_cons,List.find?_cons,e]
   cases atK x z k with
   | true=>rfl
   | false=>exact ih
theorem loadK_fix (L:List Km) (x z:Int):loadK (L.map fixKm) x z=loadK L x z:=by
 unfold loadK
 rw [find_fix]
 cases L.find? (atK x z) <;> rfl
def ManyOk (L:List Km):Prop:=∀ x z,manyK L x z=needK (loadK L x z)
theorem fix_many (L:List Km):ManyOk (L.map fixKm):=fun x z=>by
 unfold manyK loadK
 rw [find_fix]
 cases L.find? (atK x z) with
 | none=>rfl
 | some k=>rfl
theorem fix_once {L:List Km} (h:OnceK L):OnceK (L.map fixKm):=List.pairwise_map.2 h
theorem put_many {L:List Km} (h:ManyOk L) {q:Km} (hq:q.m=needK q.b):ManyOk (putK L q):=fun x z=>by
 rw [manyK_put,loadK_put]
 split
 ·exact hq
 ·exact h x z
structure DocE (L:List Km) (E:Ed):Prop where
 once:OnceK L
 load:∀ x z,loadK L x z=E x z
theorem doc_nil:DocE [] E0:=⟨List.Pairwise.nil,fun _ _=>rfl⟩
theorem doc_fix {L:List Km} {E:Ed} (h:DocE L E):DocE (L.map fixKm) E:=⟨fix_once h.once,fun x z=>by rw [loadK_fix];exact h.load x z⟩
theorem doc_put {L:List Km} {E:Ed} (h:DocE L E) (q:Km):DocE (putK L q) (E.put q.x q.z q.b):=⟨putK_once h.once,fun x z=>by
 rw [loadK_put]
 unfold Ed.put
 rw [h.load]⟩
theorem need_enc {b:List Int} (h:b=[]∨Z.noneB b=false):needK b=needS (encK b).length:=by
 rcases h with rfl | h
 ·rfl
 ·unfold needK encK
  rw [h,if_neg (by decide),if_neg (by intro e;subst e;exact absurd h (by decide))]
  rfl
theorem ed_need {E:Ed} (h:EdOk E) (x z:Int):needK (E x z)=needS (encK (E x z)).length:=need_enc ((h x z).imp id (fun h=>h.2.2))
theorem sumK_fit {L:List Km} {E:Ed} (h:DocE L E) (hm:ManyOk L) (hE:EdOk E) (x z:Int):Z.sumK L x z (manyK L x z)<=40↔fitR E (x/4) (z/4):=by
 unfold fitR Z.sumK
 rw [needAll_reg,sumN_out _ (slotN_lt x z),sumT_slots x z L h.once,(own_slot x z).1,(own_slot x z).2]
 have e1:manyK L x z=needS (encK (E x z)).length:=by rw [hm,h.load,ed_need hE]
 have e2:sumN (fun i=>if i=slotN x z then 0 else manyK L (ownX (x/4) i) (ownZ (z/4) i)) 16=sumN (fun i=>if i=slotN x z then 0 else needS (encK (E (ownX (x/4) i) (ownZ (z/4) i))).length) 16:=sumN_congr (fun i _=>by
  split
  ·rfl
  ·rw [hm,h.load,ed_need hE])
 rw [e1,e2]
 omega
theorem sumK_res {L:List Km} {E:Ed} {R:Rf} (h:DocE L E) (hm:∀ x z,manyK L x z=manyR R E x z) (x z:Int) (N:Nat):Z.sumK L x z N=2+othN R E (x/4) (z/4) (slotN x z) 16+N:=by
 unfold Z.sumK othN
 rw [sumT_slots x z L h.once]
 have e2:sumN (fun i=>if i=slotN x z then 0 else manyK L (ownX (x/4) i) (ownZ (z/4) i)) 16=sumN (fun i=>if i=slotN x z then 0 else manyR R E (ownX (x/4) i) (ownZ (z/4) i)) 16:=sumN_congr (fun i _=>by
  split
  ·rfl
  ·rw [hm])
 rw [e2]
 omega
end Go.Proofs.YtlllmmceoeihkaaGreat
set_option maxRecDepth 20000
namespace Go.Proofs.YtlllmmceoeihkaaGreat
open Go.RowKit
open Z (Km RSt KRow Cz kcells kcell)
theorem smay6_c {w:World} {a:Option Addr} {c:Nat} {b:List Int} (h:Bytes w a b.length b) (hl:b.length=32768) (hk:K.Kinds b) :
  Calls Tryz.prog 42 #[.slice a (32768:Nat) c] w fun e w'=>e = .returned (.int .i64 0)∧w'=w:=by
 have HA:Hid (Bytes w a b.length b):=h
 have Hl:Hid (b.length=32768):=hl
 have HK:Hid (K.Kinds b):=hk
 have h32:((32768:Nat):Int)=32768:=rfl
 clear h hl hk
 go_enter Tryz.func42,Tryz.ntmps42
 go_wp2
 go_loopw [3] (fun vi wr=>∃ k:Nat,vi = .int .i64 (k:Int)∧k<=32768∧wr=w) (fun vi _=>32768-(intOf vi).toNat)
 case atStart=>exact ⟨0,rfl,Nat.zero_le _,rfl⟩
 case round =>
  obtain ⟨k,rfl,hk,hw⟩:=hrel
  subst hw
  by_cases hlt:k<32768
  ·have hlt':(k:Int)<32768:=by omega
   obtain ⟨g,off,y,rfl,hc,hy0,hy1,hkl,hyy⟩:=HA.out.get k (by rw [Hl.out];exact hlt)
   have hy16:¬ (16:Int)<y:=by
    have:=HK.out b[k] (List.getElem_mem hkl)
    rw [hyy]
    omega
   clear HA HK Hl hyy hkl
   go_wp2
   go_roundw
   case rel=>exact ⟨k+1,by go_num,by omega,trivial⟩
   case measure=>simp [intOf];omega
  ·obtain rfl:k=32768:=by omega
   clear HA HK Hl
   go_wp2
   go_ret
   exact ⟨rfl,rfl⟩
/-! ### Copy -/
theorem info103:(Tryz.prog.info? 103).map (fun i=>(i.zero,i.size,i.bytes))=some (some (.agg #[.int .i64 0,.int .i64 0,.slice none 0 0,.int .i64 0]),4,48):=by kernel_rfl
theorem wpList_append_kepts {w:World} {ops:Array Oper} {rest:List Oper} {o:Oper} {a:Act} {Q:Exit->Act->World->Prop} (hgd:o.guard=none) (s x:Operand)
  (ho:o.op = .call { callee:=.builtin .append,args := #[s,x],argTypes := #[32,32] }) (hs:a.eval s = .slice none 0 0)
  (B':Nat) (av:Option Addr) (cv:Nat) (L:List Km) (hx:a.eval x = .slice av L.length cv) (hR:KRow B' w av cv L) (hl2:L.length<=2000)
  (h:∀ av' cv' w',KRow w.heap.size w' av' cv' L->Below w.heap.size w w'->wpList Tryz.prog ops Q rest (a.put o.dst (.slice av' L.length cv')) w'):wpList Tryz.prog ops Q (o::rest) a w:=by
 obtain ⟨i,hi,hz0,hz1,hz2⟩:=info_parts info103
 have hown:w.ownsRow w.heap.size 103 4 (.slice none 0 0) 0 []:=World.ownsRow_nil w _ 103 4
 rcases hR.2 with ⟨e,h0⟩|⟨g,c',cur,e,_⟩
 ·simp only [Value.slice.injEq] at e
  obtain rfl:L=[]:=List.eq_nil_of_length_eq_zero h0
  obtain ⟨rfl,_,rfl⟩:=e
  refine wpList_append_own_none hgd s x 32 ho w.heap.size 103 i 4 Tryz.underlying32 hi _ _ _ hs hown hx ?_
  exact h none 0 w hown (Below.refl _ _)
 ·simp only [Value.slice.injEq] at e
  have e1:=e.1
  subst e1
  refine wpList_append_own w hgd s x 32 ho w.heap.size 103 i _ 4 48 Tryz.underlying32 hi hz0 hz1 hz2 rfl (by decide) _ _ _ hs hown ⟨g,0,none⟩ L.length cv (kcells L) hx (Z.kcells_len L) (fun j u hj=>hR.cells (g:=g) rfl j u hj) ?_ (by unfold maxLen;omega) (by omega) (Nat.le_refl _) ?_
  ·intro u hu
   unfold kcells at hu
   obtain ⟨p,_,hp⟩:=List.mem_flatMap.1 hu
   simp only [kcell,List.mem_cons,List.not_mem_nil,or_false] at hp
   rcases hp with rfl | rfl | rfl | rfl <;> rfl
  ·intro v' w' h1 h2 _
   have h1':w'.ownsRow w.heap.size 103 4 v' L.length (kcells L):=by
    have:=h1
    rwa [Nat.zero_add,List.nil_append] at this
   have e:∃ a' c',v' = .slice a' L.length c':=by
    rcases h1'.2 with ⟨hv,hn⟩|⟨g,cap,_,hv,_⟩
    ·exact ⟨none,0,by rw [hv,hn]⟩
    ·exact ⟨_,_,hv⟩
   obtain ⟨a',c',rfl⟩:=e
   exact h a' c' w' h1' (below_grown (Below.refl w.heap.size w) h2 (fun b e=>by cases e) (Nat.le_refl _))
theorem scopy_c {G:Nat->Prop} {B:Nat} {w:World} {r:Nat} {L:List Km} {av:Option Addr} {cv:Nat} (h:RSt G B w r L av cv) :
  Calls Tryz.prog 43 #[.pointer (some ⟨r,0,none⟩)] w fun e w'=>Below w.heap.size w w'∧∃ r' av' cv',e = .returned (.pointer (some ⟨r',0,none⟩))∧w.heap.size<=r'∧RSt (Gr G w w') w.heap.size w' r' L av' cv':=by
 obtain ⟨Post,hPost⟩:∃ Post:Ending->World->Prop,Post=fun e w'=>Below w.heap.size w w'∧∃ r' av' cv',e = .returned (.pointer (some ⟨r',0,none⟩))∧w.heap.size<=r'∧RSt (Gr G w w') w.heap.size w' r' L av' cv':=⟨_,rfl⟩
 rw [<- hPost]
 have HP:Hid (∀ av' cv' w1,KRow w.heap.size w1 av' cv' L->Below w.heap.size w w1->Post (.returned (.pointer (some ⟨w1.heap.size,0,none⟩))) (w1.alloc (.cells #[.slice av' L.length cv'] 34))):=fun av' cv' w1 h1 h2=>by
  have hal:Below w1.heap.size w1 (w1.alloc (.cells #[.slice av' L.length cv'] 34)):=(Below.refl _ _).alloc (Nat.le_refl _) _
  have hb:=h2.trans (hal.mono h2.size)
  have hz:(w1.alloc (.cells #[.slice av' L.length cv'] 34)).heap.size=w1.heap.size+1:=World.size_alloc ..
  rw [hPost]
  refine ⟨hb,w1.heap.size,av',cv',rfl,h2.size,heap_alloc_new w1 _,own_keep h1 (fun g _ hg _ _=>hal.block g (Array.getElem?_eq_some_iff.1 hg).1),fun k hk=>(h.by_ k hk).same (fun g e=>hb.block g (h.lt g (h.gb k hk g e))),.inr ⟨h2.size,by omega⟩,fun g e=>?_,fun k hk g e=>.inl (h.gb k hk g e),fun k hk=>hk.elim (fun h3=>Nat.lt_of_lt_of_le (h.lt k h3) hb.size) (fun h=>h.2),h.sz,h.mb,h.ky⟩
  subst e
  obtain ⟨cur,h3,h4,_⟩:=h1.blk
  exact .inr ⟨h4,by have:=(Array.getElem?_eq_some_iff.1 h3).1;omega⟩
 clear hPost
 have c0:=h.c0
 have HR:Hid (KRow B w av cv L):=h.row
 have HL:Hid (L.length<=2000):=h.sz
 clear h
 go_enter Tryz.func43,Tryz.ntmps43
 go_wp2_with (at_builtin;refine wpList_append_kepts rfl _ _ rfl rfl B av cv L rfl HR.out HL.out ?_;intro av' cv' w1 h1 h2;have R:=HP.out av' cv' w1 h1 h2;clear HP HR HL h1 h2 c0)
 exact R
/-! ### May -/
def samK (l:List Eb) (i:Nat):Prop:=∀ k j (hk:k<l.length) (hj:j<l.length),k<j->j<i->¬ (l[k].x=l[j].x∧l[k].z=l[j].z)
theorem sam_once {l:List Eb}:samK l l.length↔Once l:=by
 constructor
 ·intro h
  exact List.pairwise_iff_getElem.2 (fun i j hi hj hij=>h i j hi hj hij hj)
 ·intro h k j hk hj hkj _
  exact List.pairwise_iff_getElem.1 h k j hk hj hkj
set_option maxHeartbeats 1000000 in
theorem smay_c (a:Option Addr) (n c:Nat) (l:List Eb) (w:World) (hE:EdsAt w a l) (hl:l.length=n) (hn:n<=1000) (hok:∀ e∈l,e.ok∧e.n=32768) :
  Calls Tryz.prog 18 #[.slice a n c] w fun e w'=>Below w.heap.size w w'∧((e = .returned (.int .i64 0)∧Once l)∨(e = .returned (.int .i64 1)∧¬ Once l)):=by
 obtain ⟨Post,hPost⟩:∃ Post:Ending->World->Prop,Post=fun e w'=>Below w.heap.size w w'∧((e = .returned (.int .i64 0)∧Once l)∨(e = .returned (.int .i64 1)∧¬ Once l)):=⟨_,rfl⟩
 rw [<- hPost]
 have HT:Hid (∀ w',Below w.heap.size w w'->samK l n->Post (.returned (.int .i64 0)) w'):=fun w' h1 h2=>by rw [hPost];exact ⟨h1,.inl ⟨rfl,sam_once.1 (by rw [hl];exact h2)⟩⟩
 have HN:Hid (∀ w',Below w.heap.size w w'->(∀ k j (hk:k<l.length) (hj:j<l.length),k<j->l[k].x=l[j].x->l[k].z=l[j].z->Post (.returned (.int .i64 1)) w')):=fun w' h1 k j hk hj hkj h2 h3=>by
  rw [hPost]
  exact ⟨h1,.inr ⟨rfl,fun ho=>List.pairwise_iff_getElem.1 ho k j hk hj hkj ⟨h2,h3⟩⟩⟩
 clear hPost
 have HE:Hid (EdsAt w a l):=hE
 have Hl:Hid (l.length=n):=hl
 have Hok:Hid (∀ e∈l,e.ok∧e.n=32768):=hok
 clear hE hl hok
 go_enter Tryz.func18,Tryz.ntmps18
 go_wp2
 go_loopw [3,4,5] (fun iv fv kv wr=>∃ i:Nat,iv = .int .i64 (i:Int)∧i<=n∧Hid (Below w.heap.size w wr)∧Hid (samK l i)) (fun iv _ _ _=>n-(intOf iv).toNat)
 case atStart=>exact ⟨0,rfl,Nat.zero_le _,Below.refl _ _,fun k j hk hj h1 h2=>absurd h2 (by omega)⟩
 case round =>
  obtain ⟨i,rfl,hi,HB,HS⟩:=hrel
  by_cases hlt:i<n
  ·have hlt':(i:Int)<(n:Int):=by omega
   have hil:i<l.length:=by rw [Hl.out];exact hlt
   obtain ⟨b0,o0,rfl,hat⟩:=(HE.out.on HB.out) i hil
   have hki:=Hok.out _ (List.getElem_mem hil)
   have hm6:=smay6_c (c:=l[i].c) (b:=l[i].b) (a:=l[i].a) (w:=wr) (by have:=hat.by_;rwa [hki.2,<- hki.1.1] at this) hki.1.1 hki.1.2
   have c2:=hat.c2
   rw [hki.2] at c2
   have HXi:Hid (∃ e,e=l[i]):=⟨_,rfl⟩
   clear hat hki HXi
   go_wp2_with fail
   refine hm6.mono ?_
   clear hm6
   rintro _ w1 ⟨rfl,hwe⟩
   subst hwe
   clear c2
   obtain ⟨e,he⟩:∃ e,e=l[i]:=⟨_,rfl⟩
   obtain ⟨wo,hwo⟩:∃ wo:World,wo=w1:=⟨_,rfl⟩
   rw [<- hwo] at HB ⊢
   have He:Hid (e=l[i]):=he
   clear hwo w1 he
   go_wp2
   go_loopw [5] (fun kv wr=>∃ k:Nat,kv = .int .i64 (k:Int)∧k<=i∧Hid (Below w.heap.size w wr)∧Hid (∀ j (h:j<l.length),j<k->¬ (l[j].x=e.x∧l[j].z=e.z))) (fun kv _=>i-(intOf kv).toNat)
   case atStart=>exact ⟨0,rfl,Nat.zero_le _,HB.out,fun j _ hj=>absurd hj (by omega)⟩
   case round =>
    obtain ⟨k,rfl,hk,HB2,HJ⟩:=hrel
    by_cases hki:k<i
    ·have hki':(k:Int)<(i:Int):=by omega
     have hkl:k<l.length:=by omega
     obtain ⟨b1,o1,e1,hatk⟩:=(HE.out.on HB2.out) k hkl
     cases e1
     obtain ⟨b2,o2,e2,hati⟩:=(HE.out.on HB2.out) i hil
     cases e2
     have h0:=hatk.c0
     have h1:=hatk.c1
     have c0:=hati.c0
     have c1:=hati.c1
     rw [<- He.out] at c0 c1
     obtain ⟨q,hq⟩:∃ q,q=l[k]:=⟨_,rfl⟩
     rw [<- hq] at h0 h1
     have Hq:Hid (q=l[k]):=hq
     have HDr:Hid (∀ nq,Below w.heap.size w (wr.drewN nq)):=fun nq=>HB2.out.trans ((Z.below_drewN wr nq).mono HB2.out.size)
     clear hatk hati hq HE HB
     by_cases hx:q.x=e.x
     ·by_cases hz:q.z=e.z
      ·rw [hx] at h0
       rw [hz] at h1
       have R:∀ nq,Post (.returned (.int .i64 1)) (wr.drewN nq):=fun nq=>HN.out _ (HDr.out nq) k i hkl hil hki (by rw [<- Hq.out,<- He.out];exact hx) (by rw [<- Hq.out,<- He.out];exact hz)
       clear HT HN HB2 HJ HS Hl Hok He Hq HDr hx hz
       go_wp2
       go_big_quiet (fail)
       go_wp2
       exact R nq
      ·rw [hx] at h0
       have HNe:Hid (∀ j (h:j<l.length),j<k+1->¬ (l[j].x=e.x∧l[j].z=e.z)):=fun j hj hjk=>(by
        by_cases e:j=k
        ·subst e;rw [<- Hq.out];exact fun h=>hz h.2
        ·exact HJ.out j hj (by omega))
       clear HJ HB2
       go_wp2
       go_big_quiet (fail)
       go_wp2
       go_roundw
       case rel=>exact ⟨k+1,by go_num,by omega,HDr.out nq,HNe.out⟩
       case measure=>simp [intOf];omega
     ·have HNe:Hid (∀ j (h:j<l.length),j<k+1->¬ (l[j].x=e.x∧l[j].z=e.z)):=fun j hj hjk=>(by
       by_cases e:j=k
       ·subst e;rw [<- Hq.out];exact fun h=>hx h.1
       ·exact HJ.out j hj (by omega))
      clear HJ HB2
      go_wp2
      go_big_quiet (fail)
      go_wp2
      go_roundw
      case rel=>exact ⟨k+1,by go_num,by omega,HDr.out nq,HNe.out⟩
      case measure=>simp [intOf];omega
    ·obtain rfl:k=i:=by omega
     have HSn:Hid (samK l (k+1)):=fun j1 j2 h1 h2 h3 h4=>by
      by_cases e2:j2=k
      ·subst e2
       rw [<- He.out]
       exact HJ.out j1 h1 h3
      ·exact HS.out j1 j2 h1 h2 h3 (by omega)
     clear HJ HS HE HB
     go_wp2
     go_roundw
     case rel=>exact ⟨k+1,by go_num,by omega,HB2.out,HSn.out⟩
     case measure=>simp [intOf];omega
  ·obtain rfl:i=n:=by omega
   have R:=HT.out wr HB.out HS.out
   clear HT HN HE Hl Hok HB HS
   go_wp2
   exact R
end Go.Proofs.YtlllmmceoeihkaaGreat
set_option maxRecDepth 20000
namespace Go.Proofs.YtlllmmceoeihkaaGreat
open Go.RowKit
open Z (Km RSt KRow Cz kcells kcell needK)
def fixTo (i:Nat) (L:List Km):List Km:=(L.take i).map fixKm++L.drop i
theorem fixTo_zero (L:List Km):fixTo 0 L=L:=by simp [fixTo]
theorem fixTo_all (L:List Km):fixTo L.length L=L.map fixKm:=by simp [fixTo]
theorem fixTo_len (i:Nat) (L:List Km):(fixTo i L).length=L.length:=by simp [fixTo];omega
theorem fixTo_split {i:Nat} {L:List Km} (h:i<L.length):fixTo i L=(L.take i).map fixKm++L[i]::L.drop (i+1):=by
 unfold fixTo
 rw [<- List.drop_eq_getElem_cons h]
theorem fixTo_at {i:Nat} {L:List Km} (h:i<L.length) (h':i<(fixTo i L).length):(fixTo i L)[i]=L[i]:=by
 have hl:((L.take i).map fixKm).length=i:=by rw [List.length_map,List.length_take];omega
 simp only [fixTo_split h]
 rw [List.getElem_append_right (by omega)]
 simp only [hl,Nat.sub_self,List.getElem_cons_zero]
theorem fixTo_next {i:Nat} {L:List Km} (h:i<L.length):(fixTo i L).set i { L[i] with m:=needK L[i].b }=fixTo (i+1) L:=by
 have hl:((L.take i).map fixKm).length=i:=by rw [List.length_map,List.length_take];omega
 rw [fixTo_split h,List.set_append_right _ _ (by omega),hl,Nat.sub_self,List.set_cons_zero]
 unfold fixTo
 rw [List.take_succ_eq_append_getElem h,List.map_append,List.append_assoc]
 rfl
structure SV (G:Nat->Prop) (w wr:World) (r:Nat) (L:List Km) (av:Option Addr) (cv:Nat):Prop where
 bel:Below w.heap.size w wr
 st:RSt (Gr G w wr) w.heap.size wr r L av cv
 lo:w.heap.size<=r
section
variable {G:Nat->Prop} {w wr u:World} {r:Nat} {L:List Km} {av:Option Addr} {cv:Nat}
theorem SV.grow (h:SV G w wr r L av cv) (hs:wr.heap.size<=u.heap.size):(∀ k,Gr G w wr k->Gr G w u k)∧∀ k,Gr G w u k->k<u.heap.size :=
 ⟨fun _ hk=>hk.imp id (fun h1=>⟨h1.1,Nat.lt_of_lt_of_le h1.2 hs⟩),fun k hk=>hk.elim (fun h1=>Nat.lt_of_lt_of_le (h.st.lt k (.inl h1)) hs) (fun h1=>h1.2)⟩
theorem SV.on (h:SV G w wr r L av cv) (hb:Below wr.heap.size wr u):SV G w u r L av cv :=
 ⟨h.bel.trans (hb.mono h.bel.size),(h.st.on hb).more (h.grow hb.size).1 (h.grow hb.size).2,h.lo⟩
theorem SV.fix {i g:Nat} (h:SV G w wr r (fixTo i L) (some ⟨g,0,none⟩) cv) (hi:i<L.length):SV G w (wr.setCell ⟨g,i*4+3,none⟩ (.int .i64 (needK L[i].b:Int))) r (fixTo (i+1) L) (some ⟨g,0,none⟩) cv:=by
 have hl:i<(fixTo i L).length:=by rw [fixTo_len];exact hi
 obtain ⟨_,_,hg⟩:=h.st.row_block
 have h1:=h.st.setm hl (m:=needK L[i].b) (by have:=Z.needK_le L[i].b;omega)
 rw [fixTo_at hi hl,fixTo_next hi] at h1
 have hs:wr.heap.size<=(wr.setCell ⟨g,i*4+3,none⟩ (.int .i64 (needK L[i].b:Int))).heap.size:=by simp
 exact ⟨h.bel.setCell (p:=⟨g,i*4+3,none⟩) hg _,h1.more (h.grow hs).1 (h.grow hs).2,h.lo⟩
theorem SV.put {g:Nat} (h:SV G w wr r L (some ⟨g,0,none⟩) cv) {k:Nat} (hk:k<L.length) {q:Km} (hq:Cz wr q.a q.c q.b) (hqg:∀ p,q.a=some ⟨p,0,none⟩->w.heap.size<=p) (hm:q.m<=100000) (hky:Z.I64 q.x∧Z.I64 q.z):SV G w (Z.put4 wr g k q) r (L.set k q) (some ⟨g,0,none⟩) cv:=by
 obtain ⟨_,_,hg⟩:=h.st.row_block
 have hs:wr.heap.size<=(Z.put4 wr g k q).heap.size:=by rw [Z.put4_size];exact Nat.le_refl _
 have hqp:∀ p,q.a=some ⟨p,0,none⟩->Gr G w wr p:=fun p e=>.inr ⟨hqg p e,by
  rcases hq with ⟨_,h1,_⟩|⟨g',h1,_,_,_,_,h2⟩
  ·rw [h1] at e;cases e
  ·rw [h1] at e;cases e;exact h2.lt⟩
 refine ⟨?_,(h.st.setk hk hq hqp hm hky).more (h.grow hs).1 (h.grow hs).2,h.lo⟩
 exact (((h.bel.setCell (p:=⟨g,k*4,none⟩) hg _).setCell (p:=⟨g,k*4+1,none⟩) hg _).setCell (p:=⟨g,k*4+2,none⟩) hg _).setCell (p:=⟨g,k*4+3,none⟩) hg _
theorem SV.push (h:SV G w wr r L av cv) {q:Km} (hq:Cz wr q.a q.c q.b) (hqg:∀ p,q.a=some ⟨p,0,none⟩->w.heap.size<=p) (hm:q.m<=100000) (hky:Z.I64 q.x∧Z.I64 q.z) (hl:L.length<2000) {ga c':Nat}
  (hr:u.ownsRow w.heap.size 103 4 (.slice (some ⟨ga,0,none⟩) (L.length+1:Nat) c') (L.length+1) (kcells L++kcell q)) (hgr:wr.grownBy u (Value.ownBlock (.slice av L.length cv))) (hgu:ga<u.heap.size) :
  SV G w (u.setCell ⟨r,0,none⟩ (.slice (some ⟨ga,0,none⟩) (L.length+1:Nat) c')) r (L++[q]) (some ⟨ga,0,none⟩) c':=by
 have hb:Below w.heap.size w u:=below_grown h.bel hgr (fun b e=>(row_block_of h.st.row e).1) (Nat.le_refl _)
 have hs:wr.heap.size<=u.heap.size:=hgr.size
 have hr34:u.heap[r]?=some (.cells #[.slice av L.length cv] 34 (0,0)):=(grown_other h.st.row hgr (by decide) h.st.hd).trans h.st.hd
 have hrow:KRow w.heap.size u (some ⟨ga,0,none⟩) c' (L++[q]):=by
  unfold KRow
  rw [Z.kcells_append]
  simp only [List.length_append,List.length_cons,List.length_nil,Nat.zero_add]
  show u.ownsRow _ 103 4 _ _ (kcells L++(kcell q++[]))
  rw [List.append_nil]
  exact hr
 obtain ⟨cur,hcur,hga,_⟩:=hrow.blk
 have hrg:r≠ga:=fun e=>by rw [<- e,hr34] at hcur;simp at hcur
 have hs2:wr.heap.size<=(u.setCell ⟨r,0,none⟩ (.slice (some ⟨ga,0,none⟩) (L.length+1:Nat) c')).heap.size:=by simp;exact hs
 have h5:∀ {a:Option Addr} {c:Nat} {b:List Int},Cz wr a c b->Cz (u.setCell ⟨r,0,none⟩ (.slice (some ⟨ga,0,none⟩) (L.length+1:Nat) c')) a c b:=fun {a c b} hz=>by
  refine hz.same (fun p e=>?_)
  rcases hz with ⟨_,h1,_⟩|⟨p',h1,_,_,_,_,⟨cs,h2,_⟩⟩
  ·rw [h1] at e;cases e
  ·rw [h1] at e
   cases e
   have hpr:p≠r:=fun e=>by rw [e,h.st.hd] at h2;simp at h2
   rw [Below.heap_setCell _ _ _ p hpr]
   exact grown_other h.st.row hgr (by decide) h2
 have hqp:∀ p,q.a=some ⟨p,0,none⟩->Gr G w wr p:=fun p e=>.inr ⟨hqg p e,by
  rcases hq with ⟨_,h1,_⟩|⟨g',h1,_,_,_,_,h2⟩
  ·rw [h1] at e;cases e
  ·rw [h1] at e;cases e;exact h2.lt⟩
 have hlen:(L++[q]).length=L.length+1:=by simp
 refine ⟨hb.setCell (p:=⟨r,0,none⟩) h.lo _,⟨?_,?_,?_,(h.grow hs2).1 _ h.st.gr,?_,?_,(h.grow hs2).2,?_,?_,?_⟩,h.lo⟩
 ·rw [hlen]
  exact heap_setCell_same u r 0 _ 34 _ hr34
 ·exact hrow.same (fun g e=>by cases e;exact Below.heap_setCell _ _ _ _ (Ne.symm hrg))
 ·intro k hk
  rcases List.mem_append.1 hk with hk | hk
  ·exact h5 (h.st.by_ k hk)
  ·obtain rfl:=List.mem_singleton.1 hk
   exact h5 hq
 ·intro g e
  cases e
  exact .inr ⟨hga,by simp;exact hgu⟩
 ·intro k hk g e
  rcases List.mem_append.1 hk with hk | hk
  ·exact (h.grow hs2).1 _ (h.st.gb k hk g e)
  ·obtain rfl:=List.mem_singleton.1 hk
   exact (h.grow hs2).1 _ (hqp g e)
 ·rw [hlen];omega
 ·intro k hk
  rcases List.mem_append.1 hk with hk | hk
  ·exact h.st.mb k hk
  ·obtain rfl:=List.mem_singleton.1 hk
   exact hm
 ·intro k hk
  rcases List.mem_append.1 hk with hk | hk
  ·exact h.st.ky k hk
  ·obtain rfl:=List.mem_singleton.1 hk
   exact hky
end
end Go.Proofs.YtlllmmceoeihkaaGreat
set_option maxRecDepth 20000
namespace Go.Proofs.YtlllmmceoeihkaaGreat
open Go.RowKit
open Z (Km RSt KRow Cz kcells kcell needK)
theorem putK_has {q:Km} {x z:Int}:∀ {L:List Km},(x=q.x∧z=q.z)∨(∃ p∈L,p.x=x∧p.z=z)->∃ p∈putK L q,p.x=x∧p.z=z
 | [],h=>by
   rcases h with ⟨rfl,rfl⟩|⟨p,hp,_⟩
   ·exact ⟨q,List.mem_singleton.2 rfl,rfl,rfl⟩
   ·cases hp
 | k :: r,h=>by
   unfold putK
   split
   ·rename_i e
    rw [atK_iff] at e
    rcases h with ⟨rfl,rfl⟩|⟨p,hp,h⟩
    ·exact ⟨q,List.mem_cons_self,rfl,rfl⟩
    ·rcases List.mem_cons.1 hp with rfl | hp
     ·exact ⟨q,List.mem_cons_self,by rw [<- e.1];exact h.1,by rw [<- e.2];exact h.2⟩
     ·exact ⟨p,List.mem_cons_of_mem _ hp,h⟩
   ·rcases h with h | ⟨p,hp,h⟩
    ·obtain ⟨p,hp,h⟩:=putK_has (L:=r) (.inl h)
     exact ⟨p,List.mem_cons_of_mem _ hp,h⟩
    ·rcases List.mem_cons.1 hp with rfl | hp
     ·exact ⟨p,List.mem_cons_self,h⟩
     ·obtain ⟨p,hp,h⟩:=putK_has (L:=r) (.inr ⟨p,hp,h⟩)
      exact ⟨p,List.mem_cons_of_mem _ hp,h⟩
structure S2 (n0:Nat) (L:List Km) (E:Ed) (es:List Eb) (i:Nat):Prop where
 doc:DocE L (setE E (es.take i))
 many:ManyOk L
 len:L.length<=n0+i
 named:∀ j (h:j<es.length),j<i->∃ p∈L,p.x=es[j].x∧p.z=es[j].z
theorem S2.next {n0:Nat} {L:List Km} {E:Ed} {es:List Eb} {i:Nat} (h:S2 n0 L E es i) (hi:i<es.length) {q:Km} (hx:q.x=es[i].x) (hz:q.z=es[i].z) (hb:q.b=es[i].cells) (hm:q.m=needK q.b):S2 n0 (putK L q) E es (i+1):=by
 refine ⟨?_,put_many h.many hm,by have:=putK_len q L;have:=h.len;omega,fun j hj hji=>?_⟩
 ·have h1:=doc_put h.doc q
  have e:setE E (es.take (i+1))=(setE E (es.take i)).put q.x q.z q.b:=by
   rw [List.take_succ_eq_append_getElem hi]
   unfold setE
   rw [List.foldl_append,hx,hz,hb]
   rfl
  rw [e]
  exact h1
 ·by_cases e:j=i
  ·subst e
   exact putK_has (.inl ⟨hx.symm,hz.symm⟩)
  ·exact putK_has (.inr (h.named j hj (by omega)))
theorem plK_some {L:List Km} {x z:Int} (h:∃ p∈L,p.x=x∧p.z=z):∃ k,∃ hk:k<L.length,Z.plK L x z=(k:Int)∧manyK L x z=L[k].m:=by
 cases hf:L.findIdx? (Z.atK x z) with
 | none =>
   obtain ⟨p,hp,h1,h2⟩:=h
   have:=List.findIdx?_eq_none_iff.1 hf p hp
   rw [(atK_iff x z p).2 ⟨h1,h2⟩] at this
   cases this
 | some k =>
   obtain ⟨hk,h1,h2⟩:=List.findIdx?_eq_some_iff_getElem.1 hf
   refine ⟨k,hk,by unfold Z.plK;rw [hf],?_⟩
   unfold manyK
   have:L.find? (Z.atK x z)=some L[k]:=by
    rw [List.find?_eq_some_iff_getElem]
    exact ⟨h1,k,hk,rfl,fun j hj=>by simpa using h2 j hj⟩
   rw [this]
theorem plK_cases (L:List Km) (x z:Int):(L.findIdx? (Z.atK x z)=none∧Z.plK L x z = -1)∨∃ k,k<L.length∧L.findIdx? (Z.atK x z)=some k∧Z.plK L x z=(k:Int):=by
 unfold Z.plK
 cases hf:L.findIdx? (Z.atK x z) with
 | none=>exact .inl ⟨rfl,rfl⟩
 | some k=>exact .inr ⟨k,(List.findIdx?_eq_some_iff_getElem.1 hf).choose,rfl,rfl⟩
def SaveDoc (G:Nat->Prop) (w:World) (L:List Km) (E:Ed) (es:List Eb) (e:Ending) (w':World):Prop:=Below w.heap.size w w' ∧
 ((fits E es∧∃ r' L' av' cv',e = .returned (.tuple #[.pointer (some ⟨r',0,none⟩),.bool true])∧SV G w w' r' L' av' cv'∧DocE L' (setE E es)∧ManyOk L'∧L'.length<=L.length+es.length) ∨
  (¬ fits E es∧e = .returned (.tuple #[.pointer none,.bool false])))
theorem four_stored {w:World} {g:Nat} {a b c d:Value} {t:TypeId} (h:w.heap[g]?=some (.cells #[a,b,c,d] t (0,0))) (a' b' c' d':Value):((((w.setCell ⟨g,0,none⟩ a').setCell ⟨g,1,none⟩ b').setCell ⟨g,2,none⟩ c').setCell ⟨g,3,none⟩ d').heap[g]?=some (.cells #[a',b',c',d'] t (0,0)):=by
 have h1:=heap_setCell_same w g 0 _ t a' h
 have h2:=heap_setCell_same _ g 1 _ t b' h1
 have h3:=heap_setCell_same _ g 2 _ t c' h2
 have h4:=heap_setCell_same _ g 3 _ t d' h3
 exact h4
theorem cz_on {w w':World} {a:Option Addr} {c:Nat} {b:List Int} (h:Cz w a c b) (hb:Below w.heap.size w w'):Cz w' a c b:=h.same (fun p e=>by
 rcases h with ⟨_,h1,_⟩|⟨p',h1,_,_,_,_,h2⟩
 ·rw [h1] at e;cases e
 ·rw [h1] at e;cases e;exact hb.block p h2.lt)
theorem own_cz {w:World} {B:Nat} {a:Option Addr} {c:Nat} {b:List Int} (h:K.Own w B a c b) (hl:b.length=32768) (hk:K.Kinds b):∃ g,a=some ⟨g,0,none⟩∧B<=g∧Cz w (some ⟨g,0,none⟩) c b:=by
 obtain ⟨g,e1,e2,e3,e4⟩:=K.own_pfx h (by intro e;rw [e] at hl;cases hl)
 refine ⟨g,e1,e2,.inr ⟨g,rfl,hl,e3,?_,hk,e4⟩⟩
 rcases h.2 with ⟨_,h1⟩|⟨_,cap,_,hv,_,_,_,hm,_⟩
 ·omega
 ·simp only [Value.slice.injEq] at hv
  rw [hv.2.2];exact hm
set_option maxHeartbeats 4000000 in
theorem ssave_c {G:Nat->Prop} {B:Nat} {w:World} {r:Nat} {L:List Km} {av:Option Addr} {cv:Nat} (h:RSt G B w r L av cv) {E:Ed} (hD:DocE L E) (hE:EdOk E) (a:Option Addr) (n c:Nat) (es:List Eb) (hEd:EdsAt w a es) (hl:es.length=n) (hn:n<=6) (hok:∀ e∈es,e.ok∧e.n=32768) (hL:L.length<=1900) :
  Calls Tryz.prog 19 #[.pointer (some ⟨r,0,none⟩),.slice a n c] w (SaveDoc G w L E es):=by
 obtain ⟨Post,hPost⟩:∃ Post:Ending->World->Prop,Post=SaveDoc G w L E es:=⟨_,rfl⟩
 rw [<- hPost]
 have HT:Hid (∀ w' r' L' av' cv',fits E es->SV G w w' r' L' av' cv'->S2 L.length L' E es n->Post (.returned (.tuple #[.pointer (some ⟨r',0,none⟩),.bool true])) w'):=fun w' r' L' av' cv' h1 h2 h3=>by
  have hd:=h3.doc
  have hln:=h3.len
  rw [List.take_of_length_le (by omega)] at hd
  rw [hPost]
  exact ⟨h2.bel,.inl ⟨h1,r',L',av',cv',rfl,h2,hd,h3.many,by rw [hl];exact hln⟩⟩
 have HN:Hid (∀ w',¬ fits E es->Below w.heap.size w w'->Post (.returned (.tuple #[.pointer none,.bool false])) w'):=fun w' h1 h2=>by rw [hPost];exact ⟨h2,.inr ⟨h1,rfl⟩⟩
 clear hPost
 have HEd:Hid (EdsAt w a es):=hEd
 have Hl:Hid (es.length=n):=hl
 have Hok:Hid (∀ e∈es,e.ok∧e.n=32768):=hok
 have HD0:Hid (DocE (L.map fixKm) E∧ManyOk (L.map fixKm)):=⟨doc_fix hD,fix_many L⟩
 have HSt:Hid (∀ e∈es,Z.I64 e.x∧Z.I64 e.z):=fun e he=>by
  obtain ⟨k,hk,rfl⟩:=List.mem_iff_getElem.1 he
  obtain ⟨_,_,_,h⟩:=hEd k hk
  exact ⟨h.ix,h.iz⟩
 have HE1:Hid (EdOk (setE E es)):=setE_ok hE (fun e he=>(hok e he).1)
 clear hEd hl hok hD hE
 have hcp:=scopy_c h
 clear h
 go_enter Tryz.func19,Tryz.ntmps19
 go_wp2_with fail
 refine hcp.mono ?_
 clear hcp
 rintro _ w1 ⟨hb1,r1,av1,cv1,rfl,hlo,hst⟩
 have HS1:Hid (SV G w w1 r1 L av1 cv1):=⟨hb1,hst,hlo⟩
 clear hb1 hst hlo
 go_wp2
 go_loopw [7] (fun iv wr=>∃ i:Nat,iv = .int .i64 (i:Int)∧i<=L.length∧Hid (SV G w wr r1 (fixTo i L) av1 cv1)) (fun iv _=>L.length-(intOf iv).toNat)
 case atStart=>exact ⟨0,rfl,Nat.zero_le _,by rw [fixTo_zero];exact HS1.out⟩
 case round =>
  obtain ⟨i,rfl,hi,HS⟩:=hrel
  have c0:=HS.out.st.c0
  rw [fixTo_len] at c0
  by_cases hlt:i<L.length
  ·have hlt':(i:Int)<(L.length:Int):=by omega
   have hfl:i<(fixTo i L).length:=by rw [fixTo_len];exact hlt
   rcases HS.out.st.row.form with ⟨_,he,_⟩|⟨g,rfl⟩
   ·rw [he] at hfl;simp at hfl
   have e23:=HS.out.st.row.cell hfl
   have e2:=e23.2.2.1
   have e3:=e23.2.2.2
   clear e23
   rw [fixTo_at hlt hfl] at e2 e3
   obtain ⟨hcv,hmx⟩:L.length<=cv1∧cv1<=maxLen:=by
    obtain ⟨_,_,_,h1,h2,_⟩:=HS.out.st.row.blk
    rw [fixTo_len] at h1
    exact ⟨h1,h2⟩
   have HNd:Hid (∀ W,Below wr.heap.size wr W->Calls Tryz.prog 44 #[.slice L[i].a L[i].b.length L[i].c] W fun e w'=>e = .returned (.int .i64 (needK L[i].b:Int))∧Below W.heap.size W w'):=fun W hb=>by
    have h1:=(HS.out.on hb).st.by_ _ (List.getElem_mem hfl)
    rw [fixTo_at hlt hfl] at h1
    exact Z.sneed_c h1
   have HSn:Hid (∀ u,Below wr.heap.size wr u->SV G w (u.setCell ⟨g,i*4+3,none⟩ (.int .i64 (needK L[i].b:Int))) r1 (fixTo (i+1) L) (some ⟨g,0,none⟩) cv1):=fun u hb=>(HS.out.on hb).fix hlt
   have hnk:=Z.needK_le L[i].b
   have HK:Hid (w1.heap.size<=w1.heap.size∧wr.cell? ⟨r1,0,none⟩=some (.slice (some ⟨g,0,none⟩) L.length cv1)∧wr.cell? ⟨g,i*4+2,none⟩=some (.slice L[i].a L[i].b.length L[i].c)∧wr.cell? ⟨g,i*4+3,none⟩=some (.int .i64 (L[i].m:Int))):=⟨Nat.le_refl _,c0,e2,e3⟩
   clear e2 e3 hfl
   generalize L[i].a=ka at *
   generalize L[i].b.length=kl at *
   generalize L[i].c=kc at *
   generalize (L[i].m:Int)=km at *
   generalize needK L[i].b=nk at *
   go_upto_region 5 with fail
   clear c0
   refine Z.region_L (fun u=>Below wr.heap.size wr u) 16 (by kernel_rfl) ?_
   have h_va:(fun u=>Below wr.heap.size wr u) wr.drew:=(⟨rfl,rfl,rfl,Nat.le_refl _,fun _ _=>rfl⟩:Below wr.heap.size wr wr.drew)
   have hne:Nonempty (Z.Sub (fun u=>Below wr.heap.size wr u)):=⟨⟨_,h_va⟩⟩
   generalize wr.drew=va at *
   have q0:∀ s:Z.Sub (fun u=>Below wr.heap.size wr u),s.w.cell? ⟨r1,0,none⟩=some (.slice (some ⟨g,0,none⟩) L.length cv1):=fun s=>Z.cell_on s.ok HK.out.2.1
   have q1:∀ s:Z.Sub (fun u=>Below wr.heap.size wr u),s.w.cell? ⟨g,i*4+2,none⟩=some (.slice ka kl kc):=fun s=>Z.cell_on s.ok HK.out.2.2.1
   refine Z.gen_L (by intro d v c a w h;cases d <;> exact h) (fun QX HQP HQX=>?_)
   refine Z.tk 0 rfl HQP h_va fun K hK=>?_;go_simp;refine hK _ ?_;clear hK K
   refine Z.tk 1 rfl HQP h_va fun K hK=>?_;go_simp;refine hK _ ?_;clear hK K
   refine Z.tk 2 rfl HQP h_va fun K hK=>?_;go_simp;refine hK _ ?_;clear hK K
   refine Z.tk 3 rfl HQP h_va fun K hK=>?_;go_simp;refine hK _ ?_;clear hK K
   refine Z.tk 4 rfl HQP h_va fun K hK=>?_;go_simp;refine hK _ ?_;clear hK K
   refine Z.tk 5 rfl HQP h_va fun K hK=>?_;go_simp;refine hK _ ?_;clear hK K
   refine Z.tk 6 rfl HQP h_va fun K hK=>?_;go_simp;refine hK _ ?_;clear hK K
   refine Z.tk 7 rfl HQP h_va fun K hK=>?_;go_simp;refine hK _ ?_;clear hK K
   refine Z.tk 8 rfl HQP h_va fun K hK=>?_;go_simp;refine hK _ ?_;clear hK K
   refine Z.ol 9 rfl fun K hK=>?_
   go_simp
   refine hK.out _ _ (fun _=>h_va) ?_
   clear hK K
   refine Z.ol 10 rfl fun K hK=>?_
   go_simp
   refine hK.out _ _ (fun _=>h_va) ?_
   clear hK K
   refine Z.ol 11 rfl fun K hK=>?_
   go_simp
   refine hK.out _ _ (fun _=>h_va) ?_
   clear hK K
   refine Z.tk 12 rfl HQP h_va fun K hK=>?_;go_simp;refine hK _ ?_;clear hK K
   refine Z.ol 13 rfl fun K hK=>?_
   go_simp
   refine (HNd.out _ h_va).mono ?_
   rintro _ v1 ⟨rfl,hb1⟩
   have h_v1:(fun u=>Below wr.heap.size wr u) v1:=Below.trans h_va (hb1.mono (Below.size h_va))
   refine hK.out _ _ (fun _=>h_v1) ?_
   clear hK K hb1
   refine Z.ol 14 rfl fun K hK=>?_
   go_simp
   refine hK.out _ _ (fun _=>h_v1) ?_
   clear hK K
   refine Z.ol 15 rfl fun K hK=>?_
   go_simp
   refine hK.out _ _ (fun _=>h_v1) ?_
   clear hK K
   refine Z.ol 16 rfl fun K hK=>?_
   have hce:v1.cell? ⟨g,i*4+3,none⟩=some (.int .i64 km):=Z.cell_on h_v1 HK.out.2.2.2
   have hfr:=(HS.out.on h_v1).st.row.free (i*4+3)
   have HN2:Hid _:=HSn.out v1 h_v1
   clear hne q0 q1 HNd HSn HK HS
   go_simp
   refine hK.out _ _ (fun h=>absurd rfl h) ?_
   clear hK K hce hfr h_v1
   refine Z.done_L (by kernel_rfl) ?_ _
   refine HQX.out _ _ ?_
   clear HQX HQP QX
   go_wp2
   go_roundw
   case rel=>exact ⟨i+1,by go_num,by omega,HN2.out⟩
   case measure=>simp [intOf];omega
  ·obtain rfl:i=L.length:=by omega
   rw [fixTo_all] at HS
   have HS2:Hid (SV G w wr r1 (L.map fixKm) av1 cv1):=HS.out
   have HD2:Hid (S2 L.length (L.map fixKm) E es 0):=⟨HD0.out.1,HD0.out.2,by simp,fun j _ hj=>absurd hj (by omega)⟩
   clear HS HS1 HD0
   go_wp2
   clear c0
   go_loopw [8,9,10,11,12] (fun iv _ _ _ _ wr=>∃ (i:Nat) (L':List Km) (av':Option Addr) (cv':Nat),iv = .int .i64 (i:Int)∧i<=n∧Hid (SV G w wr r1 L' av' cv')∧Hid (S2 L.length L' E es i)) (fun iv _ _ _ _ _=>n-(intOf iv).toNat)
   case atStart=>exact ⟨0,L.map fixKm,av1,cv1,rfl,Nat.zero_le _,HS2.out,HD2.out⟩
   case round =>
    obtain ⟨i,L',av',cv',rfl,hi2,HS,HD⟩:=hrel
    clear HS2 HD2
    by_cases hlt:i<n
    ·have hlt':(i:Int)<(n:Int):=by omega
     have hil:i<es.length:=by rw [Hl.out];exact hlt
     obtain ⟨b0,o0,rfl,hat0⟩:=HEd.out i hil
     clear hat0
     have HAt:Hid (∀ W,Below w.heap.size w W->EbAt W b0 o0 i es[i]):=fun W hb=>by
      obtain ⟨b,off,e,h⟩:=(HEd.out.on hb) i hil
      cases e
      exact h
     have Hki:Hid _:=Hok.out _ (List.getElem_mem hil)
     obtain ⟨e,he⟩:∃ e,e=es[i]:=⟨_,rfl⟩
     rw [<- he] at HAt Hki
     have He:Hid (e=es[i]):=he
     have hat:=HAt.out wr HS.out.bel
     have c2:=hat.c2
     have hby:=hat.by_
     have h32:=Hki.out.1.1
     rw [Hki.out.2] at c2 hby
     have HB:Hid (Bytes wr e.a 32768 e.b):=hby
     have Hnil:Hid (e.a=none->e.c=0):=fun h0=>by
      rcases hby.cells with h1 | ⟨_,_,h1,_⟩
      ·rw [h1] at h32;cases h32
      ·rw [h1] at h0;cases h0
     have H32:Hid (e.b.length=32768):=h32
     clear hat he hby h32
     go_wp2_with (at_builtin;refine K.wpList_append_bytes rfl _ _ rfl wr.heap.size none 0 0 [] rfl rfl (K.Own.nil _ _) e.a 32768 e.c e.b rfl HB.out.toK Hnil.out (by omega) wr (Below.refl _ _) (Nat.le_refl _) ?_;intro a2 c2' w2 Ho Hb _;rw [Nat.zero_add])
     have HOw:Hid (K.Own w2 wr.heap.size a2 c2' e.b):=Ho.out
     have HS3:Hid (SV G w w2 r1 L' av' cv'):=HS.out.on Hb
     obtain ⟨ga2,rfl,hga2,hcz⟩:=own_cz HOw.out H32.out Hki.out.1.2
     have HC2:Hid (Cz w2 (some ⟨ga2,0,none⟩) c2' e.b∧w.heap.size<=ga2):=⟨hcz,Nat.le_trans HS.out.bel.size hga2⟩
     clear Ho Hb hga2 HS HB Hnil c2 HOw hcz
     have hno:=Z.rnone_c (c:=c2') HC2.out.1.bytes (by have:=H32.out;omega)
     rw [H32.out] at hno
     refine hno.mono ?_
     clear hno
     rintro _ w2' ⟨rfl,hwe⟩
     replace hwe:=hwe.symm
     subst hwe
     obtain ⟨β,hβ⟩:∃ β,Z.noneB e.b=β:=⟨_,rfl⟩
     rw [hβ]
     have Hβ:Hid (Z.noneB e.b=β):=hβ
     clear hβ
     go_upto_if 56 with fail
     go_cut [9] (fun v wc=>∃ A C,v = .slice A (e.cells.length:Nat) C∧wc=w2∧Hid (Cz w2 A C e.cells∧∀ p,A=some ⟨p,0,none⟩->w.heap.size<=p))
     case first =>
      cases β with
      | true =>
        have hcl:e.cells=[]:=by unfold Eb.cells;rw [Hβ.out];rfl
        go_wp2
        go_meet
        case rel=>exact ⟨none,0,(by rw [hcl];rfl),rfl,.inl ⟨hcl,rfl,rfl⟩,(fun p h=>by cases h)⟩
      | false =>
        have hcl:e.cells=e.b:=by unfold Eb.cells;rw [Hβ.out];rfl
        go_wp2
        go_meet
        case rel=>exact ⟨some ⟨ga2,0,none⟩,c2',(by rw [hcl,H32.out]),rfl,(by rw [hcl];exact HC2.out.1),(fun p h=>by cases h;exact HC2.out.2)⟩
     case rest =>
     obtain ⟨A,C,rfl,hwc,HCA⟩:=hcut
     replace hwc:=hwc.symm
     subst hwc
     clear HC2
     have hat:=HAt.out w2 HS3.out.bel
     have c0:=hat.c0
     have c1:=hat.c1
     have hpl:=Z.splace_c HS3.out.st e.x e.z
     clear hat
     go_wp2_with fail
     refine hpl.mono ?_
     clear hpl c0 c1
     rintro _ w3 ⟨rfl,hb3⟩
     have HS4:Hid (SV G w w3 r1 L' av' cv'):=HS3.out.on hb3
     have HC4:Hid (Cz w3 A C e.cells):=cz_on HCA.out.1 hb3
     have Hpl:Hid (Z.plK L' e.x e.z=Z.plK L' e.x e.z):=rfl
     obtain ⟨P,hP⟩:∃ P,Z.plK L' e.x e.z=P:=⟨_,rfl⟩
     rw [hP]
     have HP2:Hid (Z.plK L' e.x e.z=P):=hP
     have HAg:Hid (∀ p,A=some ⟨p,0,none⟩->w.heap.size<=p):=HCA.out.2
     have HNd:Hid (∀ W,Below w3.heap.size w3 W->Calls Tryz.prog 44 #[.slice A (e.cells.length:Nat) C] W fun e' w'=>e' = .returned (.int .i64 (needK e.cells:Int))∧Below W.heap.size W w'):=fun W hb=>Z.sneed_c (cz_on HC4.out hb)
     have hnk:=Z.needK_le e.cells
     clear hP hb3 HCA HS3 Hpl
     obtain ⟨nk,hnke⟩:∃ nk,nk=needK e.cells:=⟨_,rfl⟩
     obtain ⟨cl,hcle⟩:∃ cl,cl=e.cells.length:=⟨_,rfl⟩
     rw [<- hnke] at HNd hnk
     rw [<- hcle] at HNd ⊢
     have Hnk:Hid (nk=needK e.cells):=hnke
     have Hcl:Hid (cl=e.cells.length):=hcle
     clear hnke hcle
     go_upto_region 14 with fail
     go_cut [12] (fun v wc=>∃ xb,v = .pointer (some ⟨xb,0,none⟩)∧w3.heap.size<=xb∧Hid (wc.heap[xb]?=some (.cells #[.int .i64 e.x,.int .i64 e.z,.slice A cl C,.int .i64 (nk:Int)] 103 (0,0))∧Below w3.heap.size w3 wc))
     case first =>
      refine Z.region_L (Z.Cls w3.heap.size w3 []) 99 (by kernel_rfl) ?_
      have h_va:(Z.Cls w3.heap.size w3 []) w3.drew:=(Z.Cls.start w3).drew
      have hne:Nonempty (Z.Sub (Z.Cls w3.heap.size w3 [])):=⟨⟨_,h_va⟩⟩
      generalize w3.drew=va at *
      have q0:∀ s:Z.Sub (Z.Cls w3.heap.size w3 []),s.w.cell? ⟨b0,o0+i*3,none⟩=some (.int .i64 e.x):=fun s=>(HAt.out s.w (HS4.out.bel.trans (s.ok.bel.mono HS4.out.bel.size))).c0
      have q1:∀ s:Z.Sub (Z.Cls w3.heap.size w3 []),s.w.cell? ⟨b0,o0+i*3+1,none⟩=some (.int .i64 e.z):=fun s=>(HAt.out s.w (HS4.out.bel.trans (s.ok.bel.mono HS4.out.bel.size))).c1
      refine Z.gen_L (by intro d v c a w h;cases d <;> exact h) (fun QX HQP HQX=>?_)
      refine Z.tk 0 rfl HQP h_va fun K hK=>?_;go_simp;refine hK _ ?_;clear hK K
      refine Z.tk 1 rfl HQP h_va fun K hK=>?_;go_simp;refine hK _ ?_;clear hK K
      refine Z.tk 2 rfl HQP h_va fun K hK=>?_;go_simp;refine hK _ ?_;clear hK K
      refine Z.tk 3 rfl HQP h_va fun K hK=>?_;go_simp;refine hK _ ?_;clear hK K
      refine Z.tk 4 rfl HQP h_va fun K hK=>?_;go_simp;refine hK _ ?_;clear hK K
      refine Z.tk 5 rfl HQP h_va fun K hK=>?_;go_simp;refine hK _ ?_;clear hK K
      refine Z.tk 6 rfl HQP h_va fun K hK=>?_;go_simp;refine hK _ ?_;clear hK K
      refine Z.two_L (i:=7) (j:=9) (by kernel_rfl) rfl rfl (fun K hK=>?_) (fun K hK=>?_)
      ·go_simp
       go_simp
       refine (HNd.out va h_va.bel).mono ?_
       rintro _ v1 ⟨rfl,hb_v1⟩
       have h_v1:=h_va.on hb_v1
       refine hK.out _ _ (fun _=>h_v1) ?_
       clear hK K
       refine Z.tk 8 rfl HQP h_v1 fun K hK=>?_;go_simp;refine hK _ ?_;clear hK K
       refine Z.ol 9 rfl fun K hK=>?_
       go_simp
       have hN_x_v2:=heap_alloc_new v1 (.cells #[.int .i64 0,.int .i64 0,.slice none 0 0,.int .i64 0] 103)
       have h_v2:=h_v1.alloc (.cells #[.int .i64 0,.int .i64 0,.slice none 0 0,.int .i64 0] 103)
       have hb_v2:Below v1.heap.size v1 (v1.alloc (.cells #[.int .i64 0,.int .i64 0,.slice none 0 0,.int .i64 0] 103)):=(Below.refl _ _).alloc (Nat.le_refl _) _
       refine hK.out _ _ (fun _=>h_v2) ?_
       clear hK K
       generalize v1.alloc (.cells #[.int .i64 0,.int .i64 0,.slice none 0 0,.int .i64 0] 103)=v2 at *
       refine Z.ol 10 rfl fun K hK=>?_
       have e0:=cell_of_row v2 (v1.heap.size) 0 _ 103 (0,0) hN_x_v2
       have f0:=frozen_of_row v2 (v1.heap.size) 0 _ 103 hN_x_v2
       have e1:=cell_of_row v2 (v1.heap.size) 1 _ 103 (0,0) hN_x_v2
       have f1:=frozen_of_row v2 (v1.heap.size) 1 _ 103 hN_x_v2
       have e2:=cell_of_row v2 (v1.heap.size) 2 _ 103 (0,0) hN_x_v2
       have f2:=frozen_of_row v2 (v1.heap.size) 2 _ 103 hN_x_v2
       have e3:=cell_of_row v2 (v1.heap.size) 3 _ 103 (0,0) hN_x_v2
       have f3:=frozen_of_row v2 (v1.heap.size) 3 _ 103 hN_x_v2
       simp only [List.getElem?_toArray,List.getElem?_cons_zero,List.getElem?_cons_succ] at e0 e1 e2 e3
       have hN_x_v3:=four_stored hN_x_v2 (.int .i64 e.x) (.int .i64 e.z) (.slice A cl C) (.int .i64 (nk:Int))
       have hge:w3.heap.size<=v1.heap.size:=Z.Cls.size h_v1
       have h_v3:=((((h_v2.store (c:=v1.heap.size) hge (fun p hp=>by cases hp) 0 (.int .i64 e.x)).store (c:=v1.heap.size) hge (fun p hp=>by cases hp) 1 (.int .i64 e.z)).store (c:=v1.heap.size) hge (fun p hp=>by cases hp) 2 (.slice A cl C)).store (c:=v1.heap.size) hge (fun p hp=>by cases hp) 3 (.int .i64 (nk:Int)))
       clear hne q0 q1
       go_simp
       refine hK.out _ _ (fun _=>h_v3) ?_
       clear hK K e0 e1 e2 e3 f0 f1 f2 f3
       generalize (((v2.setCell ⟨v1.heap.size,0,none⟩ (.int .i64 e.x)).setCell ⟨v1.heap.size,1,none⟩ (.int .i64 e.z)).setCell ⟨v1.heap.size,2,none⟩ (.slice A cl C)).setCell ⟨v1.heap.size,3,none⟩ (.int .i64 (nk:Int))=v3 at *
       refine Z.done_L (by kernel_rfl) ?_ _
       refine HQX.out _ _ ?_
       clear HQX HQP QX
       have hge2:=hge
       have HRr:Hid _:=hN_x_v3
       have HBb:Hid _:=h_v3.bel
       clear hN_x_v3 h_v3 HNd
       go_wp2
       go_meet
       case rel=>exact ⟨_,rfl,hge2,HRr.out,HBb.out⟩
      ·go_simp
       have hN_x_v4:=heap_alloc_new va (.cells #[.int .i64 0,.int .i64 0,.slice none 0 0,.int .i64 0] 103)
       have h_v4:=h_va.alloc (.cells #[.int .i64 0,.int .i64 0,.slice none 0 0,.int .i64 0] 103)
       have hb_v4:Below va.heap.size va (va.alloc (.cells #[.int .i64 0,.int .i64 0,.slice none 0 0,.int .i64 0] 103)):=(Below.refl _ _).alloc (Nat.le_refl _) _
       refine hK.out _ _ (fun _=>h_v4) ?_
       clear hK K
       generalize va.alloc (.cells #[.int .i64 0,.int .i64 0,.slice none 0 0,.int .i64 0] 103)=v4 at *
       refine Z.ol 7 rfl fun K hK=>?_
       go_simp
       go_simp
       refine (HNd.out v4 h_v4.bel).mono ?_
       rintro _ v5 ⟨rfl,hb_v5⟩
       have h_v5:=h_v4.on hb_v5
       have hN_x_v5:v5.heap[va.heap.size]?=some (.cells #[.int .i64 0,.int .i64 0,.slice none 0 0,.int .i64 0] 103 (0,0)):=(hb_v5.block _ (Array.getElem?_eq_some_iff.1 hN_x_v4).1).trans hN_x_v4
       refine hK.out _ _ (fun _=>h_v5) ?_
       clear hK K
       refine Z.ol 8 rfl fun K hK=>?_
       go_simp
       refine hK.out _ _ (fun _=>h_v5) ?_
       clear hK K
       refine Z.ol 10 rfl fun K hK=>?_
       have e0:=cell_of_row v5 (va.heap.size) 0 _ 103 (0,0) hN_x_v5
       have f0:=frozen_of_row v5 (va.heap.size) 0 _ 103 hN_x_v5
       have e1:=cell_of_row v5 (va.heap.size) 1 _ 103 (0,0) hN_x_v5
       have f1:=frozen_of_row v5 (va.heap.size) 1 _ 103 hN_x_v5
       have e2:=cell_of_row v5 (va.heap.size) 2 _ 103 (0,0) hN_x_v5
       have f2:=frozen_of_row v5 (va.heap.size) 2 _ 103 hN_x_v5
       have e3:=cell_of_row v5 (va.heap.size) 3 _ 103 (0,0) hN_x_v5
       have f3:=frozen_of_row v5 (va.heap.size) 3 _ 103 hN_x_v5
       simp only [List.getElem?_toArray,List.getElem?_cons_zero,List.getElem?_cons_succ] at e0 e1 e2 e3
       have hN_x_v6:=four_stored hN_x_v5 (.int .i64 e.x) (.int .i64 e.z) (.slice A cl C) (.int .i64 (nk:Int))
       have hge:w3.heap.size<=va.heap.size:=Z.Cls.size h_va
       have h_v6:=((((h_v5.store (c:=va.heap.size) hge (fun p hp=>by cases hp) 0 (.int .i64 e.x)).store (c:=va.heap.size) hge (fun p hp=>by cases hp) 1 (.int .i64 e.z)).store (c:=va.heap.size) hge (fun p hp=>by cases hp) 2 (.slice A cl C)).store (c:=va.heap.size) hge (fun p hp=>by cases hp) 3 (.int .i64 (nk:Int)))
       clear hne q0 q1
       go_simp
       refine hK.out _ _ (fun _=>h_v6) ?_
       clear hK K e0 e1 e2 e3 f0 f1 f2 f3
       generalize (((v5.setCell ⟨va.heap.size,0,none⟩ (.int .i64 e.x)).setCell ⟨va.heap.size,1,none⟩ (.int .i64 e.z)).setCell ⟨va.heap.size,2,none⟩ (.slice A cl C)).setCell ⟨va.heap.size,3,none⟩ (.int .i64 (nk:Int))=v6 at *
       refine Z.done_L (by kernel_rfl) ?_ _
       refine HQX.out _ _ ?_
       clear HQX HQP QX
       have hge2:=hge
       have HRr:Hid _:=hN_x_v6
       have HBb:Hid _:=h_v6.bel
       clear hN_x_v6 h_v6 HNd
       go_wp2
       go_meet
       case rel=>exact ⟨_,rfl,hge2,HRr.out,HBb.out⟩
     case rest =>
     obtain ⟨xb,rfl,hxb,HX⟩:=hcut
     have HS5:Hid (SV G w wc r1 L' av' cv'):=HS4.out.on HX.out.2
     have HC5:Hid (Cz wc A C e.cells):=cz_on HC4.out HX.out.2
     have HXb:Hid (wc.heap[xb]?=some (.cells #[.int .i64 e.x,.int .i64 e.z,.slice A cl C,.int .i64 (nk:Int)] 103 (0,0))):=HX.out.1
     have Hown:Hid (∀ k,Value.ownBlock (.slice av' L'.length cv')=some k->k≠xb):=fun k e=>by
      obtain ⟨_,cur,h1⟩:=row_block_of HS4.out.st.row e
      have:=(Array.getElem?_eq_some_iff.1 h1).1
      omega
     have HKy:Hid (Z.I64 e.x∧Z.I64 e.z):=by
      have h1:=HSt.out es[i] (List.getElem_mem hil)
      rw [<- He.out] at h1
      exact h1
     have hLl:L'.length<=L.length+i:=HD.out.len
     have HD3:Hid (S2 L.length (putK L' ⟨e.x,e.z,A,C,e.cells,nk⟩) E es (i+1)):=HD.out.next hil (q:=⟨e.x,e.z,A,C,e.cells,nk⟩) (by rw [He.out]) (by rw [He.out]) (by rw [He.out]) Hnk.out
     clear HS4 HC4 HX HAt HD hxb
     rcases plK_cases L' e.x e.z with ⟨hf,hp⟩|⟨k,hk,hf,hp⟩
     ·obtain rfl:P = -1:=HP2.out.symm.trans hp
      rw [putK_none hf] at HD3
      clear hf hp HP2
      go_upto_region 16 with fail
      refine Z.region_L (fun u:World=>u.heap[r1]?=some (.cells #[.slice av' L'.length cv'] 34 (0,0))∧u.heap[xb]?=some (.cells #[.int .i64 e.x,.int .i64 e.z,.slice A cl C,.int .i64 (nk:Int)] 103 (0,0))) 10 (by kernel_rfl) ?_
      have h_va:(fun u:World=>u.heap[r1]?=some (.cells #[.slice av' L'.length cv'] 34 (0,0))∧u.heap[xb]?=some (.cells #[.int .i64 e.x,.int .i64 e.z,.slice A cl C,.int .i64 (nk:Int)] 103 (0,0))) wc.drew:=⟨HS5.out.st.hd,HXb.out⟩
      have HSa:Hid (SV G w wc.drew r1 L' av' cv'):=HS5.out.on (⟨rfl,rfl,rfl,Nat.le_refl _,fun _ _=>rfl⟩:Below wc.heap.size wc wc.drew)
      have HCa:Hid (Cz wc.drew A C e.cells):=cz_on HC5.out (⟨rfl,rfl,rfl,Nat.le_refl _,fun _ _=>rfl⟩:Below wc.heap.size wc wc.drew)
      clear HS5 HC5 HXb
      have hne:Nonempty (Z.Sub (fun u:World=>u.heap[r1]?=some (.cells #[.slice av' L'.length cv'] 34 (0,0))∧u.heap[xb]?=some (.cells #[.int .i64 e.x,.int .i64 e.z,.slice A cl C,.int .i64 (nk:Int)] 103 (0,0)))):=⟨⟨_,h_va⟩⟩
      generalize wc.drew=va at *
      have q0:∀ s:Z.Sub (fun u:World=>u.heap[r1]?=some (.cells #[.slice av' L'.length cv'] 34 (0,0))∧u.heap[xb]?=some (.cells #[.int .i64 e.x,.int .i64 e.z,.slice A cl C,.int .i64 (nk:Int)] 103 (0,0))),s.w.cell? ⟨r1,0,none⟩=some (.slice av' L'.length cv'):=fun s=>cell_of_row s.w r1 0 _ 34 (0,0) s.ok.1
      have q1:∀ s:Z.Sub (fun u:World=>u.heap[r1]?=some (.cells #[.slice av' L'.length cv'] 34 (0,0))∧u.heap[xb]?=some (.cells #[.int .i64 e.x,.int .i64 e.z,.slice A cl C,.int .i64 (nk:Int)] 103 (0,0))),s.w.cell? ⟨xb,0,none⟩=some (.int .i64 e.x):=fun s=>cell_of_row s.w xb 0 _ 103 (0,0) s.ok.2
      have q2:∀ s:Z.Sub (fun u:World=>u.heap[r1]?=some (.cells #[.slice av' L'.length cv'] 34 (0,0))∧u.heap[xb]?=some (.cells #[.int .i64 e.x,.int .i64 e.z,.slice A cl C,.int .i64 (nk:Int)] 103 (0,0))),s.w.cell? ⟨xb,1,none⟩=some (.int .i64 e.z):=fun s=>cell_of_row s.w xb 1 _ 103 (0,0) s.ok.2
      have q3:∀ s:Z.Sub (fun u:World=>u.heap[r1]?=some (.cells #[.slice av' L'.length cv'] 34 (0,0))∧u.heap[xb]?=some (.cells #[.int .i64 e.x,.int .i64 e.z,.slice A cl C,.int .i64 (nk:Int)] 103 (0,0))),s.w.cell? ⟨xb,2,none⟩=some (.slice A cl C):=fun s=>cell_of_row s.w xb 2 _ 103 (0,0) s.ok.2
      have q4:∀ s:Z.Sub (fun u:World=>u.heap[r1]?=some (.cells #[.slice av' L'.length cv'] 34 (0,0))∧u.heap[xb]?=some (.cells #[.int .i64 e.x,.int .i64 e.z,.slice A cl C,.int .i64 (nk:Int)] 103 (0,0))),s.w.cell? ⟨xb,3,none⟩=some (.int .i64 (nk:Int)):=fun s=>cell_of_row s.w xb 3 _ 103 (0,0) s.ok.2
      refine Z.gen_L (by intro d v c a w h;cases d <;> exact h) (fun QX HQP HQX=>?_)
      refine Z.tk 0 rfl HQP h_va fun K hK=>?_;go_simp;refine hK _ ?_;clear hK K
      refine Z.tk 1 rfl HQP h_va fun K hK=>?_;go_simp;refine hK _ ?_;clear hK K
      refine Z.tk 2 rfl HQP h_va fun K hK=>?_;go_simp;refine hK _ ?_;clear hK K
      refine Z.tk 3 rfl HQP h_va fun K hK=>?_;go_simp;refine hK _ ?_;clear hK K
      refine Z.tk 4 rfl HQP h_va fun K hK=>?_;go_simp;refine hK _ ?_;clear hK K
      refine Z.tk 5 rfl HQP h_va fun K hK=>?_;go_simp;refine hK _ ?_;clear hK K
      refine Z.ol 6 rfl fun K hK=>?_
      go_simp
      have hb6:Below va.heap.size va (va.alloc (.cells #[.int .i64 e.x,.int .i64 e.z,.slice A cl C,.int .i64 (nk:Int)] 103)):=(Below.refl _ _).alloc (Nat.le_refl _) _
      have hnw:=heap_alloc_new va (.cells #[.int .i64 e.x,.int .i64 e.z,.slice A cl C,.int .i64 (nk:Int)] 103)
      have h_v1:(fun u:World=>u.heap[r1]?=some (.cells #[.slice av' L'.length cv'] 34 (0,0))∧u.heap[xb]?=some (.cells #[.int .i64 e.x,.int .i64 e.z,.slice A cl C,.int .i64 (nk:Int)] 103 (0,0))) (va.alloc (.cells #[.int .i64 e.x,.int .i64 e.z,.slice A cl C,.int .i64 (nk:Int)] 103)):=⟨(hb6.block _ (Array.getElem?_eq_some_iff.1 h_va.1).1).trans h_va.1,(hb6.block _ (Array.getElem?_eq_some_iff.1 h_va.2).1).trans h_va.2⟩
      have HSb:Hid _:=HSa.out.on hb6
      have HCb:Hid _:=cz_on HCa.out hb6
      refine hK.out _ _ (fun _=>h_v1) ?_
      clear hK K HSa HCa hb6 h_va
      obtain ⟨nb,hnb⟩:∃ nb,nb=va.heap.size:=⟨_,rfl⟩
      rw [<- hnb] at hnw ⊢
      generalize va.alloc (.cells #[.int .i64 e.x,.int .i64 e.z,.slice A cl C,.int .i64 (nk:Int)] 103)=v1 at *
      clear hnb
      refine Z.one_W (i:=7) (by kernel_rfl) rfl (fun K hK=>?_)
      refine wpList_append_one Tryz.underlying32 info103 rfl (by decide) (by decide) rfl _ _ rfl w.heap.size av' cv' L'.length (kcells L') rfl HSb.out.st.row nb 1 [.int .i64 e.x,.int .i64 e.z,.slice A cl C,.int .i64 (nk:Int)] rfl hnw rfl (by intro u hu;simp at hu;rcases hu with rfl | rfl | rfl | rfl <;> rfl) (by omega) HSb.out.bel.size ?_
      intro ga cc v2 hrow hgr hga hgl
      have h_v2:(fun u:World=>u.heap[r1]?=some (.cells #[.slice av' L'.length cv'] 34 (0,0))∧u.heap[xb]?=some (.cells #[.int .i64 e.x,.int .i64 e.z,.slice A cl C,.int .i64 (nk:Int)] 103 (0,0))) v2:=⟨(grown_other HSb.out.st.row hgr (by decide) h_v1.1).trans h_v1.1,(hgr.block _ (Array.getElem?_eq_some_iff.1 h_v1.2).1 (fun e=>Hown.out _ e.symm rfl)).trans h_v1.2⟩
      have HN2:Hid (SV G w (v2.setCell ⟨r1,0,none⟩ (.slice (some ⟨ga,0,none⟩) (L'.length+1:Nat) cc)) r1 (L'++[⟨e.x,e.z,A,C,e.cells,nk⟩]) (some ⟨ga,0,none⟩) cc):=HSb.out.push (q:=⟨e.x,e.z,A,C,e.cells,nk⟩) HCb.out HAg.out (by show nk<=100000;omega) ⟨HKy.out.1,HKy.out.2⟩ (by omega) (by rw [Hcl.out] at hrow;exact hrow) hgr hgl
      refine hK.out _ _ (fun _=>h_v2) ?_
      clear hK K HSb HCb h_v1 hrow hgr hga hgl hnw
      refine Z.ol 8 rfl fun K hK=>?_
      go_simp
      refine hK.out _ _ (fun _=>h_v2) ?_
      clear hK K
      refine Z.ol 9 rfl fun K hK=>?_
      go_simp
      refine hK.out _ _ (fun _=>h_v2) ?_
      clear hK K
      refine Z.ol 10 rfl fun K hK=>?_
      have hce:v2.cell? ⟨r1,0,none⟩=some (.slice av' L'.length cv'):=cell_of_row v2 r1 0 _ 34 (0,0) h_v2.1
      have hfr:v2.frozen? ⟨r1,0,none⟩=false:=frozen_of_row v2 r1 0 _ 34 h_v2.1
      clear hne q0 q1 q2 q3 q4
      go_simp
      refine hK.out _ _ (fun h=>absurd rfl h) ?_
      clear hK K hce hfr h_v2
      refine Z.done_L (by kernel_rfl) ?_ _
      refine HQX.out _ _ ?_
      clear HQX HQP QX
      go_wp2
      go_roundw
      case rel=>exact ⟨i+1,_,_,_,by go_num,by omega,HN2.out,HD3.out⟩
      case measure=>simp [intOf];omega
     ·obtain rfl:P=(k:Int):=HP2.out.symm.trans hp
      rw [putK_some hf] at HD3
      clear hf hp HP2 Hown
      have hkn:¬ ((k:Int)<0):=by omega
      have hform:=HS5.out.st.row.form
      rcases hform with ⟨_,he,_⟩|⟨g,rfl⟩
      ·rw [he] at hk;simp at hk
      have hcl:=HS5.out.st.row.cell hk
      have HEk:Hid _:=hcl
      obtain ⟨hcv,hmx⟩:L'.length<=cv'∧cv'<=maxLen:=by
       obtain ⟨_,_,_,h1,h2,_⟩:=HS5.out.st.row.blk
       exact ⟨h1,h2⟩
      clear hcl
      go_upto_region 17 with fail
      refine Z.region_L (fun u:World=>Below wc.heap.size wc u) 7 (by kernel_rfl) ?_
      have h_va:(fun u:World=>Below wc.heap.size wc u) wc.drew:=(⟨rfl,rfl,rfl,Nat.le_refl _,fun _ _=>rfl⟩:Below wc.heap.size wc wc.drew)
      have HSa:Hid (SV G w wc.drew r1 L' (some ⟨g,0,none⟩) cv'):=HS5.out.on h_va
      have HCa:Hid (Cz wc.drew A C e.cells):=cz_on HC5.out h_va
      have Hfr:Hid (∀ j,wc.drew.frozen? ⟨g,k*4+j,none⟩=false):=fun j=>HSa.out.st.row.free (k*4+j)
      have hne:Nonempty (Z.Sub (fun u:World=>Below wc.heap.size wc u)):=⟨⟨_,h_va⟩⟩
      have q0:∀ s:Z.Sub (fun u:World=>Below wc.heap.size wc u),s.w.cell? ⟨r1,0,none⟩=some (.slice (some ⟨g,0,none⟩) L'.length cv'):=fun s=>Z.cell_on s.ok HS5.out.st.c0
      have q1:∀ s:Z.Sub (fun u:World=>Below wc.heap.size wc u),s.w.cell? ⟨xb,0,none⟩=some (.int .i64 e.x):=fun s=>Z.cell_on s.ok (cell_of_row wc xb 0 _ 103 (0,0) HXb.out)
      have q2:∀ s:Z.Sub (fun u:World=>Below wc.heap.size wc u),s.w.cell? ⟨xb,1,none⟩=some (.int .i64 e.z):=fun s=>Z.cell_on s.ok (cell_of_row wc xb 1 _ 103 (0,0) HXb.out)
      have q3:∀ s:Z.Sub (fun u:World=>Below wc.heap.size wc u),s.w.cell? ⟨xb,2,none⟩=some (.slice A cl C):=fun s=>Z.cell_on s.ok (cell_of_row wc xb 2 _ 103 (0,0) HXb.out)
      have q4:∀ s:Z.Sub (fun u:World=>Below wc.heap.size wc u),s.w.cell? ⟨xb,3,none⟩=some (.int .i64 (nk:Int)):=fun s=>Z.cell_on s.ok (cell_of_row wc xb 3 _ 103 (0,0) HXb.out)
      clear HS5 HC5 HXb
      generalize wc.drew=va at *
      refine Z.gen_L (by intro d v c a w h;cases d <;> exact h) (fun QX HQP HQX=>?_)
      refine Z.tk 0 rfl HQP h_va fun K hK=>?_;go_simp;refine hK _ ?_;clear hK K
      refine Z.tk 1 rfl HQP h_va fun K hK=>?_;go_simp;refine hK _ ?_;clear hK K
      refine Z.tk 2 rfl HQP h_va fun K hK=>?_;go_simp;refine hK _ ?_;clear hK K
      refine Z.tk 3 rfl HQP h_va fun K hK=>?_;go_simp;refine hK _ ?_;clear hK K
      refine Z.tk 4 rfl HQP h_va fun K hK=>?_;go_simp;refine hK _ ?_;clear hK K
      refine Z.tk 5 rfl HQP h_va fun K hK=>?_;go_simp;refine hK _ ?_;clear hK K
      refine Z.ol 6 rfl fun K hK=>?_
      go_simp
      refine hK.out _ _ (fun _=>h_va) ?_
      clear hK K
      refine Z.ol 7 rfl fun K hK=>?_
      have e0:=Z.cell_on h_va HEk.out.1
      have f0:va.frozen? ⟨g,k*4,none⟩=false:=Hfr.out 0
      have e1:=Z.cell_on h_va HEk.out.2.1
      have f1:va.frozen? ⟨g,k*4+1,none⟩=false:=Hfr.out 1
      have e2:=Z.cell_on h_va HEk.out.2.2.1
      have f2:va.frozen? ⟨g,k*4+2,none⟩=false:=Hfr.out 2
      have e3:=Z.cell_on h_va HEk.out.2.2.2
      have f3:va.frozen? ⟨g,k*4+3,none⟩=false:=Hfr.out 3
      have HN2:Hid (SV G w (((((va.setCell ⟨g,k*4,none⟩ (.int .i64 e.x)).setCell ⟨g,k*4+1,none⟩ (.int .i64 e.z)).setCell ⟨g,k*4+2,none⟩ (.slice A cl C)).setCell ⟨g,k*4+3,none⟩ (.int .i64 (nk:Int)))) r1 (L'.set k ⟨e.x,e.z,A,C,e.cells,nk⟩) (some ⟨g,0,none⟩) cv'):=by
       have h1:=HSa.out.put hk (q:=⟨e.x,e.z,A,C,e.cells,nk⟩) HCa.out HAg.out (by show nk<=100000;omega) ⟨HKy.out.1,HKy.out.2⟩
       rw [Hcl.out]
       exact h1
      clear hne q0 q1 q2 q3 q4
      go_simp
      refine hK.out _ _ (fun h=>absurd rfl h) ?_
      clear hK K h_va e0 e1 e2 e3 f0 f1 f2 f3 Hfr HEk
      refine Z.done_L (by kernel_rfl) ?_ _
      refine HQX.out _ _ ?_
      clear HQX HQP QX
      go_wp2
      go_roundw
      case rel=>exact ⟨i+1,_,_,_,by go_num,by omega,HN2.out,HD3.out⟩
      case measure=>simp [intOf];omega
    ·obtain rfl:n=i:=by omega
     have HS2:Hid (SV G w wr r1 L' av' cv'):=HS.out
     have HD2:Hid (S2 L.length L' E es n):=HD.out
     clear HS HD
     go_wp2
     go_loopw [13,14] (fun iv _ wr3=>∃ i:Nat,iv = .int .i64 (i:Int)∧i<=n∧Hid (SV G w wr3 r1 L' av' cv')∧Hid (∀ j (h:j<es.length),j<i->fitR (setE E es) (es[j].x/4) (es[j].z/4))) (fun iv _ _=>n-(intOf iv).toNat)
     case atStart=>exact ⟨0,rfl,Nat.zero_le _,HS2.out,fun j _ hj=>absurd hj (by omega)⟩
     case round =>
      obtain ⟨i,rfl,hi3,HS,HF⟩:=hrel
      clear HS2
      by_cases hlt:i<n
      ·have hlt':(i:Int)<(n:Int):=by omega
       have hil:i<es.length:=by rw [Hl.out];exact hlt
       obtain ⟨b0,o0,rfl,hat0⟩:=HEd.out i hil
       clear hat0
       have HAt:Hid (∀ W,Below w.heap.size w W->EbAt W b0 o0 i es[i]):=fun W hb=>by
        obtain ⟨b,off,e,h⟩:=(HEd.out.on hb) i hil
        cases e
        exact h
       have hnm:=HD2.out.named i hil hlt
       have HKy:Hid (Z.I64 es[i].x∧Z.I64 es[i].z):=HSt.out es[i] (List.getElem_mem hil)
       obtain ⟨e,he⟩:∃ e,e=es[i]:=⟨_,rfl⟩
       rw [<- he] at HAt HKy hnm
       have He:Hid (e=es[i]):=he
       obtain ⟨k,hk,hP,hm⟩:=plK_some hnm
       have HM:Hid (manyK L' e.x e.z=L'[k].m):=hm
       have HFt:Hid (Z.sumK L' e.x e.z L'[k].m<=40↔fitR (setE E es) (e.x/4) (e.z/4)):=by
        have h1:=HD2.out.doc
        rw [List.take_of_length_le (by rw [Hl.out];exact Nat.le_refl _)] at h1
        rw [<- HM.out]
        exact sumK_fit h1 HD2.out.many HE1.out e.x e.z
       have hat:=HAt.out wr HS.out.bel
       have c0:=hat.c0
       have c1:=hat.c1
       have hpl:=Z.splace_c HS.out.st e.x e.z
       rw [hP] at hpl
       clear hat he hnm hm hP HM
       go_wp2_with fail
       refine hpl.mono ?_
       clear hpl c0 c1
       rintro _ w3 ⟨rfl,hb3⟩
       have HSx:Hid (SV G w w3 r1 L' av' cv'):=HS.out.on hb3
       clear HS hb3
       have hform:=HSx.out.st.row.form
       rcases hform with ⟨_,he,_⟩|⟨g,rfl⟩
       ·rw [he] at hk;simp at hk
       have HS3:Hid (SV G w w3 r1 L' (some ⟨g,0,none⟩) cv'):=HSx.out
       clear HSx
       have Hc3:Hid (w3.cell? ⟨g,k*4+3,none⟩=some (.int .i64 (L'[k].m:Int))):=(HS3.out.st.row.cell hk).2.2.2
       obtain ⟨hcv,hmx⟩:L'.length<=cv'∧cv'<=maxLen:=by
        obtain ⟨_,_,_,h1,h2,_⟩:=HS3.out.st.row.blk
        exact ⟨h1,h2⟩
       have HSm:Hid (∀ W,Below w3.heap.size w3 W->Calls Tryz.prog 46 #[.pointer (some ⟨r1,0,none⟩),Z.valA e.x e.z,.int .i64 (L'[k].m:Int)] W fun e' w'=>e' = .returned (.int .i64 (Z.sumK L' e.x e.z L'[k].m:Int))∧Below W.heap.size W w'):=fun W hb=>Z.ssum_c (HS3.out.on hb).st HKy.out.1 HKy.out.2 _ (HS3.out.st.mb _ (List.getElem_mem hk))
       obtain ⟨mk,hmk⟩:∃ mk,mk=L'[k].m:=⟨_,rfl⟩
       rw [<- hmk] at Hc3 HSm HFt
       clear hmk
       obtain ⟨sm,hsm⟩:∃ sm,sm=Z.sumK L' e.x e.z mk:=⟨_,rfl⟩
       rw [<- hsm] at HSm HFt
       clear hsm
       go_upto_region 22 with fail
       refine Z.region_L (fun u:World=>Below w3.heap.size w3 u) 99 (by kernel_rfl) ?_
       have h_va:(fun u:World=>Below w3.heap.size w3 u) w3.drew:=(⟨rfl,rfl,rfl,Nat.le_refl _,fun _ _=>rfl⟩:Below w3.heap.size w3 w3.drew)
       have hne:Nonempty (Z.Sub (fun u:World=>Below w3.heap.size w3 u)):=⟨⟨_,h_va⟩⟩
       have q0:∀ s:Z.Sub (fun u:World=>Below w3.heap.size w3 u),s.w.cell? ⟨r1,0,none⟩=some (.slice (some ⟨g,0,none⟩) L'.length cv'):=fun s=>Z.cell_on s.ok HS3.out.st.c0
       have q1:∀ s:Z.Sub (fun u:World=>Below w3.heap.size w3 u),s.w.cell? ⟨b0,o0+i*3,none⟩=some (.int .i64 e.x):=fun s=>(HAt.out s.w (HS3.out.bel.trans (Below.mono s.ok HS3.out.bel.size))).c0
       have q2:∀ s:Z.Sub (fun u:World=>Below w3.heap.size w3 u),s.w.cell? ⟨b0,o0+i*3+1,none⟩=some (.int .i64 e.z):=fun s=>(HAt.out s.w (HS3.out.bel.trans (Below.mono s.ok HS3.out.bel.size))).c1
       have q3:∀ s:Z.Sub (fun u:World=>Below w3.heap.size w3 u),s.w.cell? ⟨g,k*4+3,none⟩=some (.int .i64 (mk:Int)):=fun s=>Z.cell_on s.ok Hc3.out
       generalize w3.drew=va at *
       refine Z.gen_L (by intro d v c a w h;cases d <;> exact h) (fun QX HQP HQX=>?_)
       refine Z.tk 0 rfl HQP h_va fun K hK=>?_;go_simp;refine hK _ ?_;clear hK K
       refine Z.tk 1 rfl HQP h_va fun K hK=>?_;go_simp;refine hK _ ?_;clear hK K
       refine Z.tk 2 rfl HQP h_va fun K hK=>?_;go_simp;refine hK _ ?_;clear hK K
       refine Z.tk 3 rfl HQP h_va fun K hK=>?_;go_simp;refine hK _ ?_;clear hK K
       refine Z.tk 4 rfl HQP h_va fun K hK=>?_;go_simp;refine hK _ ?_;clear hK K
       refine Z.tk 5 rfl HQP h_va fun K hK=>?_;go_simp;refine hK _ ?_;clear hK K
       refine Z.tk 6 rfl HQP h_va fun K hK=>?_;go_simp;refine hK _ ?_;clear hK K
       refine Z.tk 7 rfl HQP h_va fun K hK=>?_;go_simp;refine hK _ ?_;clear hK K
       refine Z.tk 8 rfl HQP h_va fun K hK=>?_;go_simp;refine hK _ ?_;clear hK K
       refine Z.tk 9 rfl HQP h_va fun K hK=>?_;go_simp;refine hK _ ?_;clear hK K
       refine Z.ol 10 rfl fun K hK=>?_
       go_simp
       refine hK.out _ _ (fun _=>h_va) ?_
       clear hK K
       refine Z.ol 11 rfl fun K hK=>?_
       go_simp
       refine hK.out _ _ (fun _=>h_va) ?_
       clear hK K
       refine Z.ol 12 rfl fun K hK=>?_
       go_simp
       refine hK.out _ _ (fun _=>h_va) ?_
       clear hK K
       refine Z.tk 13 rfl HQP h_va fun K hK=>?_;go_simp;refine hK _ ?_;clear hK K
       refine Z.ol 14 rfl fun K hK=>?_
       go_simp
       go_simp
       refine (HSm.out va h_va).mono ?_
       rintro _ v1 ⟨rfl,hb_v1⟩
       have h_v1:(fun u:World=>Below w3.heap.size w3 u) v1:=Below.trans h_va (hb_v1.mono (Below.size h_va))
       refine hK.out _ _ (fun _=>h_v1) ?_
       clear hK K
       refine Z.ol 15 rfl fun K hK=>?_
       go_simp
       refine hK.out _ _ (fun _=>h_v1) ?_
       clear hK K
       refine Z.done_L (by kernel_rfl) ?_ _
       refine HQX.out _ _ ?_
       clear HQX HQP QX
       have HS4:Hid (SV G w v1 r1 L' (some ⟨g,0,none⟩) cv'):=HS3.out.on h_v1
       clear hne q0 q1 q2 q3 HS3 HSm h_va
       by_cases hgt:40<sm
       ·have hgt':(40:Int)<(sm:Int):=by omega
        have R:=HN.out v1 (fun h=>absurd (HFt.out.2 (by have h1:=h es[i] (List.getElem_mem hil);rw [<- He.out] at h1;exact h1)) (by omega)) HS4.out.bel
        clear HN HT
        go_wp2
        exact R
       ·have hgt':¬ (40:Int)<(sm:Int):=by omega
        go_wp2
        go_roundw
        case rel=>exact ⟨i+1,by go_num,by omega,HS4.out,fun j hj hji=>by
         by_cases e1:j=i
         ·subst e1
          rw [<- He.out]
          exact HFt.out.1 (by omega)
         ·exact HF.out j hj (by omega)⟩
        case measure=>simp [intOf];omega
      ·obtain rfl:n=i:=by omega
       have R:=HT.out wr r1 L' av' cv' (fun e he=>by
        obtain ⟨j,hj,rfl⟩:=List.mem_iff_getElem.1 he
        exact HF.out j hj (by rw [<- Hl.out];exact hj)) HS.out HD2.out
       clear HT HN
       go_wp2
       exact R
end Go.Proofs.YtlllmmceoeihkaaGreat
set_option maxRecDepth 20000
namespace Go.Proofs.YtlllmmceoeihkaaGreat
open Go.RowKit
def resN (R:Rf) (E:Ed) (x z:Int) (cs:List Int):Nat:=2+othN R E (x/4) (z/4) (slotN x z) 16+needS (datB cs).length
def RsvSay (F:Nat->Prop) (w:World) (s d m n:Nat) (S:St) (V:List Bk) (R:Rf) (E:Ed) (x z:Int) (cs:List Int) (e:Ending) (w':World):Prop :=
 (40<resN R E x z cs∧e = .returned (.int .i64 11)∧Below w.heap.size w w') ∨
 (resN R E x z cs<=40∧e = .returned (.int .i64 0)∧Chg (fun k=>k=m) w w'∧SO F w' s d m (n+1) S V (R.put x z (needS (datB cs).length:Int)))
theorem datB_len (cs:List Int):(datB cs).length<=32788:=by
 unfold datB
 split
 ·exact Nat.zero_le _
 ·exact K.enc_len _
theorem put_rfok {R:Rf} (h:RfOk R) {x z v:Int} (hv:0<=v∧v<=1000):RfOk (R.put x z v):=fun x' z' u hu=>by
 unfold Rf.put at hu
 split at hu
 ·cases hu;exact hv
 ·exact h _ _ _ hu
set_option maxHeartbeats 4000000 in
theorem reserve_c {F:Nat->Prop} {w:World} {s d m n:Nat} {S:St} {V:List Bk} {R:Rf} (h:SO F w s d m n S V R) {E:Ed} (hE:Has V E) (hR:RfOk R) (ho:S.out=false) (hn:n<maxLen) {x z:Int} (hx : -1073741824<=x∧x<=1073741824) (hz : -1073741824<=z∧z<=1073741824) {g:Nat} {cs:List Int} (hB:K.Blk w g 122 cs) (hl:cs.length=32768) (hk:K.Kinds cs) :
  Calls Tryz.prog 31 #[.pointer (some ⟨s,0,none⟩),valA x z,.pointer (some ⟨g,0,none⟩)] w (RsvSay F w s d m n S V R E x z cs):=by
 obtain ⟨Post,hPost⟩:∃ Post:Ending->World->Prop,Post=RsvSay F w s d m n S V R E x z cs:=⟨_,rfl⟩
 rw [<- hPost]
 have H1:Hid (∀ w',40<resN R E x z cs->Below w.heap.size w w'->Post (.returned (.int .i64 11)) w'):=fun w' h1 h2=>by rw [hPost];exact .inl ⟨h1,rfl,h2⟩
 have H0:Hid (∀ w',resN R E x z cs<=40->Chg (fun k=>k=m) w w'->SO F w' s d m (n+1) S V (R.put x z (needS (datB cs).length:Int))->Post (.returned (.int .i64 0)) w'):=fun w' h1 h2 h3=>by rw [hPost];exact .inr ⟨h1,rfl,h2,h3⟩
 clear hPost
 have hIx:I64 x:=⟨by omega,by omega⟩
 have hIz:I64 z:=⟨by omega,by omega⟩
 obtain ⟨hb0,k0⟩:=box_a w x z
 have HS:Hid (SO F w s d m n S V R):=h
 have HRg:Hid (∀ W,Below w.heap.size w W->Calls Tryz.prog 33 #[.pointer (some ⟨s,0,none⟩),.int .i64 (x/4),.int .i64 (z/4)] W (RegSay S V E (x/4) (z/4) W)):=fun W hb=>region_c (h.on hb) hE _ _ (div_i64 hIx) (div_i64 hIz)
 have HHm:Hid (∀ W,Calls Tryz.prog 52 #[valA x z] W fun e w'=>e = .returned (.tuple #[valA (x/4) (z/4),.int .i64 (slotN x z:Int)])∧Below W.heap.size W w'):=fun W=>home_c x z hIx hIz W
 have HBo:Hid (∀ W,Below w.heap.size w W->Calls Tryz.prog 58 #[.pointer (some ⟨g,0,none⟩)] W fun e w'=>Below W.heap.size W w'∧∃ a c,e = .returned (.slice a (datB cs).length c)∧Own w' W.heap.size a c (datB cs)):=fun W hb=>bytesOf_c g cs W ((hb.block g (Array.getElem?_eq_some_iff.1 hB).1).trans hB) hl hk
 have HOt:Hid (∀ W FR g' sp,Below w.heap.size w W->RGs FR W g' ⟨x/4,z/4,sp,regD E (x/4) (z/4)⟩->Calls Tryz.prog 59 #[.pointer (some ⟨s,0,none⟩),valA (x/4) (z/4),.int .i64 (slotN x z:Int),.pointer (some ⟨g',0,none⟩)] W fun e w'=>Below W.heap.size W w'∧e = .returned (.int .i64 (othN R E (x/4) (z/4) (slotN x z) 16:Int))):=fun W FR g' sp hb hG=>others_c (h.on hb) hR ⟨by omega,by omega⟩ ⟨by omega,by omega⟩ hG _ (slotN_lt x z)
 have HRe:Hid (resN R E x z cs=2+othN R E (x/4) (z/4) (slotN x z) 16+needS (datB cs).length):=rfl
 have hol:=othN_le hR E (x/4) (z/4) (slotN x z) 16
 have HDl:Hid ((datB cs).length<=32788):=datB_len cs
 have HPu:Hid (∀ W,SO F W s d m n S V R->(needS (datB cs).length:Int)<=10000->∃ w',(Instr.mapUpdate 90 (.map (some m)) (valA x z) (.int .i64 (needS (datB cs).length:Int))).run Tryz.prog W = .ok () w'∧SO F w' s d m (n+1) S V (R.put x z (needS (datB cs).length:Int))∧Chg (fun k=>k=m) W w'):=fun W hS hle=>by
  obtain ⟨w',h1,h2,h3⟩:=hS.mp.put hn hIx hIz (v:=(needS (datB cs).length:Int)) ⟨by omega,by omega⟩
  obtain ⟨j,hj,hJ⟩:=hS.hd
  have hmF:∀ k,F k->w'.heap[k]?=W.heap[k]?:=fun k hk=>turned_block h3 (fun e=>hS.fm (e▸hk))
  have hz:=(World.mapTurned.grown h3)
  refine ⟨w',h1,⟨⟨j,(turned_row h3 hj).trans hj,jspec.jp_keep hJ hmF⟩,h2,hS.fs,hS.fm,fun k hk=>Nat.lt_of_lt_of_le (hS.lt k hk) hz.size⟩,⟨hz.os,hz.tape,hz.output,hz.size,fun k _ hne=>turned_block h3 hne⟩⟩
 clear h hE hR hB
 generalize (datB cs).length=D at *
 generalize othN R E (x/4) (z/4) (slotN x z) 16=O at *
 go_enter Tryz.func31,Tryz.ntmps31
 go_wp2_with fail
 refine (HHm.out _).mono ?_
 rintro _ w1 ⟨rfl,hb1⟩
 have Hb1:Hid (Below w.heap.size w w1):=hb0.trans (hb1.mono hb0.size)
 have HBx:Hid (w1.heap[w.heap.size]?=some (.cells #[.int .i64 x,.int .i64 z] 39 (0,0))):=(hb1.block _ (Array.getElem?_eq_some_iff.1 k0).1).trans k0
 clear hb0 hb1 k0 HHm
 go_wp2_with fail
 have hb2:=Hb1.out.alloc Hb1.out.size (.cells #[.int .i64 (x/4),.int .i64 (z/4)] 39)
 have hbw:Below w1.heap.size w1 (w1.alloc (.cells #[.int .i64 (x/4),.int .i64 (z/4)] 39)):=(Below.refl _ _).alloc (Nat.le_refl _) _
 have hin:=heap_alloc_new w1 (.cells #[.int .i64 (x/4),.int .i64 (z/4)] 39)
 refine (HRg.out _ hb2).mono ?_
 rintro _ w2 ⟨hb3,⟨h1,_⟩|⟨_,g2,FR,sp,rfl,hG,_,hF⟩⟩
 ·rw [ho] at h1;cases h1
 have Hb2:Hid (Below w.heap.size w w2):=hb2.trans (hb3.mono hb2.size)
 have HBx2:Hid (w2.heap[w.heap.size]?=some (.cells #[.int .i64 x,.int .i64 z] 39 (0,0))):=((hbw.trans (hb3.mono hbw.size)).block _ (Array.getElem?_eq_some_iff.1 HBx.out).1).trans HBx.out
 have HIn:Hid (w2.heap[w1.heap.size]?=some (.cells #[.int .i64 (x/4),.int .i64 (z/4)] 39 (0,0))):=(hb3.block _ (Array.getElem?_eq_some_iff.1 hin).1).trans hin
 have HG:Hid (RGs FR w2 g2 ⟨x/4,z/4,sp,regD E (x/4) (z/4)⟩):=hG
 clear hb2 hbw hin hb3 hG hF HBx Hb1 HRg ho
 generalize w1.heap.size=ib at *
 clear w1
 go_wp2_with fail
 refine (HBo.out _ Hb2.out).mono ?_
 rintro _ w3 ⟨hb3,ba,bc,rfl,_⟩
 have Hb3:Hid (Below w2.heap.size w2 w3):=hb3
 clear hb3 HBo
 have hnd:=need_n D (by have:=HDl.out;omega) w3
 go_wp2_with fail
 refine hnd.mono ?_
 clear hnd
 rintro _ w3' ⟨rfl,hwe⟩
 replace hwe:=hwe.symm
 subst hwe
 have hi3:w3.heap[ib]?=_:=(Hb3.out.block _ (Array.getElem?_eq_some_iff.1 HIn.out).1).trans HIn.out
 have i0:w3.cell? ⟨ib,0,none⟩=some (.int .i64 (x/4)):=by rw [cell_of_row _ _ 0 _ 39 (0,0) hi3];rfl
 have i1:w3.cell? ⟨ib,1,none⟩=some (.int .i64 (z/4)):=by rw [cell_of_row _ _ 1 _ 39 (0,0) hi3];rfl
 have hot:=HOt.out w3 FR g2 sp (Hb2.out.trans (Hb3.out.mono Hb2.out.size)) (HG.out.keep (fun k hk=>Hb3.out.block k (HG.out.lt k hk)) Hb3.out.size)
 clear hi3 HOt HG
 go_wp2_with fail
 refine hot.mono ?_
 clear hot i0 i1
 rintro _ w4 ⟨hb4,rfl⟩
 have hnD:needS D<=1025:=by have:=HDl.out;unfold needS;omega
 have Hb4:Hid (Below w2.heap.size w2 w4):=Hb3.out.trans (hb4.mono Hb3.out.size)
 clear Hb3 HIn hb4 HDl
 generalize needS D=N at *
 by_cases h40:40<2+O+N
 ·have h40':(40:Int)<2+(O:Int)+(N:Int):=by omega
  have R:=H1.out w4 (by rw [HRe.out];exact h40) (Hb2.out.trans (Hb4.out.mono Hb2.out.size))
  clear H1 H0 HS HRe HPu Hb2 HBx2 Hb4
  go_wp2
  exact R
 ·have h40':¬ (40:Int)<2+(O:Int)+(N:Int):=by omega
  have HW4:Hid (Below w.heap.size w w4):=Hb2.out.trans (Hb4.out.mono Hb2.out.size)
  have HX4:Hid (w4.heap[w.heap.size]?=some (.cells #[.int .i64 x,.int .i64 z] 39 (0,0))):=(Hb4.out.block _ (Array.getElem?_eq_some_iff.1 HBx2.out).1).trans HBx2.out
  have HS4:Hid (SO F w4 s d m n S V R):=HS.out.on HW4.out
  have Hm:Hid (m<w.heap.size):=HS.out.lts.2
  have HLe:Hid (resN R E x z cs<=40):=by show _<=_;rw [HRe.out];omega
  clear HS Hb2 HBx2 Hb4 H1 HRe
  go_upto_region 8 with fail
  refine Z.region_L (fun u=>SO F u s d m n S V R∧Chg (fun _=>False) w4 u∨SO F u s d m (n+1) S V (R.put x z (N:Int))∧Chg (fun k=>k=m) w4 u) 99 (by kernel_rfl) ?_
  have hdr:Below w4.heap.size w4 w4.drew:=⟨rfl,rfl,rfl,Nat.le_refl _,fun _ _=>rfl⟩
  have h_va:(fun u=>SO F u s d m n S V R∧Chg (fun _=>False) w4 u∨SO F u s d m (n+1) S V (R.put x z (N:Int))∧Chg (fun k=>k=m) w4 u) w4.drew:=.inl ⟨HS4.out.on hdr,chg_of_below hdr⟩
  have HSa:Hid (SO F w4.drew s d m n S V R):=HS4.out.on hdr
  have HCa:Hid (Chg (fun k=>k=m) w4 w4.drew):=chg_of_below hdr
  clear hdr
  have hne:Nonempty (Z.Sub (fun u=>SO F u s d m n S V R∧Chg (fun _=>False) w4 u∨SO F u s d m (n+1) S V (R.put x z (N:Int))∧Chg (fun k=>k=m) w4 u)):=⟨⟨_,h_va⟩⟩
  generalize w4.drew=va at *
  have q0:∀ s':Z.Sub (fun u=>SO F u s d m n S V R∧Chg (fun _=>False) w4 u∨SO F u s d m (n+1) S V (R.put x z (N:Int))∧Chg (fun k=>k=m) w4 u),s'.w.cell? ⟨s,2,none⟩=some (.map (some m)):=fun s'=>by
   rcases s'.ok with ⟨hS,_⟩|⟨hS,_⟩
   ·obtain ⟨j,hj,_⟩:=hS.hd
    rw [cell_of_row _ s 2 _ 92 (0,0) hj];rfl
   ·obtain ⟨j,hj,_⟩:=hS.hd
    rw [cell_of_row _ s 2 _ 92 (0,0) hj];rfl
  have HXa:Hid (∀ u,(fun u=>SO F u s d m n S V R∧Chg (fun _=>False) w4 u∨SO F u s d m (n+1) S V (R.put x z (N:Int))∧Chg (fun k=>k=m) w4 u) u->u.heap[w.heap.size]?=some (.cells #[.int .i64 x,.int .i64 z] 39 (0,0))):=fun u hu=>by
   have hlt:=(Array.getElem?_eq_some_iff.1 HX4.out).1
   rcases hu with ⟨_,hC⟩|⟨_,hC⟩
   ·exact (hC.block _ hlt (fun h=>h)).trans HX4.out
   ·exact (hC.block _ hlt (fun h=>by have:=Hm.out;omega)).trans HX4.out
  have q1:∀ s':Z.Sub (fun u=>SO F u s d m n S V R∧Chg (fun _=>False) w4 u∨SO F u s d m (n+1) S V (R.put x z (N:Int))∧Chg (fun k=>k=m) w4 u),s'.w.cell? ⟨w.heap.size,0,none⟩=some (.int .i64 x):=fun s'=>by rw [cell_of_row _ _ 0 _ 39 (0,0) (HXa.out _ s'.ok)];rfl
  have q2:∀ s':Z.Sub (fun u=>SO F u s d m n S V R∧Chg (fun _=>False) w4 u∨SO F u s d m (n+1) S V (R.put x z (N:Int))∧Chg (fun k=>k=m) w4 u),s'.w.cell? ⟨w.heap.size,1,none⟩=some (.int .i64 z):=fun s'=>by rw [cell_of_row _ _ 1 _ 39 (0,0) (HXa.out _ s'.ok)];rfl
  obtain ⟨v1,hrun,hS1,hC1⟩:=HPu.out va HSa.out (by omega)
  have HS1:Hid (SO F v1 s d m (n+1) S V (R.put x z (N:Int))∧Chg (fun k=>k=m) w4 v1):=⟨hS1,HCa.out.idem hC1⟩
  clear hS1 hC1 HPu
  refine Z.gen_L (by intro d v c a w h;cases d <;> exact h) (fun QX HQP HQX=>?_)
  refine Z.tk 0 rfl HQP h_va fun K hK=>?_;go_simp;refine hK _ ?_;clear hK K
  refine Z.tk 1 rfl HQP h_va fun K hK=>?_;go_simp;refine hK _ ?_;clear hK K
  refine Z.tk 2 rfl HQP h_va fun K hK=>?_;go_simp;refine hK _ ?_;clear hK K
  refine Z.tk 3 rfl HQP h_va fun K hK=>?_;go_simp;refine hK _ ?_;clear hK K
  refine Z.tk 4 rfl HQP h_va fun K hK=>?_;go_simp;refine hK _ ?_;clear hK K
  refine Z.ol 5 rfl fun K hK=>?_
  go_simp
  refine hK.out _ _ (fun _=>h_va) ?_
  clear hK K
  refine Z.ol 6 rfl fun K hK=>?_
  go_simp
  go_simp
  refine hK.out _ _ (fun _=>.inr HS1.out) ?_
  clear hK K
  refine Z.done_L (by kernel_rfl) ?_ _
  refine HQX.out _ _ ?_
  clear HQX HQP QX
  have R:=H0.out v1 HLe.out ((chg_of_below HW4.out).idem HS1.out.2) HS1.out.1
  clear HS1 H0 hrun q0 q1 q2 hne HXa HSa HCa HX4 HS4 Hm HLe HW4
  go_simp
  go_wp2
  exact R
end Go.Proofs.YtlllmmceoeihkaaGreat
