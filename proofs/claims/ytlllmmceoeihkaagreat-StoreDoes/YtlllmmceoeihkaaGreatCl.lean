/-
  A region that draws its order: what only reads is taken first, in a class of worlds that holds up to the last operation, which waits for all others (a store).
  Classes of worlds for drawn regions: what lay below is as it was; some blocks hold what they hold.
-/
import Derived.Test.YtlllmmceoeihkaaGreatDv
import Derived.Deep.RegionHeld
import Derived.Below
namespace Go.Proofs.YtlllmmceoeihkaaGreat.Z
open Go.RowKit
structure Sub (S:World->Prop) where
 w:World
 ok:S w
def wpAnyL (P:Program) (md:Region.Mode) (ops:Array Oper) (Q:Exit->Act->World->Prop) (S:World->Prop) (n:Nat):Nat->Array Bool->Act->World->Prop
 | 0,listed,a,w=>Region.ready md ops listed=[]∧Q .normal a w
 | fuel+1,listed,a,w =>
   (Region.ready md ops listed=[]->Q .normal a w) ∧
   ∀ i∈Region.ready md ops listed,wpOp P ops Q i (fun a' w'=>(i≠n->S w')∧wpAnyL P md ops Q S n fuel (listed.setIfInBounds i true) a' w') a w
section
variable {P:Program} {ops:Array Oper} {Q:Exit->Act->World->Prop} {md:Region.Mode} {S:World->Prop} {n:Nat}
theorem wpAny_of_heldL:∀ (fuel:Nat) (listed:Array Bool) (a:Act) (w:World),wpAnyL P md ops Q S n fuel listed a w->wpAny P md ops Q fuel listed a w
 | 0,_,_,_,h=>h
 | fuel+1,_,_,_,h=>⟨h.1,fun i hi=>wpOp_mono (fun a' w' h'=>wpAny_of_heldL fuel _ a' w' h'.2) (h.2 i hi)⟩
def waitsB (md:Region.Mode) (ops:Array Oper) (n i:Nat):Bool:=((ops[n]?).map fun o=>o.after.any fun e=>Region.binds md e && e.on == i).getD true
theorem waits_spec {listed:Array Bool} {i:Nat} (h:waitsB md ops n i=true) (hr:i∈Region.ready md ops listed):n∉Region.ready md ops listed:=fun hn=>by
 obtain ⟨_,o,ho,hall⟩:=mem_ready.1 hn
 unfold waitsB at h
 rw [ho] at h
 obtain ⟨e,he,heb⟩:=Array.any_eq_true'.1 h
 simp only [Bool.and_eq_true,beq_iff_eq] at heb
 have h1:=hall e he heb.1
 rw [heb.2] at h1
 have h0:=(mem_ready.1 hr).1
 rcases Nat.lt_or_ge i listed.size with h' | h'
 ·simp [h'] at h0 h1;rw [h0] at h1;cases h1
 ·simp [Array.getElem?_eq_none h'] at h1
theorem wpAnyL_first {i:Nat} {oi:Oper} {v:Value} (hi:ops[i]?=some oi) (hsel:∀ (j:Nat) (o:Oper) cs b,ops[j]?=some o->o.op ≠ .select cs b)
  (hQ:∀ c a w,Q (.panic c) (a.put oi.dst v) w->Q (.panic c) a w) (hin:waitsB md ops n i=true) :
  ∀ (fuel:Nat) (listed:Array Bool) (a:Act) (w:World),
    (∀ j oj,ops[j]?=some oj->j≠i->listed.getD j true=false->(∀ e∈oj.after,Region.binds md e=true->e.on≠i)->oi.apart ops oj=true) ->
    i∈Region.ready md ops listed->YieldsIf P ops S oi v a->S w ->
    wpAnyL P md ops Q S n fuel (listed.setIfInBounds i true) (a.put oi.dst v) w->wpAnyL P md ops Q S n (fuel+1) listed a w:=by
 intro fuel
 induction fuel with
 | zero =>
   intro listed a w _ hr hy hS H
   refine ⟨fun h=>(by rw [h] at hr;cases hr),fun j hj=>?_⟩
   by_cases hji:j=i
   ·subst hji;exact hy.wpOp hi hS ⟨fun _=>hS,H⟩
   ·have:=ready_mono hj hji
    rw [H.1] at this
    cases this
 | succ fuel ih =>
   intro listed a w hfree hr hy hS H
   refine ⟨fun h=>(by rw [h] at hr;cases hr),fun j hj=>?_⟩
   have hjn:j≠n:=fun e=>waits_spec hin hr (e▸hj)
   by_cases hji:j=i
   ·subst hji;exact hy.wpOp hi hS ⟨fun _=>hS,H⟩
   ·have h1:=H.2 j (ready_mono hj hji)
    obtain ⟨hjun,oj,hoj,hall⟩:=mem_ready.1 hj
    have hnot:∀ e∈oj.after,Region.binds md e=true->e.on≠i:=fun e he hb heq=>by
     have h1:=hall e he hb
     have h0:=(mem_ready.1 hr).1
     rw [heq] at h1
     rcases Nat.lt_or_ge i listed.size with h' | h'
     ·simp [h'] at h0 h1;rw [h0] at h1;cases h1
     ·simp [Array.getElem?_eq_none h'] at h1
    have h2:=wpOp_putIf hoj (hfree j oj hoj hji hjun hnot) (fun cs b=>hsel i oi cs b hi) (fun cs b=>hsel j oj cs b hoj) hQ hy h1
    have hfree':∀ k ok,ops[k]?=some ok->k≠i->(listed.setIfInBounds j true).getD k true=false ->
      (∀ e∈ok.after,Region.binds md e=true->e.on≠i)->oi.apart ops ok=true:=fun k ok hk hki hun hno=>by
     refine hfree k ok hk hki ?_ hno
     by_cases hjk:j=k
     ·subst hjk;exact hjun
     ·rw [getD_set_ne true hjk] at hun;exact hun
    refine wpOp_mono (fun a' w' h3=>⟨h3.2.1,ih (listed.setIfInBounds j true) a' w' hfree' (ready_mono hr (Ne.symm hji)) h3.1 (h3.2.1 hjn) ?_⟩) h2
    rw [Array.setIfInBounds_comm _ _ hji]
    exact h3.2.2
theorem take_L {i:Nat} {oi:Oper} {fuel:Nat} {listed:Array Bool} {a:Act} {w:World} (hi:ops[i]?=some oi)
  (hs:Region.noSelect ops=true) (hf:Region.free md ops listed i=true) (hr:(Region.ready md ops listed).contains i=true) (hin:waitsB md ops n i=true)
  (hQ:∀ v c a w,Q (.panic c) (a.put oi.dst v) w->Q (.panic c) a w) (hS:S w)
  (h:∀ K:Act->Prop,(∀ a,wpAnyL P md ops Q S n fuel (listed.setIfInBounds i true) a w->K a)->if Region.wanted oi (yielded ops a.tmps)=true then ∃ v,(∀ s:Sub S,(execOp a.eval oi).run P s.w = .ok (.value v) s.w)∧K (a.put oi.dst v) else K (a.put oi.dst undef)) :
  wpAnyL P md ops Q S n (fuel+1) listed a w:=by
 have h':=h _ (fun _ h=>h)
 by_cases hw:Region.wanted oi (yielded ops a.tmps)=true
 ·rw [if_pos hw] at h'
  obtain ⟨v,hv,hk⟩:=h'
  exact wpAnyL_first hi (Region.noSelect_spec hs) (hQ v) hin fuel listed a w (Region.free_spec hi hf) (by simpa using hr) (Or.inl ⟨hw,fun w hS=>hv ⟨w,hS⟩⟩) hS hk
 ·rw [if_neg hw] at h'
  exact wpAnyL_first hi (Region.noSelect_spec hs) (hQ undef) hin fuel listed a w (Region.free_spec hi hf) (by simpa using hr) (Or.inr ⟨by simpa using hw,rfl⟩) hS h'
theorem tk0 (i:Nat) {oi:Oper} {fuel:Nat} {listed:Array Bool} {a:Act} {w:World} (hi:ops[i]?=some oi) (hQ:∀ v c a w,Q (.panic c) (a.put oi.dst v) w->Q (.panic c) a w) (hS:S w)
 (h:∀ K:Act->Prop,(∀ a,wpAnyL P md ops Q S n fuel (listed.setIfInBounds i true) a w->K a)->if Region.wanted oi (yielded ops a.tmps)=true then ∃ v,(∀ s:Sub S,(execOp a.eval oi).run P s.w = .ok (.value v) s.w)∧K (a.put oi.dst v) else K (a.put oi.dst undef))
 (hs:Region.noSelect ops=true:=by kernel_rfl) (hf:Region.free md ops listed i=true:=by kernel_rfl) (hr:(Region.ready md ops listed).contains i=true:=by kernel_rfl) (hin:waitsB md ops n i=true:=by kernel_rfl) :
 wpAnyL P md ops Q S n (fuel+1) listed a w:=take_L hi hs hf hr hin hQ hS h
theorem tk (i:Nat) {oi:Oper} {fuel:Nat} {listed:Array Bool} {a:Act} {w:World} (hi:ops[i]?=some oi) (hQ:Hid (∀ d v c (a:Act) w,Q (.panic c) (a.put d v) w->Q (.panic c) a w)) (hS:S w)
 (h:∀ K:Act->Prop,(∀ a,wpAnyL P md ops Q S n fuel (listed.setIfInBounds i true) a w->K a)->if Region.wanted oi (yielded ops a.tmps)=true then ∃ v,(∀ s:Sub S,(execOp a.eval oi).run P s.w = .ok (.value v) s.w)∧K (a.put oi.dst v) else K (a.put oi.dst undef))
 (hs:Region.noSelect ops=true:=by kernel_rfl) (hf:Region.free md ops listed i=true:=by kernel_rfl) (hr:(Region.ready md ops listed).contains i=true:=by kernel_rfl) (hin:waitsB md ops n i=true:=by kernel_rfl) :
 wpAnyL P md ops Q S n (fuel+1) listed a w:=take_L hi hs hf hr hin (fun _ _ _ _ h=>hQ.out _ _ _ _ _ h) hS h
theorem one_L {i:Nat} {o:Oper} {fuel:Nat} {listed:Array Bool} {a:Act} {w:World} (hr:Region.ready md ops listed=[i]) (ho:ops[i]?=some o)
  (h:∀ K':Act->World->Prop,Shut (∀ a w,(i≠n->S w)->wpAnyL P md ops Q S n fuel (listed.setIfInBounds i true) a w->K' a w)->if Region.wanted o (yielded ops a.tmps)=true then Oper.wp P o a w K' Q else K' (a.put o.dst undef) w):wpAnyL P md ops Q S n (fuel+1) listed a w :=
 ⟨fun h0=>(by rw [hr] at h0;cases h0),fun j hj=>(by
  rw [hr] at hj
  obtain rfl:=List.mem_singleton.1 hj
  exact wpOp_step ho (fun K' hK=>h K' (fun a w hS hW=>hK a w ⟨hS,hW⟩)))⟩
theorem ol (i:Nat) {o:Oper} {fuel:Nat} {listed:Array Bool} {a:Act} {w:World} (ho:ops[i]?=some o)
 (h:∀ K':Act->World->Prop,Shut (∀ a w,(i≠n->S w)->wpAnyL P md ops Q S n fuel (listed.setIfInBounds i true) a w->K' a w)->if Region.wanted o (yielded ops a.tmps)=true then Oper.wp P o a w K' Q else K' (a.put o.dst undef) w)
 (hr:Region.ready md ops listed=[i]:=by kernel_rfl):wpAnyL P md ops Q S n (fuel+1) listed a w:=one_L hr ho h
theorem done_L {listed:Array Bool} {a:Act} {w:World} (hr:Region.ready md ops listed=[]) (h:Q .normal a w):∀ fuel,wpAnyL P md ops Q S n fuel listed a w
 | 0=>⟨hr,h⟩
 | _+1=>⟨fun _=>h,by rw [hr];simp⟩
theorem gen_L {fuel:Nat} {listed:Array Bool} {a:Act} {w:World} (hq:∀ d v c (a:Act) w,Q (.panic c) (a.put d v) w->Q (.panic c) a w) (h:∀ Q':Exit->Act->World->Prop,Hid (∀ d v c (a:Act) w,Q' (.panic c) (a.put d v) w->Q' (.panic c) a w)->Hid (∀ a w,Q .normal a w->Q' .normal a w)->wpAnyL P md ops Q' S n fuel listed a w):wpAnyL P md ops Q S n fuel listed a w:=h Q hq (fun _ _ h=>h)
theorem region_L (S:World->Prop) (n:Nat) {id:Nat} {a:Act} {w:World} (hm:P.follows .mixedOrders=true)
  (h:wpAnyL P .any ops Q S n ops.size (Array.replicate ops.size false) a w.drew):(Code.region id ops true).wp P Q a w :=
 wp_region_any hm (wpAny_of_heldL _ _ _ _ h)
end
/-! ### an operation that alone may come up, walked as a list of one -/
theorem one_W {P:Program} {ops:Array Oper} {Q:Exit->Act->World->Prop} {md:Region.Mode} {S:World->Prop} {n i:Nat} {o:Oper} {fuel:Nat} {listed:Array Bool} {a:Act} {w:World} (hr:Region.ready md ops listed=[i]) (ho:ops[i]?=some o)
  (h:∀ K':Act->World->Prop,Shut (∀ a w,(i≠n->S w)->wpAnyL P md ops Q S n fuel (listed.setIfInBounds i true) a w->K' a w)->wpList P ops (Exit.then K' Q) [o] a w):wpAnyL P md ops Q S n (fuel+1) listed a w :=
 ⟨fun h0=>(by rw [hr] at h0;cases h0),fun j hj=>(by
  rw [hr] at hj
  obtain rfl:=List.mem_singleton.1 hj
  have h1:=h (fun a' w'=>(j≠n->S w')∧wpAnyL P md ops Q S n fuel (listed.setIfInBounds j true) a' w') (fun a w hS hW=>⟨hS,hW⟩)
  unfold wpOp
  rw [ho]
  unfold wpList at h1
  simp only
  split
  ·rename_i hw
   rw [if_pos hw] at h1
   rcases h1 with h1 | h1
   ·refine .inl ?_
    unfold Oper.wp at h1 ⊢
    generalize (execOp a.eval o).run P w=r at h1 ⊢
    cases r with
    | ok x w'=>cases x <;> exact h1
    | halt x w'=>cases x <;> exact h1
   ·exact .inr h1
  ·rename_i hw
   rw [if_neg hw] at h1
   exact h1)⟩
end Go.Proofs.YtlllmmceoeihkaaGreat.Z
set_option maxRecDepth 20000
namespace Go.Proofs.YtlllmmceoeihkaaGreat.Z
open Go.RowKit
structure Cls (B:Nat) (w:World) (bs:List (Nat×Obj)) (u:World):Prop where
 le:B<=w.heap.size
 bel:Below B w u
 at_:∀ p∈bs,u.heap[p.1]?=some p.2
section
variable {B:Nat} {w u u':World} {bs:List (Nat×Obj)}
theorem Cls.on (h:Cls B w bs u) (hb:Below u.heap.size u u'):Cls B w bs u' :=
 ⟨h.le,h.bel.trans (hb.mono (Nat.le_trans h.le h.bel.size)),fun p hp=>(hb.block p.1 (Array.getElem?_eq_some_iff.1 (h.at_ p hp)).1).trans (h.at_ p hp)⟩
theorem Cls.alloc (h:Cls B w bs u) (o:Obj):Cls B w bs (u.alloc o):=h.on ((Below.refl _ _).alloc (Nat.le_refl _) o)
theorem Cls.drew (h:Cls B w bs u):Cls B w bs u.drew:=h.on ⟨rfl,rfl,rfl,Nat.le_refl _,fun _ _=>rfl⟩
theorem Cls.size (h:Cls B w bs u):B<=u.heap.size:=Nat.le_trans h.le h.bel.size
theorem Cls.store (h:Cls B w bs u) {c:Nat} (hc:B<=c) (hn:∀ p∈bs,p.1≠c) (k:Nat) (v:Value):Cls B w bs (u.setCell ⟨c,k,none⟩ v) :=
 ⟨h.le,h.bel.setCell (p:=⟨c,k,none⟩) hc v,fun p hp=>(Below.heap_setCell u ⟨c,k,none⟩ v p.1 (hn p hp)).trans (h.at_ p hp)⟩
theorem Cls.more (h:Cls B w bs u) {b:Nat} {o:Obj} (hb:u.heap[b]?=some o):Cls B w ((b,o)::bs) u :=
 ⟨h.le,h.bel,fun p hp=>by
  rcases List.mem_cons.1 hp with rfl | hp
  ·exact hb
  ·exact h.at_ p hp⟩
theorem Cls.start (w:World):Cls w.heap.size w [] w:=⟨Nat.le_refl _,Below.refl _ _,fun p hp=>by cases hp⟩
theorem Cls.cell (h:Cls B w bs u) {b:Nat} {cs:Array Value} {t:TypeId} (hp:(b,.cells cs t (0,0))∈bs) (k:Nat):u.cell? ⟨b,k,none⟩=cs[k]?:=cell_of_row u b k cs t (0,0) (h.at_ _ hp)
end
theorem two_L {P:Program} {ops:Array Oper} {Q:Exit->Act->World->Prop} {md:Region.Mode} {S:World->Prop} {n:Nat} {i j:Nat} {oi oj:Oper} {fuel:Nat} {listed:Array Bool} {a:Act} {w:World} (hr:Region.ready md ops listed=[i,j]) (hoi:ops[i]?=some oi) (hoj:ops[j]?=some oj)
  (h1:∀ K':Act->World->Prop,Shut (∀ a w,(i≠n->S w)->wpAnyL P md ops Q S n fuel (listed.setIfInBounds i true) a w->K' a w)->if Region.wanted oi (yielded ops a.tmps)=true then Oper.wp P oi a w K' Q else K' (a.put oi.dst undef) w)
  (h2:∀ K':Act->World->Prop,Shut (∀ a w,(j≠n->S w)->wpAnyL P md ops Q S n fuel (listed.setIfInBounds j true) a w->K' a w)->if Region.wanted oj (yielded ops a.tmps)=true then Oper.wp P oj a w K' Q else K' (a.put oj.dst undef) w):wpAnyL P md ops Q S n (fuel+1) listed a w :=
 ⟨fun h0=>(by rw [hr] at h0;cases h0),fun k hk=>(by
  rw [hr] at hk
  rcases List.mem_cons.1 hk with rfl | hk
  ·exact wpOp_step hoi (fun K' hK=>h1 K' (fun a w hS hW=>hK a w ⟨hS,hW⟩))
  ·obtain rfl:=List.mem_singleton.1 hk
   exact wpOp_step hoj (fun K' hK=>h2 K' (fun a w hS hW=>hK a w ⟨hS,hW⟩)))⟩
end Go.Proofs.YtlllmmceoeihkaaGreat.Z
