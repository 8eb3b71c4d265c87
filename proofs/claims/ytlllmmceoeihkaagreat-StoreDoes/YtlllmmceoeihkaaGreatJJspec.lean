/-
  copied: a group of the law's own.
  Plain mathematics: what a disk shows besides the journal's file, and whole's answer.
  What is asked of a journal, as a structure: the laws are walked over it.
-/
import Derived.Test.YtlllmmceoeihkaaGreatJMay
import Derived.Test.YtlllmmceoeihkaaGreatGwrites
import Derived.Laws.OwnMore
import Derived.Test.YtlllmmceoeihkaaGreatJSrcs
import Derived.MapKept
import Derived.Laws.StructEq
set_option maxRecDepth 20000
namespace Go.Proofs.YtlllmmceoeihkaaGreat
open Go.RowKit
abbrev ptCells (p:Pt):List Value:=[.int .i64 p.f.1,.int .i64 p.f.2.1,.int .i64 p.f.2.2,.int .i64 p.i,.slice p.a p.n p.c]
def cpCells (l:List Pt):List Value:=l.flatMap ptCells
theorem cpCells_snoc (l:List Pt) (p:Pt):cpCells (l++[p])=cpCells l++ptCells p:=by
 unfold cpCells
 rw [List.flatMap_append]
 simp
theorem cpCells_at:∀ (l:List Pt) (k:Nat) (h:k<l.length),(∀ m,m<5->(cpCells l)[k*5+m]?=(ptCells l[k])[m]?)
 | [],k,h=>absurd h (Nat.not_lt_zero _)
 | p::r,0,_=>fun m hm=>by
   show (ptCells p++cpCells r)[0*5+m]?=_
   rw [Nat.zero_mul,Nat.zero_add,List.getElem?_append_left (by simpa using hm)]
   rfl
 | p::r,k+1,h=>fun m hm=>by
   show (ptCells p++cpCells r)[(k+1)*5+m]?=_
   rw [List.getElem?_append_right (by simp;omega),show (k+1)*5+m-(ptCells p).length=k*5+m by simp;omega]
   exact cpCells_at r k (by simpa using h) m hm
theorem jinfo181:(Tryz.prog.info? 181).map (fun i=>(i.zero,i.size,i.bytes))=some (some (.agg #[.int .i64 0,.int .i64 0,.int .i64 0,.int .i64 0,.slice none 0 0]),5,56):=by kernel_rfl
end Go.Proofs.YtlllmmceoeihkaaGreat
namespace Go.Proofs.YtlllmmceoeihkaaGreat
def Sees (S:St) (V:List Bk):Prop:=(∀ f i,f.1≠1->has S.l f i=has V f i)∧∀ b∈S.l,b.f.1=1->b.f=(1,0,0)
end Go.Proofs.YtlllmmceoeihkaaGreat
set_option maxRecDepth 20000
namespace Go.Proofs.YtlllmmceoeihkaaGreat
open Go.RowKit
def Gr (F:Nat->Prop) (w w':World):Nat->Prop:=fun k=>F k∨(w.heap.size<=k∧k<w'.heap.size)
def StepsN:Nat->St->St->Prop
 | 0,S,S'=>S'=S
 | n+1,S,S'=>∃ f i b,S.out=false∧argOk i (b:List Int).length∧StepsN n (S.wrote f i b) S'
def Steps (S S':St):Prop:=∃ n,StepsN n S S'
theorem Steps.refl (S:St):Steps S S:=⟨0,rfl⟩
theorem Steps.step {S S':St} (f:Fl) (i:Int) (b:List Int) (ho:S.out=false) (ha:argOk i b.length) (h:Steps (S.wrote f i b) S'):Steps S S':=by
 obtain ⟨n,h⟩:=h
 exact ⟨n+1,f,i,b,ho,ha,h⟩
theorem Steps.free {S S':St} (h:Steps S S') (hf:S.free):S'.free:=by
 obtain ⟨n,h⟩:=h
 induction n generalizing S with
 | zero=>rw [show S'=S from h];exact hf
 | succ n ih =>
   obtain ⟨f,i,b,_,_,h⟩:=h
   exact ih (S:=S.wrote f i b) ⟨by simp [St.wrote,hf.2],hf.2⟩ h
structure JSpec where
 Rec:St->List Bk->Prop
 JP:(Nat->Prop)->World->Nat->Nat->St->List Bk->Prop
 JX:(Nat->Prop)->World->Nat->Nat->St->Prop
 new:Rec St.new []
 rec_l:∀ {S S':St} {V:List Bk},Rec S V->S'.l=S.l->Rec S' V
 jp_rec:∀ {F w j d S V},JP F w j d S V->Rec S V
 jp_sees:∀ {F w j d S V},JP F w j d S V->Sees S V
 jp_disk:∀ {F w j d S V},JP F w j d S V->PDisk F w d S
 jp_keep:∀ {F w w' j d S V},JP F w j d S V->(∀ k,F k->w'.heap[k]?=w.heap[k]?)->JP F w' j d S V
 jp_more:∀ {F F':Nat->Prop} {w j d S V},JP F w j d S V->(∀ k,F k->F' k)->JP F' w j d S V
 jp_cut:∀ {F w w' j d S V n},JP F w j d S V->Only d w w'->PDisk F w' d (S.cut n)->JP F w' j d (S.cut n) V
 jx_disk:∀ {F w j d S},JX F w j d S->PDisk F w d S
 jx_keep:∀ {F w w' j d S},JX F w j d S->(∀ k,F k->w'.heap[k]?=w.heap[k]?)->JX F w' j d S
 open_:∀ (F:Nat->Prop) (d:Nat) (S:St) (V:List Bk) (w:World),PDisk F w d S->(∀ k,F k->k<w.heap.size)->Rec S V->S.writes<=900000 ->
  Calls Tryz.prog 37 #[.pointer (some ⟨d,0,none⟩)] w fun e w'=>∃ S' jv E,e = .returned (.tuple #[jv,.int .i64 E])∧Chg F w w'∧S'.writes<=S.writes+2000∧Steps S S' ∧
   ((E=0∧∃ j,jv = .pointer (some ⟨j,0,none⟩)∧JP (Gr F w w') w' j d S' V)∨(E=8∧¬ S.free∧PDisk (Gr F w w') w' d S'∧Rec S' V))
 group_:∀ (F:Nat->Prop) (j d:Nat) (S:St) (V:List Bk) (a:Option Addr) (n c:Nat) (l:List Pt) (w:World),JP F w j d S V->(∀ k,F k->k<w.heap.size)->l.length=n->n<=1000000->Puts w a l->S.writes<=900000 ->
  Calls Tryz.prog 50 #[.pointer (some ⟨j,0,none⟩),.slice a n c] w fun e w'=>∃ S' E,e = .returned (.int .i64 E)∧Chg F w w'∧S'.writes<=S.writes+2000∧Steps S S' ∧
   ((may (l.map Pt.bk)≠0∧E=may (l.map Pt.bk)∧JP (Gr F w w') w' j d S' V) ∨
    (may (l.map Pt.bk)=0∧E=0∧S'.out=false∧JP (Gr F w w') w' j d S' (doAll V (l.map Pt.bk))) ∨
    (may (l.map Pt.bk)=0∧E=8∧¬ S.free∧S'.out=true∧JX (Gr F w w') w' j d S'∧(Rec S' V∨S.writes+2<=S'.writes∧Rec S' (doAll V (l.map Pt.bk)))))
 groupx_:∀ (F:Nat->Prop) (j d:Nat) (S:St) (a:Option Addr) (n c:Nat) (l:List Pt) (w:World),JX F w j d S->(∀ k,F k->k<w.heap.size)->S.out=true->l.length=n->n<=1000000->Puts w a l ->
  Calls Tryz.prog 50 #[.pointer (some ⟨j,0,none⟩),.slice a n c] w fun e w'=>∃ E,e = .returned (.int .i64 E)∧E≠0∧Chg F w w'∧JX (Gr F w w') w' j d S
theorem Gr.lt {F:Nat->Prop} {a b:World} (hF:∀ k,F k->k<a.heap.size) (hs:a.heap.size<=b.heap.size):∀ k,Gr F a b k->k<b.heap.size:=fun k hk=>by
 rcases hk with h | h
 ·have:=hF k h;omega
 ·exact h.2
theorem Chg.idem {F:Nat->Prop} {a b:World} {c:World} (h:Chg F a b) (k:Chg F b c):Chg F a c:=h.trans k (fun _ hj=>Or.inl hj)
end Go.Proofs.YtlllmmceoeihkaaGreat
