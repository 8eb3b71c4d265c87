/-
  The program's disk: keys and elements of its two maps.
  Maps by chunks whose elements are whole numbers.
  The program's disk: what its memory holds; New, On, Writes, Cut, Up, known.
  The program's disk: Len, Read.
  The program's disk: Read.
  The program's disk: a block is kept.
  The program's disk: Write.
  One disk beside blocks that are kept: each call once more.
  What is asked of a region, as a structure: the laws are walked over it.
  The document's Need; what the law's writes does.
  A region that draws its order, in a class of worlds that holds behind every operation.
  The law's writes: blocks of a plan are written one after the other.
-/
import Derived.Test.YtlllmmceoeihkaaGreatPre
import Derived.BigQuiet
import Derived.Test.YtlllmmceoeihkaaGreatBase
import Derived.Test.YtlllmmceoeihkaaGreatJJmath
import Derived.Maps.OwnSet
import Derived.DeepKeys4
import Derived.MapFrom
import Derived.MapKept
import Derived.Deep.QuietTactic
import Derived.Lib.MinMax
import Derived.Test.YtlllmmceoeihkaaGreatGmath
namespace Go.Proofs.YtlllmmceoeihkaaGreat
open Go.RowKit Go.Maps
/-! ### keys -/
theorem rowF:(179:TypeId)<Tryz.prog.types.size:=of_decide_eq_true (by kernel_rfl)
theorem rowP:(216:TypeId)<Tryz.prog.types.size:=of_decide_eq_true (by kernel_rfl)
theorem wideF:(match Tryz.prog.underlying 179 with | some (.array _ _) | some (.struct _)=>true | _=>false)=true:=by kernel_rfl
theorem wideP:(match Tryz.prog.underlying 216 with | some (.array _ _) | some (.struct _)=>true | _=>false)=true:=by kernel_rfl
set_option maxRecDepth 20000 in
theorem lawF:Keyed Tryz.prog 179:=Keyed.of_law (deep_law_laid laidOut (m:=3) (by omega) rowF (by kernel_rfl) wideF)
set_option maxRecDepth 20000 in
theorem lawP:Keyed Tryz.prog 216:=Keyed.of_law (deep_law_laid laidOut (m:=4) (by omega) rowP (by kernel_rfl) wideP)
abbrev valF (f:Fl):Value:=.agg #[.int .i64 f.1,.int .i64 f.2.1,.int .i64 f.2.2]
abbrev valP (f:Fl) (i:Int):Value:=.agg #[.int .i64 f.1,.int .i64 f.2.1,.int .i64 f.2.2,.int .i64 i]
def I64F (f:Fl):Prop:=I64 f.1∧I64 f.2.1∧I64 f.2.2
theorem wf64 {x:Int} (h:I64 x):(Lit.int .i64 x).wf=true:=WalkArith.wf_i64 (by unfold I64 at h;omega)
def klF (f:Fl):Lit:=.string (keyBytes [.int .i64 f.1,.int .i64 f.2.1,.int .i64 f.2.2])
def klP (f:Fl) (i:Int):Lit:=.string (keyBytes [.int .i64 f.1,.int .i64 f.2.1,.int .i64 f.2.2,.int .i64 i])
theorem kt179:Tryz.prog.keyType 179=true:=by kernel_rfl
theorem kt216:Tryz.prog.keyType 216=true:=by kernel_rfl
theorem cells216:Tryz.prog.cellsOf 216=4:=by kernel_rfl
theorem litsF (n:Nat) (f:Fl) (h:I64F f):Tryz.prog.keyLits (n+2) 179 [.int .i64 f.1,.int .i64 f.2.1,.int .i64 f.2.2]=some [.int .i64 f.1,.int .i64 f.2.1,.int .i64 f.2.2]:=by
 obtain ⟨h1,h2,h3⟩:=h
 simp [Program.keyLits,Tryz.underlying179,Tryz.underlying3,cells179,cells3,wf64 h1,wf64 h2,wf64 h3]
theorem litsP (n:Nat) (f:Fl) (i:Int) (h:I64F f) (hi:I64 i):Tryz.prog.keyLits (n+3) 216 [.int .i64 f.1,.int .i64 f.2.1,.int .i64 f.2.2,.int .i64 i]=some [.int .i64 f.1,.int .i64 f.2.1,.int .i64 f.2.2,.int .i64 i]:=by
 obtain ⟨h1,h2,h3⟩:=h
 simp [Program.keyLits,Tryz.underlying216,Tryz.underlying179,Tryz.underlying3,cells216,cells179,cells3,wf64 h1,wf64 h2,wf64 h3,wf64 hi]
 rw [if_pos (by intro k hk;match k,hk with | 0,_=>simp | 1,_=>simp | 2,_=>simp)]
 rfl
theorem many:3<=Tryz.prog.types.size:=of_decide_eq_true (by kernel_rfl)
theorem keyF (f:Fl) (h:I64F f):keyOf Tryz.prog 179 (valF f)=some (klF f):=by
 have hf:(valF f).formed Tryz.prog 179=true:=by simp [Value.formed,Tryz.underlying179,cells179]
 obtain ⟨m,hm⟩:∃ m,Tryz.prog.types.size+1=m+2:=⟨Tryz.prog.types.size-1,by have:=many;omega⟩
 have hl:Tryz.prog.keyLits (Tryz.prog.types.size+1) 179 (valF f).cells.toList=some [.int .i64 f.1,.int .i64 f.2.1,.int .i64 f.2.2]:=by rw [hm];exact litsF m f h
 unfold keyOf
 rw [Tryz.underlying179]
 simp only [kt179,hf,hl]
 rfl
theorem keyP (f:Fl) (i:Int) (h:I64F f) (hi:I64 i):keyOf Tryz.prog 216 (valP f i)=some (klP f i):=by
 have hf:(valP f i).formed Tryz.prog 216=true:=by simp [Value.formed,Tryz.underlying216,cells216]
 obtain ⟨m,hm⟩:∃ m,Tryz.prog.types.size+1=m+3:=⟨Tryz.prog.types.size-2,by have:=many;omega⟩
 have hl:Tryz.prog.keyLits (Tryz.prog.types.size+1) 216 (valP f i).cells.toList=some [.int .i64 f.1,.int .i64 f.2.1,.int .i64 f.2.2,.int .i64 i]:=by
  rw [hm]
  exact litsP m f i h hi
 unfold keyOf
 rw [Tryz.underlying216]
 simp only [kt216,hf,hl]
 rfl
theorem klF_inj {f g:Fl} (h:I64F f) (k:I64F g) (e:klF f=klF g):f=g:=by
 have:=lawF.inj (keyF f h) (by rw [e];exact keyF g k)
 simp only [Value.agg.injEq,Array.mk.injEq,List.cons.injEq,Value.int.injEq,true_and,and_true] at this
 obtain ⟨a,b,c⟩:=f
 obtain ⟨x,y,z⟩:=g
 simp_all
theorem klP_inj {f g:Fl} {i j:Int} (h:I64F f) (hi:I64 i) (k:I64F g) (hj:I64 j) (e:klP f i=klP g j):f=g∧i=j:=by
 have:=lawP.inj (keyP f i h hi) (by rw [e];exact keyP g j k hj)
 simp only [Value.agg.injEq,Array.mk.injEq,List.cons.injEq,Value.int.injEq,true_and,and_true] at this
 obtain ⟨a,b,c⟩:=f
 obtain ⟨x,y,z⟩:=g
 simp_all
/-! ### elements -/
def isU8:Value->Bool
 | .int .u8 _=>true
 | _=>false
def unU8:Value->Int
 | .int _ z=>z
 | _=>0
def dat (l:List Int):DataW Unit:=.agg (l.map fun z=>.lit (.int .u8 z))
def blkElem (v:Value):Option (DataW Unit×List MemPlace) :=
 match v with
 | .agg cs=>if cs.toList.all isU8=true∧cs.size=32 then some (dat (cs.toList.map unU8),[]) else none
 | _=>none
theorem isU8_eq {v:Value} (h:isU8 v=true):v = .int .u8 (unU8 v):=by
 unfold isU8 at h
 split at h
 ·rfl
 ·cases h
theorem blkElem_mk {l:List Int} (h:l.length=32):blkElem (.agg (vals l))=some (dat l,[]):=by
 unfold blkElem vals
 simp only
 rw [if_pos ⟨by simp [isU8],by simpa using h⟩]
 simp [unU8,Function.comp_def]
theorem blkElem_inv {v:Value} {y:DataW Unit×List MemPlace} (h:blkElem v=some y):∃ l:List Int,v = .agg (vals l)∧l.length=32∧y=(dat l,[]):=by
 unfold blkElem at h
 split at h
 ·rename_i cs
  split at h
  ·rename_i hc
   cases h
   refine ⟨cs.toList.map unU8,?_,by simpa using hc.2,rfl⟩
   unfold vals
   congr 1
   apply Array.toList_inj.1
   rw [List.map_map]
   symm
   show List.map _ cs.toList=cs.toList
   conv=>rhs;rw [<- List.map_id cs.toList]
   apply List.map_congr_left
   intro x hx
   exact (isU8_eq (List.all_eq_true.1 hc.1 x hx)).symm
  ·cases h
 ·cases h
theorem dat_inj {a b:List Int} (h:dat a=dat b):a=b:=by
 unfold dat at h
 simp only [DataW.agg.injEq] at h
 have:=congrArg (List.map (fun d:DataW Unit=>match d with | .lit (.int _ z)=>z | _=>0)) h
 simpa [Function.comp_def] using this
/-! ### what the two maps hold -/
structure Holds2 (l:List Bk) (Db Dl:DataW Unit):Prop where
 blk:∀ f i,I64F f->I64 i->Db.atKey (klP f i) (dat (List.replicate 32 0))=dat ((has l f i).getD (List.replicate 32 0))
 len:∀ f,I64F f->Dl.atKey (klF f) (.lit (.int .i64 0)) = .lit (.int .i64 (lenOf (at_ l) f))
 fil:∀ f,I64F f->(Maps.has Dl (klF f)=true↔∃ i,(f,i)∈at_ l)
theorem lenOf_snoc (p:List (Fl×Int)) (f g:Fl) (i:Int) (hp:0<=i):lenOf (p++[(f,i)]) g=if f=g then max (lenOf p g) (i+1) else lenOf p g:=by
 induction p with
 | nil =>
   show (if f=g then max (i+1) 0 else 0)=if f=g then max 0 (i+1) else 0
   split <;> omega
 | cons q r ih =>
   rw [List.cons_append,lenOf,lenOf,ih]
   split
   ·split <;> omega
   ·rfl
theorem lenOf_put (l:List Bk) (f g:Fl) (i:Int) (bs:List Int) (hi:0<=i):lenOf (at_ (put l f i bs)) g=if f=g then max (lenOf (at_ l) g) (i+1) else lenOf (at_ l) g:=by
 rw [at_put]
 split
 ·rename_i h
  split
  ·rename_i e
   subst e
   have hm:(f,i)∈at_ l:=by
    cases hx:Go.Proofs.YtlllmmceoeihkaaGreat.has l f i with
    | none=>rw [hx] at h;cases h
    | some bs'=>exact List.mem_map.2 ⟨_,has_mem hx,rfl⟩
   have:=lenOf_le hm
   omega
  ·rfl
 ·exact lenOf_snoc _ _ _ _ hi
theorem mem_at_put (l:List Bk) (f g:Fl) (i j:Int) (bs:List Int):(g,j)∈at_ (put l f i bs)↔(g,j)∈at_ l∨(g=f∧j=i):=by
 rw [at_put]
 split
 ·rename_i h
  constructor
  ·exact Or.inl
  ·rintro (h1 | ⟨rfl,rfl⟩)
   ·exact h1
   ·cases hx:Go.Proofs.YtlllmmceoeihkaaGreat.has l g j with
    | none=>rw [hx] at h;cases h
    | some bs'=>exact List.mem_map.2 ⟨_,has_mem hx,rfl⟩
 ·rw [List.mem_append,List.mem_singleton,Prod.mk.injEq]
theorem keyLit (f:Fl):WideAt.IsKeyLit (klF f):=trivial
theorem keyLitP (f:Fl) (i:Int):WideAt.IsKeyLit (klP f i):=trivial
theorem Holds2.put {l:List Bk} {Db Dl:DataW Unit} (h:Holds2 l Db Dl) (hb:IsMap Db) (hl:IsMap Dl) {f:Fl} {i:Int} {bs:List Int} (hf:I64F f) (hi:I64 i) (hi0:0<=i) :
  Holds2 (put l f i bs) (Db.put (klP f i) (dat bs)) (Dl.put (klF f) (.lit (.int .i64 (max (lenOf (at_ l) f) (i+1))))):=by
 refine ⟨fun g j hgf hgj=>?_,fun g hgf=>?_,fun g hgf=>?_⟩
 ·by_cases e:f=g∧i=j
  ·obtain ⟨rfl,rfl⟩:=e
   rw [atKey_put_same hb (keyLitP _ _),has_put_same]
   rfl
  ·rw [atKey_put_other (fun e2=>e ?_),Go.Proofs.YtlllmmceoeihkaaGreat.has_put_other _ _ _ _ _ _ e]
   ·exact h.blk g j hgf hgj
   ·obtain ⟨h1,h2⟩:=klP_inj hgf hgj hf hi e2
    exact ⟨h1.symm,h2.symm⟩
 ·rw [lenOf_put l f g i bs hi0]
  by_cases e:f=g
  ·subst e
   rw [atKey_put_same hl (keyLit _),if_pos rfl]
  ·rw [atKey_put_other (fun e2=>e (klF_inj hgf hf e2).symm),if_neg e]
   exact h.len g hgf
 ·by_cases e:f=g
  ·subst e
   rw [Maps.has_put_same hl (keyLit _)]
   exact ⟨fun _=>⟨i,(mem_at_put _ _ _ _ _ _).2 (Or.inr ⟨rfl,rfl⟩)⟩,fun _=>rfl⟩
  ·rw [Maps.has_put_other (fun e2=>e (klF_inj hgf hf e2).symm),h.fil g hgf]
   constructor
   ·rintro ⟨j,hj⟩
    exact ⟨j,(mem_at_put _ _ _ _ _ _).2 (Or.inl hj)⟩
   ·rintro ⟨j,hj⟩
    rcases (mem_at_put _ _ _ _ _ _).1 hj with h1 | ⟨h1,_⟩
    ·exact ⟨j,h1⟩
    ·exact absurd h1.symm e
theorem Holds2.empty:Holds2 [] (.map []) (.map []):=⟨fun _ _ _ _=>rfl,fun _ _=>rfl,fun f _=>⟨fun h=>(by cases h),fun h=>(by obtain ⟨i,h⟩:=h;simp [at_] at h)⟩⟩
end Go.Proofs.YtlllmmceoeihkaaGreat
set_option maxRecDepth 20000
namespace Go.Proofs.YtlllmmceoeihkaaGreat
open Go.RowKit Go.Maps Go.ChangeMaps Go.MapKept Go.WideShapes
theorem rowA:(39:TypeId)<Tryz.prog.types.size:=of_decide_eq_true (by kernel_rfl)
theorem wideA:(match Tryz.prog.underlying 39 with | some (.array _ _) | some (.struct _)=>true | _=>false)=true:=by kernel_rfl
theorem lawA:Keyed Tryz.prog 39:=Keyed.of_law (deep_law_laid laidOut (m:=2) (by omega) rowA (by kernel_rfl) wideA)
abbrev valA (x z:Int):Value:=.agg #[.int .i64 x,.int .i64 z]
def klA (x z:Int):Lit:=.string (keyBytes [.int .i64 x,.int .i64 z])
theorem kt39:Tryz.prog.keyType 39=true:=by kernel_rfl
theorem cells39:Tryz.prog.cellsOf 39=2:=by kernel_rfl
theorem litsA (n:Nat) (x z:Int) (h1:I64 x) (h2:I64 z):Tryz.prog.keyLits (n+2) 39 [.int .i64 x,.int .i64 z]=some [.int .i64 x,.int .i64 z]:=by
 simp [Program.keyLits,Tryz.underlying39,Tryz.underlying3,cells39,cells3,wf64 h1,wf64 h2]
theorem keyA (x z:Int) (h1:I64 x) (h2:I64 z):keyOf Tryz.prog 39 (valA x z)=some (klA x z):=by
 have hf:(valA x z).formed Tryz.prog 39=true:=by simp [Value.formed,Tryz.underlying39,cells39]
 obtain ⟨m,hm⟩:∃ m,Tryz.prog.types.size+1=m+2:=⟨Tryz.prog.types.size-1,by have:=many;omega⟩
 have hl:Tryz.prog.keyLits (Tryz.prog.types.size+1) 39 (valA x z).cells.toList=some [.int .i64 x,.int .i64 z]:=by rw [hm];exact litsA m x z h1 h2
 unfold keyOf
 rw [Tryz.underlying39]
 simp only [kt39,hf,hl]
 rfl
theorem klA_inj {x z x' z':Int} (h1:I64 x) (h2:I64 z) (h3:I64 x') (h4:I64 z') (e:klA x z=klA x' z'):x=x'∧z=z':=by
 have:=lawA.inj (keyA x z h1 h2) (by rw [e];exact keyA x' z' h3 h4)
 simp only [Value.agg.injEq,Array.mk.injEq,List.cons.injEq,Value.int.injEq,true_and,and_true] at this
 exact this
theorem keyLitA (x z:Int):WideAt.IsKeyLit (klA x z):=trivial
theorem zero3 (w:World):(zeroValue 3).run Tryz.prog w = .ok (.int .i64 0) w:=by kernel_rfl
abbrev Rf:=Int->Int->Option Int
structure RdR (R:Rf) (D:DataW Unit):Prop where
 has:∀ x z,I64 x->I64 z->Maps.has D (klA x z)=(R x z).isSome
 get:∀ x z,I64 x->I64 z->D.atKey (klA x z) (.lit (.int .i64 0)) = .lit (.int .i64 ((R x z).getD 0))
def RMap (w:World) (m n:Nat) (R:Rf):Prop:=∃ D:DataW Unit,w.ownsMap Tryz.prog 39 (plainElem Tryz.prog 3) m n D∧RdR R D
def R0:Rf:=fun _ _=>none
def Rf.put (R:Rf) (x z v:Int):Rf:=fun x' z'=>if x'=x∧z'=z then some v else R x' z'
theorem RMap.same {w w':World} {m n:Nat} {R:Rf} (h:RMap w m n R) (e:w'.heap[m]?=w.heap[m]?):RMap w' m n R:=by
 obtain ⟨D,⟨es,clock,hb,r⟩,hr⟩:=h
 exact ⟨D,⟨es,clock,e.trans hb,r⟩,hr⟩
theorem RMap.lt {w:World} {m n:Nat} {R:Rf} (h:RMap w m n R):m<w.heap.size:=by
 obtain ⟨D,h,_⟩:=h
 exact h.lt
theorem rdr_nil:RdR R0 (.map []):=⟨fun _ _ _ _=>rfl,fun _ _ _ _=>rfl⟩
theorem RMap.new (w:World):RMap (w.alloc (.map #[] 0)) w.heap.size 0 R0:=⟨.map [],World.ownsMap_made w Tryz.prog 39 _,rdr_nil⟩
theorem RMap.look {w:World} {m n:Nat} {R:Rf} (h:RMap w m n R) {x z:Int} (hx:I64 x) (hz:I64 z) :
  (Instr.lookup 90 (.map (some m)) (valA x z) true).run Tryz.prog w = .ok (.tuple #[.int .i64 ((R x z).getD 0),.bool (R x z).isSome]) w:=by
 obtain ⟨D,ho,hr⟩:=h
 obtain ⟨v,ps,hrun,hv⟩:=ho.look_ok lawA Tryz.underlying90 (zero3 w) (plainElem_int Tryz.underlying3 (by decide)) (keyA x z hx hz)
 obtain ⟨c,rfl,hc,_⟩:=plainElem_int_inv Tryz.underlying3 hv
 rw [hrun,hr.has x z hx hz]
 have:=hr.get x z hx hz
 have h2:DataW.lit (H:=Unit) (.int .i64 ((R x z).getD 0)) = .lit (.int .i64 c):=this.symm.trans (congrArg Prod.fst hc)
 simp only [DataW.lit.injEq,Lit.int.injEq,true_and] at h2
 rw [h2]
theorem RMap.put {w:World} {m n:Nat} {R:Rf} (h:RMap w m n R) (hn:n<maxLen) {x z v:Int} (hx:I64 x) (hz:I64 z) (hv:I64 v) :
  ∃ w',(Instr.mapUpdate 90 (.map (some m)) (valA x z) (.int .i64 v)).run Tryz.prog w = .ok () w'∧RMap w' m (n+1) (R.put x z v)∧w.mapTurned w' m:=by
 obtain ⟨D,ho,hr⟩:=h
 obtain ⟨w',hrun,ho',ht⟩:=ho.store lawA Tryz.underlying90 hn (keyA x z hx hz) (plainElem_int Tryz.underlying3 (wf64 hv))
 refine ⟨w',hrun,⟨_,ho',?_⟩,ht⟩
 have hm:=ho.isMap
 refine ⟨fun x' z' h1 h2=>?_,fun x' z' h1 h2=>?_⟩
 ·unfold Rf.put
  by_cases e:x'=x∧z'=z
  ·rw [if_pos e,e.1,e.2,Maps.has_put_same hm (keyLitA x z)]
   rfl
  ·rw [if_neg e,Maps.has_put_other (fun e2=>e (klA_inj h1 h2 hx hz e2)),hr.has x' z' h1 h2]
 ·unfold Rf.put
  by_cases e:x'=x∧z'=z
  ·rw [if_pos e,e.1,e.2,Maps.atKey_put_same hm (keyLitA x z)]
   rfl
  ·rw [if_neg e,Maps.atKey_put_other (fun e2=>e (klA_inj h1 h2 hx hz e2)),hr.get x' z' h1 h2]
theorem RMap.clear {w:World} {m n:Nat} {R:Rf} (h:RMap w m n R) :
  ∃ w',(∀ ty:TypeId,(Builtin.clear_ #[90] ty #[.map (some m)]).run Tryz.prog w = .ok (.tuple #[]) w')∧RMap w' m 0 R0∧w.mapTurned w' m:=by
 obtain ⟨D,⟨es,clock,hb,F,hs,rfl⟩,hr⟩:=h
 refine ⟨setBlock w m (.map #[] clock),fun ty=>?_,⟨.map [],⟨#[],clock,heap_setBlock_same hb _,⟨by simp,stamped_empty clock,by simp⟩,Nat.le_refl _,rfl⟩,rdr_nil⟩,⟨es,clock,_,_,hb,rfl⟩⟩
 simp [Builtin.clear_,run_underlying Tryz.underlying90,MapKept.run_getObj_map hb,MapKept.run_setObj_map _ hb,Result.andThen,setBlock]
end Go.Proofs.YtlllmmceoeihkaaGreat
set_option maxRecDepth 20000
namespace Go.Proofs.YtlllmmceoeihkaaGreat
open Go.RowKit Go.Maps
def St.lf (S:St):Int:=if S.armed then S.left else 0
def PMaps (F:Nat->Prop) (w:World) (g:Nat) (S:St) (mb ml:Option Nat):Prop :=
 (mb=none∧ml=none∧S.l=[])∨∃ b l Db Dl,mb=some b∧ml=some l∧w.ownsMap Tryz.prog 216 blkElem b (2*S.writes).toNat Db∧w.ownsMap Tryz.prog 179 (plainElem Tryz.prog 3) l (2*S.writes).toNat Dl∧Holds2 S.l Db Dl∧F b∧F l∧b≠g∧l≠g∧b≠l
structure PD (F:Nat->Prop) (w:World) (g:Nat) (S:St) (mb ml:Option Nat):Prop where
 head:w.heap[g]?=some (.cells #[.map mb,.map ml,.int .i64 S.writes,.int .i64 S.lf,.bool S.out] 86 (0,0))
 maps:PMaps F w g S mb ml
 inF:F g
 ok:Good S.l
 fit:∀ b∈S.l,∀ z∈b.b,0<=z∧z<=255
 fil:∀ b∈S.l,I64F b.f
 arm:S.armed=true->S.out=false->1<=S.left
 bds : -9223372036854775808<=S.left∧S.left<=9223372036854775807∧0<=S.writes∧S.writes<=1000000
def PDisk (F:Nat->Prop) (w:World) (g:Nat) (S:St):Prop:=∃ mb ml,PD F w g S mb ml
theorem ownsMap_same {k:TypeId} {R:Value->Option (DataW Unit×List MemPlace)} {w w':World} {b n:Nat} {D:DataW Unit} (h:w.ownsMap Tryz.prog k R b n D) (e:w'.heap[b]?=w.heap[b]?):w'.ownsMap Tryz.prog k R b n D:=by
 obtain ⟨es,clock,hb,r⟩:=h
 exact ⟨es,clock,e.trans hb,r⟩
theorem PMaps.keep {F:Nat->Prop} {w w':World} {g:Nat} {S:St} {mb ml:Option Nat} (h:PMaps F w g S mb ml) (he:∀ k,F k->k≠g->w'.heap[k]?=w.heap[k]?):PMaps F w' g S mb ml:=by
 rcases h with h | ⟨b,l,Db,Dl,h1,h2,h3,h4,h5,h6,h7,h8,h9,h10⟩
 ·exact Or.inl h
 ·exact Or.inr ⟨b,l,Db,Dl,h1,h2,ownsMap_same h3 (he b h6 h8),ownsMap_same h4 (he l h7 h9),h5,h6,h7,h8,h9,h10⟩
theorem PMaps.more {F F':Nat->Prop} {w:World} {g:Nat} {S:St} {mb ml:Option Nat} (h:PMaps F w g S mb ml) (hF:∀ k,F k->F' k):PMaps F' w g S mb ml:=by
 rcases h with h | ⟨b,l,Db,Dl,h1,h2,h3,h4,h5,h6,h7,h8⟩
 ·exact Or.inl h
 ·exact Or.inr ⟨b,l,Db,Dl,h1,h2,h3,h4,h5,hF _ h6,hF _ h7,h8⟩
theorem PD.keep {F:Nat->Prop} {w w':World} {g:Nat} {S:St} {mb ml:Option Nat} (h:PD F w g S mb ml) (he:∀ k,F k->w'.heap[k]?=w.heap[k]?):PD F w' g S mb ml :=
 ⟨(he g h.inF).trans h.head,h.maps.keep (fun k hk _=>he k hk),h.inF,h.ok,h.fit,h.fil,h.arm,h.bds⟩
theorem PDisk.keep {F:Nat->Prop} {w w':World} {g:Nat} {S:St} (h:PDisk F w g S) (he:∀ k,F k->w'.heap[k]?=w.heap[k]?):PDisk F w' g S:=by
 obtain ⟨mb,ml,h⟩:=h
 exact ⟨mb,ml,h.keep he⟩
theorem PD.more {F F':Nat->Prop} {w:World} {g:Nat} {S:St} {mb ml:Option Nat} (h:PD F w g S mb ml) (hF:∀ k,F k->F' k):PD F' w g S mb ml :=
 ⟨h.head,h.maps.more hF,hF _ h.inF,h.ok,h.fit,h.fil,h.arm,h.bds⟩
theorem PDisk.more {F F':Nat->Prop} {w:World} {g:Nat} {S:St} (h:PDisk F w g S) (hF:∀ k,F k->F' k):PDisk F' w g S:=by
 obtain ⟨mb,ml,h⟩:=h
 exact ⟨mb,ml,h.more hF⟩
theorem PD.glt {F:Nat->Prop} {w:World} {g:Nat} {S:St} {mb ml:Option Nat} (h:PD F w g S mb ml):g<w.heap.size:=(Array.getElem?_eq_some_iff.1 h.head).1
theorem PD.inside {F:Nat->Prop} {w w':World} {g:Nat} {S:St} {mb ml:Option Nat} (h:PD F w g S mb ml) (hb:Below w.heap.size w w'):PD F w' g S mb ml:=by
 refine ⟨(hb.block g h.glt).trans h.head,?_,h.inF,h.ok,h.fit,h.fil,h.arm,h.bds⟩
 rcases h.maps with h | ⟨b,l,Db,Dl,h1,h2,h3,h4,h5⟩
 ·exact Or.inl h
 ·exact Or.inr ⟨b,l,Db,Dl,h1,h2,ownsMap_same h3 (hb.block b h3.lt),ownsMap_same h4 (hb.block l h4.lt),h5⟩
theorem PD.cells {F:Nat->Prop} {w:World} {g:Nat} {S:St} {mb ml:Option Nat} (h:PD F w g S mb ml):w.cell? ⟨g,0,none⟩=some (.map mb)∧w.cell? ⟨g,1,none⟩=some (.map ml)∧w.cell? ⟨g,2,none⟩=some (.int .i64 S.writes)∧w.cell? ⟨g,3,none⟩=some (.int .i64 S.lf)∧w.cell? ⟨g,4,none⟩=some (.bool S.out):=by
 refine ⟨?_,?_,?_,?_,?_⟩
 ·rw [cell_of_row w g 0 _ 86 (0,0) h.head];rfl
 ·rw [cell_of_row w g 1 _ 86 (0,0) h.head];rfl
 ·rw [cell_of_row w g 2 _ 86 (0,0) h.head];rfl
 ·rw [cell_of_row w g 3 _ 86 (0,0) h.head];rfl
 ·rw [cell_of_row w g 4 _ 86 (0,0) h.head];rfl
theorem PD.reset {F:Nat->Prop} {w w':World} {g:Nat} {S:St} {mb ml:Option Nat} (h:PD F w g S mb ml) (hO:Only g w w') {o m:Bool} {l:Int}
  (hh:w'.heap[g]?=some (.cells #[.map mb,.map ml,.int .i64 S.writes,.int .i64 (if m then l else 0),.bool o] 86 (0,0))) (harm:m=true->o=false->1<=l) (hb : -9223372036854775808<=l∧l<=9223372036854775807):PD F w' g ⟨S.l,o,m,l,S.writes⟩ mb ml:=by
 refine ⟨hh,?_,h.inF,h.ok,h.fit,h.fil,harm,⟨hb.1,hb.2,h.bds.2.2⟩⟩
 exact h.maps.keep (fun k _ hk=>hO.block k hk)
theorem new_c (w:World):Calls Tryz.prog 11 #[] w fun e w'=>(∃ g F,e = .returned (.pointer (some ⟨g,0,none⟩))∧PDisk F w' g St.new∧(∀ k,F k->w.heap.size<=k)∧∀ k,F k->k<w'.heap.size)∧Below w.heap.size w w':=by
 go_enter Tryz.func11,Tryz.ntmps11
 go_wp2
 go_ret
 refine ⟨⟨w.heap.size,fun k=>k=w.heap.size,rfl,⟨none,none,heap_alloc_new w _,Or.inl ⟨rfl,rfl,rfl⟩,rfl,fun b hb=>absurd hb (by simp [St.new]),fun b hb=>absurd hb (by simp [St.new]),fun b hb=>absurd hb (by simp [St.new]),fun h=>(by cases h),by decide⟩,fun k hk=>Nat.le_of_eq hk.symm,fun k hk=>by rw [World.size_alloc];omega⟩,(Below.refl _ _).alloc (Nat.le_refl _) _⟩
theorem known_c (i:Int) (w:World):Calls Tryz.prog 131 #[.int .i64 i] w fun e w'=>e = .returned (.bool (decide (0<=i∧i<4096)))∧w'=w:=by
 go_enter Tryz.func131,Tryz.ntmps131
 by_cases h0:0<=i
 ·by_cases h1:i<4096
  ·go_wp2
   go_ret
   exact ⟨ret_bool (by simp [h0,h1]),rfl⟩
  ·go_wp2
   go_ret
   exact ⟨ret_bool (by simp [h1]),rfl⟩
 ·go_wp2
  go_ret
  exact ⟨ret_bool (by simp;omega),rfl⟩
theorem on_c (F:Nat->Prop) (g:Nat) (S:St) (w:World) (hD:PDisk F w g S):Calls Tryz.prog 103 #[.pointer (some ⟨g,0,none⟩)] w fun e w'=>e = .returned (.bool (!S.out))∧w'=w:=by
 obtain ⟨mb,ml,hD⟩:=hD
 obtain ⟨_,_,_,_,c4⟩:=hD.cells
 clear hD
 go_enter Tryz.func103,Tryz.ntmps103
 go_wp2
 go_ret
 exact ⟨rfl,rfl⟩
theorem cut_c (F:Nat->Prop) (g:Nat) (S:St) (n:Int) (hn : -9223372036854775808<=n∧n<=9223372036854775807) (w:World) (hD:PDisk F w g S):Calls Tryz.prog 22 #[.pointer (some ⟨g,0,none⟩),.int .i64 n] w fun e w'=>e = .returned (.tuple #[])∧PDisk F w' g (S.cut n)∧Only g w w':=by
 obtain ⟨mb,ml,hD⟩:=hD
 obtain ⟨c0,c1,c2,c3,c4⟩:=hD.cells
 have f3:w.frozen? ⟨g,3,none⟩=false:=frozen_of_row w g 3 _ 86 hD.head
 have h3:=heap_setCell_same w g 3 _ 86 (.int .i64 n) hD.head
 have f4:(w.setCell ⟨g,3,none⟩ (.int .i64 n)).frozen? ⟨g,4,none⟩=false:=frozen_of_row _ g 4 _ 86 h3
 have h4:=heap_setCell_same _ g 4 _ 86 (.bool true) h3
 have HO3:Hid (Only g w (w.setCell ⟨g,3,none⟩ (.int .i64 n))):=(Only.refl g w).set 3 _
 have HO4:Hid (Only g w ((w.setCell ⟨g,3,none⟩ (.int .i64 n)).setCell ⟨g,4,none⟩ (.bool true))):=((Only.refl g w).set 3 _).set 4 _
 by_cases hlt:n<1
 ·have HR:Hid (PDisk F ((w.setCell ⟨g,3,none⟩ (.int .i64 n)).setCell ⟨g,4,none⟩ (.bool true)) g (S.cut n)):=⟨mb,ml,by
   have e:S.cut n=⟨S.l,true,true,n,S.writes⟩:=by unfold St.cut;simp [hlt]
   rw [e]
   exact hD.reset HO4.out (o:=true) (m:=true) (l:=n) h4 (fun _ h=>by cases h) hn⟩
  clear hD h3 h4
  go_enter Tryz.func22,Tryz.ntmps22
  go_wp2
  go_end0
  exact ⟨rfl,HR.out,HO4.out⟩
 ·have HR:Hid (PDisk F (w.setCell ⟨g,3,none⟩ (.int .i64 n)) g (S.cut n)):=⟨mb,ml,by
   have e:S.cut n=⟨S.l,S.out,true,n,S.writes⟩:=by unfold St.cut;simp [hlt]
   rw [e]
   exact hD.reset HO3.out (o:=S.out) (m:=true) (l:=n) h3 (fun _ _=>by omega) hn⟩
  clear hD h3 h4
  go_enter Tryz.func22,Tryz.ntmps22
  go_wp2
  go_end0
  exact ⟨rfl,HR.out,HO3.out⟩
end Go.Proofs.YtlllmmceoeihkaaGreat
set_option maxRecDepth 20000
namespace Go.Proofs.YtlllmmceoeihkaaGreat
open Go.RowKit Go.Maps
theorem zero214 (w:World):(zeroValue 214).run Tryz.prog w = .ok (.agg (vals (List.replicate 32 0))) w:=by kernel_rfl
theorem PD.lookBlk {F:Nat->Prop} {w:World} {g:Nat} {S:St} {mb ml:Option Nat} (h:PD F w g S mb ml) (f:Fl) (i:Int) (hf:I64F f) (hi:I64 i) :
  (Instr.lookup 83 (.map mb) (valP f i) false).run Tryz.prog w = .ok (.agg (vals ((Go.Proofs.YtlllmmceoeihkaaGreat.has S.l f i).getD (List.replicate 32 0)))) w:=by
 rcases h.maps with ⟨rfl,_,h3⟩|⟨b,l,Db,Dl,rfl,_,h4,_,h5,_⟩
 ·rw [look_nil false lawP Tryz.underlying83 (zero214 w) (keyP f i hf hi),h3]
  rfl
 ·obtain ⟨v,ps,hrun,hv⟩:=h4.lookup lawP Tryz.underlying83 (zero214 w) (blkElem_mk (by simp)) (keyP f i hf hi)
  rw [h5.blk f i hf hi] at hv
  obtain ⟨l,rfl,_,he⟩:=blkElem_inv hv
  simp only [Prod.mk.injEq] at he
  rw [hrun,dat_inj he.1]
end Go.Proofs.YtlllmmceoeihkaaGreat
namespace Go.Proofs.YtlllmmceoeihkaaGreat
open Go.RowKit Go.Maps
section
variable {P:Program} {ops:Array Oper} {Q:Exit->Act->World->Prop} {md:Region.Mode} {S:World->Prop} {n:Nat}
theorem give_L {i:Nat} {oi:Oper} {fuel:Nat} {listed:Array Bool} {a:Act} {w:World} (v:Value) (hi:ops[i]?=some oi)
  (hs:Region.noSelect ops=true) (hf:Region.free md ops listed i=true) (hr:(Region.ready md ops listed).contains i=true) (hin:waitsB md ops n i=true)
  (hQ:∀ v c a w,Q (.panic c) (a.put oi.dst v) w->Q (.panic c) a w) (hS:S w) (hw:Region.wanted oi (yielded ops a.tmps)=true)
  (hv:∀ s:Sub S,(execOp a.eval oi).run P s.w = .ok (.value v) s.w) (h:wpAnyL P md ops Q S n fuel (listed.setIfInBounds i true) (a.put oi.dst v) w) :
  wpAnyL P md ops Q S n (fuel+1) listed a w :=
 wpAnyL_first hi (Region.noSelect_spec hs) (hQ v) hin fuel listed a w (Region.free_spec hi hf) (by simpa using hr) (Or.inl ⟨hw,fun w hS=>hv ⟨w,hS⟩⟩) hS h
end
theorem step_plain {ops:Array Oper} {o:Oper} {a:Act} {w:World} {K:Act->World->Prop} {Q:Exit->Act->World->Prop} {E:Prop} (hgd:o.guard=none) (h:Oper.wp Tryz.prog o a w K Q) :
  if Region.wanted o (yielded ops a.tmps)=true then Oper.wp Tryz.prog o a w K Q else E:=by
 rw [if_pos (by simp [Region.wanted,hgd])]
 exact h
theorem size214:(Tryz.prog.info? 214).map (·.size)=some 32:=by kernel_rfl
theorem exec_load {o:Oper} {ρ:Operand->Value} {ty:TypeId} {x:Operand} {p v:Value} {w:World} (ho:o.op = .load ty x) (hx:ρ x=p) (h:(Instr.loadAt ty p).run Tryz.prog w = .ok v w) :
  (execOp ρ o).run Tryz.prog w = .ok (.value v) w:=by
 unfold execOp
 simp only [ho,hx,Sem.run_bind,h,Result.andThen_ok,Sem.run_pure]
theorem Blk.range {w:World} {g:Nat} {t:TypeId} {cs:List Int} (h:Blk w g t cs):w.rangeAt g 0 (cs.map (Value.int .u8)):=fun j _ hj=>by
 rw [Nat.zero_add,cell_of_row w g j _ t (0,0) h]
 simp only [vals]
 rw [List.getElem?_toArray]
 exact hj
theorem Blk.load {w:World} {g:Nat} {t:TypeId} {cs:List Int} (h:Blk w g t cs) (hl:cs.length=32):(Instr.loadAt 214 (.pointer (some ⟨g,0,none⟩))).run Tryz.prog w = .ok (.agg (vals cs)) w :=
 run_loadAt_mid w g 0 214 _ _ h.range Tryz.underlying214 (by kernel_rfl) (by rw [size214,List.length_map,hl])
theorem ones (cs:List Int):(vals cs).all (·.oneCell')=true:=by simp [vals,Value.oneCell']
def PReadSay (R:Int×List Int) (w:World) (e:Ending) (w':World):Prop :=
 Below w.heap.size w w'∧((R.2=[]∧e = .returned (.tuple #[.slice none 0 0,.int .i64 R.1]))∨∃ p,w.heap.size<=p∧e = .returned (.tuple #[.slice (some ⟨p,0,none⟩) 32 32,.int .i64 R.1])∧Blk w' p 214 R.2∧R.2.length=32∧∀ z∈R.2,0<=z∧z<=255)
def AtR (F:Nat->Prop) (g:Nat) (S:St) (mb ml:Option Nat) (H:Nat) (f1 f2 f3:Int) (w':World):Prop:=PD F w' g S mb ml∧w'.cell? ⟨H,0,none⟩=some (.int .i64 f1)∧w'.cell? ⟨H,1,none⟩=some (.int .i64 f2)∧w'.cell? ⟨H,2,none⟩=some (.int .i64 f3)
theorem has_fit {F:Nat->Prop} {w:World} {g:Nat} {S:St} {mb ml:Option Nat} (h:PD F w g S mb ml) (f:Fl) (i:Int):((Go.Proofs.YtlllmmceoeihkaaGreat.has S.l f i).getD (List.replicate 32 0)).length=32∧∀ z∈(Go.Proofs.YtlllmmceoeihkaaGreat.has S.l f i).getD (List.replicate 32 0),0<=z∧z<=255:=by
 cases hx:Go.Proofs.YtlllmmceoeihkaaGreat.has S.l f i with
 | none=>exact ⟨by simp,fun z hz=>by rw [List.eq_of_mem_replicate hz];decide⟩
 | some bs=>exact ⟨(h.ok _ (has_mem hx)).2.2,h.fit _ (has_mem hx)⟩
theorem AtR.on {F:Nat->Prop} {g:Nat} {S:St} {mb ml:Option Nat} {H:Nat} {f1 f2 f3:Int} {w' w'':World} (h:AtR F g S mb ml H f1 f2 f3 w') (hb:Below w'.heap.size w' w''):AtR F g S mb ml H f1 f2 f3 w'' :=
 have k:∀ m v,w'.cell? ⟨H,m,none⟩=some v->w''.cell? ⟨H,m,none⟩=some v:=fun m _ hv=>(hb.cell (p:=⟨H,m,none⟩) (World.block_lt_of_cell? w' _ hv)).trans hv
 ⟨h.1.inside hb,k _ _ h.2.1,k _ _ h.2.2.1,k _ _ h.2.2.2⟩
set_option maxHeartbeats 1000000 in
set_option maxRecDepth 20000 in
theorem read_c (F:Nat->Prop) (g:Nat) (S:St) (f1 f2 f3 i:Int) (hf:I64F (f1,f2,f3)) (hi:I64 i) (w:World) (hD:PDisk F w g S) :
  Calls Tryz.prog 119 #[.pointer (some ⟨g,0,none⟩),.agg #[.int .i64 f1,.int .i64 f2,.int .i64 f3],.int .i64 i] w (PReadSay (S.read (f1,f2,f3) i) w):=by
 obtain ⟨mb,ml,hD⟩:=hD
 obtain ⟨Post,hPost⟩:∃ Post,Post=PReadSay (S.read (f1,f2,f3) i) w:=⟨_,rfl⟩
 rw [<- hPost]
 have HP:Hid (Post=PReadSay (S.read (f1,f2,f3) i) w):=hPost
 clear hPost
 obtain ⟨hb0,x0,x1,x2⟩:=box_new w f1 f2 f3
 have HD0:=hD.inside hb0
 have HB0:Hid (Below w.heap.size w (w.alloc (.cells #[.int .i64 f1,.int .i64 f2,.int .i64 f3] 179))):=hb0
 have HD:Hid (PD F (w.alloc (.cells #[.int .i64 f1,.int .i64 f2,.int .i64 f3] 179)) g S mb ml):=HD0
 have hs0:w.heap.size<(w.alloc (.cells #[.int .i64 f1,.int .i64 f2,.int .i64 f3] 179)).heap.size:=by rw [World.size_alloc];omega
 clear hb0 HD0 hD
 go_enter Tryz.func119,Tryz.ntmps119
 go_upto_region 1 with fail
 generalize w.alloc (.cells #[.int .i64 f1,.int .i64 f2,.int .i64 f3] 179)=w0 at *
 go_wp2_with fail
 refine (known_c i w0).mono ?_
 rintro e w1 ⟨rfl,rfl⟩
 by_cases hk:0<=i∧i<4096
 ·rw [decide_eq_true hk]
  go_wp2_with fail
  refine (on_c F g S w1 ⟨mb,ml,HD.out⟩).mono ?_
  rintro e w2 ⟨rfl,rfl⟩
  by_cases ho:S.out=true
  ·have R:Post (.returned (.tuple #[.slice none 0 0,.int .i64 8])) w2:=by rw [HP.out,read_down _ _ _ hk ho];exact ⟨HB0.out,Or.inl ⟨rfl,rfl⟩⟩
   rw [ho]
   clear HP HD HB0
   go_wp2
   exact R
  ·have ho':S.out=false:=by simpa using ho
   rw [ho']
   have HR:Hid (S.read (f1,f2,f3) i=(0,(Go.Proofs.YtlllmmceoeihkaaGreat.has S.l (f1,f2,f3) i).getD (List.replicate 32 0))):=read_ok _ _ _ hk ho'
   go_wp2
   refine region_L (AtR F g S mb ml w.heap.size f1 f2 f3) 9 (by kernel_rfl) ?_
   have HD2:Hid (PD F w2.drew g S mb ml):=HD.out.keep (fun _ _=>rfl)
   have HB2:Hid (Below w.heap.size w w2.drew):=HB0.out.drew
   have z0:w2.drew.cell? ⟨w.heap.size,0,none⟩=some (.int .i64 f1):=x0
   have z1:w2.drew.cell? ⟨w.heap.size,1,none⟩=some (.int .i64 f2):=x1
   have z2:w2.drew.cell? ⟨w.heap.size,2,none⟩=some (.int .i64 f3):=x2
   clear HD HB0 x0 x1 x2
   generalize w2.drew=v1 at *
   obtain ⟨hlen,hfit⟩:=has_fit HD2.out (f1,f2,f3) i
   have hHeld:(AtR F g S mb ml w.heap.size f1 f2 f3) _:=⟨HD2.out,z0,z1,z2⟩
   have hne:Nonempty (Sub (AtR F g S mb ml w.heap.size f1 f2 f3)):=⟨⟨_,hHeld⟩⟩
   have k0:∀ s:Sub (AtR F g S mb ml w.heap.size f1 f2 f3),s.w.cell? ⟨g,0,none⟩=some (.map mb):=fun s=>s.ok.1.cells.1
   have k1:∀ s:Sub (AtR F g S mb ml w.heap.size f1 f2 f3),s.w.cell? ⟨w.heap.size,0,none⟩=some (.int .i64 f1):=fun s=>s.ok.2.1
   have k2:∀ s:Sub (AtR F g S mb ml w.heap.size f1 f2 f3),s.w.cell? ⟨w.heap.size,1,none⟩=some (.int .i64 f2):=fun s=>s.ok.2.2.1
   have k3:∀ s:Sub (AtR F g S mb ml w.heap.size f1 f2 f3),s.w.cell? ⟨w.heap.size,2,none⟩=some (.int .i64 f3):=fun s=>s.ok.2.2.2
   have k4:∀ s:Sub (AtR F g S mb ml w.heap.size f1 f2 f3),(Instr.lookup 83 (.map mb) (.agg #[.int .i64 f1,.int .i64 f2,.int .i64 f3,.int .i64 i]) false).run Tryz.prog s.w = .ok (.agg (vals ((Go.Proofs.YtlllmmceoeihkaaGreat.has S.l (f1,f2,f3) i).getD (List.replicate 32 0)))) s.w:=fun s=>s.ok.1.lookBlk (f1,f2,f3) i hf hi
   have HL:Hid (((Go.Proofs.YtlllmmceoeihkaaGreat.has S.l (f1,f2,f3) i).getD (List.replicate 32 0)).length=32∧∀ z∈((Go.Proofs.YtlllmmceoeihkaaGreat.has S.l (f1,f2,f3) i).getD (List.replicate 32 0)),0<=z∧z<=255):=⟨hlen,hfit⟩
   clear hlen hfit
   generalize ((Go.Proofs.YtlllmmceoeihkaaGreat.has S.l (f1,f2,f3) i).getD (List.replicate 32 0))=L at *
   refine tk0 0 rfl (fun _ _ _ _ h=>h) hHeld fun K hK=>?_;go_simp;refine hK _ ?_;clear hK K
   refine tk0 1 rfl (fun _ _ _ _ h=>h) hHeld fun K hK=>?_;go_simp;refine hK _ ?_;clear hK K
   refine tk0 2 rfl (fun _ _ _ _ h=>h) hHeld fun K hK=>?_;go_simp;refine hK _ ?_;clear hK K
   refine tk0 3 rfl (fun _ _ _ _ h=>h) hHeld fun K hK=>?_;go_simp;refine hK _ ?_;clear hK K
   refine tk0 4 rfl (fun _ _ _ _ h=>h) hHeld fun K hK=>?_;go_simp;refine hK _ ?_;clear hK K
   refine tk0 5 rfl (fun _ _ _ _ h=>h) hHeld fun K hK=>?_;go_simp;refine hK _ ?_;clear hK K
   refine tk0 6 rfl (fun _ _ _ _ h=>h) hHeld fun K hK=>?_;go_simp;refine hK _ ?_;clear hK K
   refine tk0 7 rfl (fun _ _ _ _ h=>h) hHeld fun K hK=>?_;go_simp;refine hK _ ?_;clear hK K
   refine ol 8 rfl fun K hK=>?_
   go_simp
   rw [show v1.alloc (.cells #[.int .u8 0,.int .u8 0,.int .u8 0,.int .u8 0,.int .u8 0,.int .u8 0,.int .u8 0,.int .u8 0,.int .u8 0,.int .u8 0,.int .u8 0,.int .u8 0,.int .u8 0,.int .u8 0,.int .u8 0,.int .u8 0,.int .u8 0,.int .u8 0,.int .u8 0,.int .u8 0,.int .u8 0,.int .u8 0,.int .u8 0,.int .u8 0,.int .u8 0,.int .u8 0,.int .u8 0,.int .u8 0,.int .u8 0,.int .u8 0,.int .u8 0,.int .u8 0] 214)=v1.alloc (.cells (vals (List.replicate 32 0)) 214) from rfl]
   have hb3:Below v1.heap.size v1 (v1.alloc (.cells (vals (List.replicate 32 0)) 214)):=(Below.refl _ _).alloc (Nat.le_refl _) _
   have hN:Blk (v1.alloc (.cells (vals (List.replicate 32 0)) 214)) v1.heap.size 214 (List.replicate 32 0):=Blk.new _ _ _
   replace hHeld:(AtR F g S mb ml w.heap.size f1 f2 f3) _:=hHeld.on hb3
   refine hK.out _ _ (fun _=>hHeld) ?_
   clear hK K
   refine ol 9 rfl fun K hK=>?_
   refine step_plain rfl ?_
   refine wp_store_row 214 (.tmp 8) (.tmp 22) rfl v1.heap.size (vals L) rfl rfl 214 _ hN (by rw [size214,vals_size,HL.out.1]) (by rw [vals_size,vals_size,HL.out.1];rfl) (ones L) ?_
   refine hK.out _ _ (fun h=>absurd rfl h) ?_
   clear hK K
   refine done_L (by kernel_rfl) ?_ _
   have hB3:Blk ((v1.alloc (.cells (vals (List.replicate 32 0)) 214)).setRow v1.heap.size (vals L)) v1.heap.size 214 L:=setRow_heap _ _ _ _ 214 (0,0) hN
   have HW3:Hid (Below w.heap.size w ((v1.alloc (.cells (vals (List.replicate 32 0)) 214)).setRow v1.heap.size (vals L))):=by
    have h1:Below w.heap.size w (v1.alloc (.cells (vals (List.replicate 32 0)) 214)):=HB2.out.trans (hb3.mono HB2.out.size)
    exact ⟨h1.os,h1.tape,h1.output,by rw [setRow_size];exact h1.size,fun k hk=>by rw [setRow_other _ _ _ _ (by have:=HB2.out.size;omega)];exact h1.block k hk⟩
   have hs1:=HB2.out.size
   have HB3:Hid (Blk ((v1.alloc (.cells (vals (List.replicate 32 0)) 214)).setRow v1.heap.size (vals L)) v1.heap.size 214 L):=hB3
   clear hB3 hb3 hN hHeld HD2 HB2 z0 z1 z2 k0 k1 k2 k3 k4 hne
   generalize (v1.alloc (.cells (vals (List.replicate 32 0)) 214)).setRow v1.heap.size (vals L)=v2 at *
   have R:Post (.returned (.tuple #[.slice (some ⟨v1.heap.size,0,none⟩) 32 32,.int .i64 0])) v2:=by rw [HP.out,HR.out];exact ⟨HW3.out,Or.inr ⟨_,hs1,rfl,HB3.out,HL.out.1,HL.out.2⟩⟩
   clear HP HR HW3 HB3 HL
   go_wp2
   simpa using R
 ·have R:Post (.returned (.tuple #[.slice none 0 0,.int .i64 1])) w1:=by rw [HP.out,read_arg _ _ _ hk];exact ⟨HB0.out,Or.inl ⟨rfl,rfl⟩⟩
  rw [decide_eq_false hk]
  clear HP HD HB0
  go_wp2
  exact R
end Go.Proofs.YtlllmmceoeihkaaGreat
set_option maxRecDepth 20000
namespace Go.Proofs.YtlllmmceoeihkaaGreat
open Go.RowKit Go.Maps
abbrev headOf (mb ml:Option Nat) (S:St):Obj:=.cells #[.map mb,.map ml,.int .i64 S.writes,.int .i64 S.lf,.bool S.out] 86 (0,0)
structure Made (F:Nat->Prop) (w w1:World) (g:Nat) (S:St) (b l:Nat) (n:Nat) (Db Dl:DataW Unit) (f1 f2 f3:Int):Prop where
 head:w1.heap[g]?=some (headOf (some b) (some l) S)
 mb:w1.ownsMap Tryz.prog 216 blkElem b n Db
 ml:w1.ownsMap Tryz.prog 179 (plainElem Tryz.prog 3) l n Dl
 ne:b≠g∧l≠g∧b≠l
 inF:(F b∨w.heap.size<=b)∧(F l∨w.heap.size<=l)∧F g
 chg:Chg F w w1
 box:w1.heap[w.heap.size]?=some (.cells #[.int .i64 f1,.int .i64 f2,.int .i64 f3] 179 (0,0))
theorem Made.on {F:Nat->Prop} {w w1 w2:World} {g:Nat} {S:St} {b l n:Nat} {Db Dl:DataW Unit} {f1 f2 f3:Int} (h:Made F w w1 g S b l n Db Dl f1 f2 f3) (hb:Below w1.heap.size w1 w2):Made F w w2 g S b l n Db Dl f1 f2 f3 :=
 ⟨(hb.block g (Array.getElem?_eq_some_iff.1 h.head).1).trans h.head,ownsMap_same h.mb (hb.block b h.mb.lt),ownsMap_same h.ml (hb.block l h.ml.lt),h.ne,h.inF,h.chg.trans (F:=F) (G:=F) (Chg.of_below hb) (fun _ h=>Or.inl h),(hb.block _ (Array.getElem?_eq_some_iff.1 h.box).1).trans h.box⟩
theorem Made.drew {F:Nat->Prop} {w w1:World} {g:Nat} {S:St} {b l n:Nat} {Db Dl:DataW Unit} {f1 f2 f3:Int} (h:Made F w w1 g S b l n Db Dl f1 f2 f3):Made F w w1.drew g S b l n Db Dl f1 f2 f3 :=
 ⟨h.head,h.mb,h.ml,h.ne,h.inF,⟨h.chg.os,h.chg.tape,h.chg.output,h.chg.size,h.chg.block⟩,h.box⟩
theorem Made.cells {F:Nat->Prop} {w w1:World} {g:Nat} {S:St} {b l n:Nat} {Db Dl:DataW Unit} {f1 f2 f3:Int} (h:Made F w w1 g S b l n Db Dl f1 f2 f3) :
  w1.cell? ⟨g,0,none⟩=some (.map (some b))∧w1.cell? ⟨g,1,none⟩=some (.map (some l))∧w1.cell? ⟨w.heap.size,0,none⟩=some (.int .i64 f1)∧w1.cell? ⟨w.heap.size,1,none⟩=some (.int .i64 f2)∧w1.cell? ⟨w.heap.size,2,none⟩=some (.int .i64 f3):=by
 refine ⟨?_,?_,?_,?_,?_⟩
 ·rw [cell_of_row w1 g 0 _ 86 (0,0) h.head];rfl
 ·rw [cell_of_row w1 g 1 _ 86 (0,0) h.head];rfl
 ·rw [cell_of_row w1 _ 0 _ 179 (0,0) h.box];rfl
 ·rw [cell_of_row w1 _ 1 _ 179 (0,0) h.box];rfl
 ·rw [cell_of_row w1 _ 2 _ 179 (0,0) h.box];rfl
theorem Made.blk {F:Nat->Prop} {w w1 w2:World} {g:Nat} {S:St} {b l n:Nat} {Db Dl Db':DataW Unit} {f1 f2 f3:Int} (h:Made F w w1 g S b l n Db Dl f1 f2 f3) (ho:w2.ownsMap Tryz.prog 216 blkElem b (n+1) Db') (hg:w1.grownBy w2 (some b)) (hlt:w.heap.size<w1.heap.size) (hbw:b≠w.heap.size):Made F w w2 g S b l (n+1) Db' Dl f1 f2 f3:=by
 have old:∀ k,k<w1.heap.size->k≠b->w2.heap[k]?=w1.heap[k]?:=fun k hk hne=>hg.block k hk (fun e=>hne (by simpa using e))
 refine ⟨(old g (Array.getElem?_eq_some_iff.1 h.head).1 (fun e=>h.ne.1 e.symm)).trans h.head,ho,(ownsMap_same h.ml (old l h.ml.lt (fun e=>h.ne.2.2 e.symm))).mono (Nat.le_succ _),h.ne,h.inF,⟨hg.os.trans h.chg.os,hg.tape.trans h.chg.tape,hg.output.trans h.chg.output,Nat.le_trans h.chg.size hg.size,fun k hk hF=>?_⟩,(old _ hlt (fun e=>hbw e.symm)).trans h.box⟩
 rw [old k (Nat.lt_of_lt_of_le hk h.chg.size) (fun e=>?_)]
 ·exact h.chg.block k hk hF
 ·subst e
  rcases h.inF.1 with h1 | h1
  ·exact hF h1
  ·omega
theorem Made.len {F:Nat->Prop} {w w1 w2:World} {g:Nat} {S:St} {b l n:Nat} {Db Dl Dl':DataW Unit} {f1 f2 f3:Int} (h:Made F w w1 g S b l n Db Dl f1 f2 f3) (ho:w2.ownsMap Tryz.prog 179 (plainElem Tryz.prog 3) l (n+1) Dl') (hg:w1.grownBy w2 (some l)) (hlt:w.heap.size<w1.heap.size) (hbw:l≠w.heap.size):Made F w w2 g S b l (n+1) Db Dl' f1 f2 f3:=by
 have old:∀ k,k<w1.heap.size->k≠l->w2.heap[k]?=w1.heap[k]?:=fun k hk hne=>hg.block k hk (fun e=>hne (by simpa using e))
 refine ⟨(old g (Array.getElem?_eq_some_iff.1 h.head).1 (fun e=>h.ne.2.1 e.symm)).trans h.head,(ownsMap_same h.mb (old b h.mb.lt h.ne.2.2)).mono (Nat.le_succ _),ho,h.ne,h.inF,⟨hg.os.trans h.chg.os,hg.tape.trans h.chg.tape,hg.output.trans h.chg.output,Nat.le_trans h.chg.size hg.size,fun k hk hF=>?_⟩,(old _ hlt (fun e=>hbw e.symm)).trans h.box⟩
 rw [old k (Nat.lt_of_lt_of_le hk h.chg.size) (fun e=>?_)]
 ·exact h.chg.block k hk hF
 ·subst e
  rcases h.inF.2.1 with h1 | h1
  ·exact hF h1
  ·omega
def KeepSay (F:Nat->Prop) (g:Nat) (S:St) (f:Fl) (i:Int) (bs:List Int) (w:World) (e:Ending) (w':World):Prop :=
 e = .returned (.tuple #[])∧Chg F w w'∧∃ mb ml,w'.heap[g]?=some (headOf mb ml S)∧PMaps (fun k=>F k∨(w.heap.size<=k∧k<w'.heap.size)) w' g { S with l:=put S.l f i bs,writes:=S.writes+1 } mb ml
theorem step_mapUpdate {ops:Array Oper} {o:Oper} {a:Act} {w:World} {K:Act->World->Prop} {Q:Exit->Act->World->Prop} {E:Prop} (hgd:o.guard=none) (m x v:Operand) (t k e:TypeId) (hop:o.op=Op.mapUpdate t m x v) (hk:Keyed Tryz.prog k) (ht:Tryz.prog.underlying t=some (.map k e))
  (R:Value->Option (DataW Unit×List MemPlace)) (b n:Nat) (D:DataW Unit) (key val:Value) (kl:Lit) (d:DataW Unit) (hm:a.eval m = .map (some b)) (hown:w.ownsMap Tryz.prog k R b n D) (hn:n<maxLen) (hx:a.eval x=key) (hv:a.eval v=val) (hkey:keyOf Tryz.prog k key=some kl) (hval:R val=some (d,[]))
  (hK:∀ w',w'.ownsMap Tryz.prog k R b (n+1) (D.put kl d)->w.grownBy w' (some b)->K (a.put o.dst undef) w') :
  if Region.wanted o (yielded ops a.tmps)=true then Oper.wp Tryz.prog o a w K Q else E:=by
 refine step_plain hgd ?_
 obtain ⟨w',hrun,r1,r2⟩:=hown.update hk ht hn hkey hval
 unfold Oper.wp
 simp [execOp,hop,hm,hx,hv,hrun,Result.andThen]
 exact hK w' r1 r2
theorem wpList_copy_blk {w:World} {ops:Array Oper} {rest:List Oper} {o:Oper} {a:Act} {Q:Exit->Act->World->Prop} (hgd:o.guard=none) (d s:Operand)
  (ho:o.op = .call { callee:=.builtin .copy,args := #[d,s],argTypes := #[61,61] }) (g:Nat) (sp:Option Addr) (sCap:Nat) (hd:a.eval d = .slice (some ⟨g,0,none⟩) 32 32) (hs:a.eval s = .slice sp 32 sCap)
  (t:TypeId) (zs xs:List Int) (hR:Blk w g t zs) (hz:zs.length=32) (hX:Bytes w sp 32 xs) (B:Nat) (w0:World) (hb:Below B w0 w) (hBg:B<=g)
  (h:∀ w',Hid (Blk w' g t xs)->Below B w0 w'->wpList Tryz.prog ops Q rest (a.put o.dst (goInt 32)) w'):wpList Tryz.prog ops Q (o::rest) a w:=by
 have hn:=hX.n
 obtain ⟨i,hi,hz0,hz1,hz2⟩:=info_parts Tryz.info5
 refine wpList_copy_splice hgd d s 61 61 ho 5 Tryz.underlying61 (by rw [hi];simp [hz1]) _ sp 32 32 32 sCap hd hs g 0 (zs.map (Value.int .u8)) t hR (xs.map (Value.int .u8)) (by rw [List.length_map,hn];rfl) ?_ (by simp;omega) (ints_oneCell _ _) B w0 hb hBg ?_
 ·intro hp
  rcases hX.cells with e | ⟨b,off,e,hc⟩
  ·simp [e] at hp
  ·refine ⟨rfl,_,e,fun j v hj=>?_⟩
   obtain ⟨hj',hv⟩:=List.getElem?_eq_some_iff.1 hj
   rw [List.length_map] at hj'
   rw [Addr.add_lit,hc j hj',<- hv]
   simp
 ·intro w' hw hbel
  rw [List.length_map,hn]
  refine h w' ?_ hbel
  have hw:=hw.out
  show Blk _ _ _ _
  unfold Blk
  rw [hw]
  have e:splice (zs.map (Value.int .u8)) 0 (xs.map (Value.int .u8))=xs.map (Value.int .u8):=by
   simp [splice,hn]
   omega
  rw [e]
  rfl
theorem bytes_ne {w:World} {g:Nat} {mb ml:Option Nat} {S:St} {sa:Option Addr} {bs:List Int} (h:Bytes w sa 32 bs) (hh:w.heap[g]?=some (headOf mb ml S)):∃ p off,sa=some ⟨p,off,none⟩∧p≠g:=by
 obtain ⟨p,off,z,e,hc,_⟩:=h.get 0 (by omega)
 refine ⟨p,off,e,fun he=>?_⟩
 subst he
 rw [cell_of_row w p _ _ 86 (0,0) hh] at hc
 obtain ⟨hl,hc⟩:=Array.getElem?_eq_some_iff.1 hc
 have hl':off+0<5:=hl
 generalize off+0=j at *
 match j,hl' with
 | 0,_=>cases hc
 | 1,_=>cases hc
 | 2,_=>cases hc
 | 3,_=>cases hc
 | 4,_=>cases hc
theorem eq63_some (b:Nat) (w:World):(binOp .eql 83 (.map (some b)) (.map none)).run Tryz.prog w = .ok (.bool false) w:=by kernel_rfl
theorem eq63_none (w:World):(binOp .eql 83 (.map none) (.map none)).run Tryz.prog w = .ok (.bool true) w:=by kernel_rfl
theorem look_len {w:World} {l n:Nat} {Db Dl:DataW Unit} {L:List Bk} (h:w.ownsMap Tryz.prog 179 (plainElem Tryz.prog 3) l n Dl) (h2:Holds2 L Db Dl) {f:Fl} (hf:I64F f):(Instr.lookup 84 (.map (some l)) (valF f) false).run Tryz.prog w = .ok (.int .i64 (lenOf (at_ L) f)) w:=by
 obtain ⟨c,hrun,hat,_⟩:=h.lookup_int lawF Tryz.underlying84 Tryz.underlying3 (zero3 w) (keyF f hf)
 rw [h2.len f hf] at hat
 simp only [DataW.lit.injEq,Lit.int.injEq,true_and] at hat
 rw [hrun,hat]
theorem len_bd {l:List Bk} (h:Good l) (f:Fl):0<=lenOf (at_ l) f∧lenOf (at_ l) f<=4096:=by
 rcases lenOf_is (f:=f) (fun q hq=>(h.at_ q hq).1) with ⟨e,_⟩|⟨j,hj,e⟩
 ·omega
 ·have:=h.at_ _ hj
  simp only at this
  omega
def AtB (F:Nat->Prop) (w:World) (g:Nat) (S:St) (b l n:Nat) (Db Dl:DataW Unit) (f1 f2 f3:Int) (B:Nat) (bs:List Int) (w':World):Prop:=Made F w w' g S b l n Db Dl f1 f2 f3∧Blk w' B 214 bs
theorem Made.keepSay {F:Nat->Prop} {w w1:World} {g:Nat} {S:St} {b l n:Nat} {Db Dl Db' Dl':DataW Unit} {f1 f2 f3 i:Int} {bs:List Int} (h:Made F w w1 g S b l n Db' Dl' f1 f2 f3) (hb:b<w1.heap.size) (hl:l<w1.heap.size) (hn:n<=(2*(S.writes+1)).toNat) (h2:Holds2 S.l Db Dl) (hb':IsMap Db) (hl':IsMap Dl)
  (eb:Db'=Db.put (klP (f1,f2,f3) i) (dat bs)) (el:Dl'=Dl.put (klF (f1,f2,f3)) (.lit (.int .i64 (max (lenOf (at_ S.l) (f1,f2,f3)) (i+1))))) (hf:I64F (f1,f2,f3)) (hi:I64 i) (hi0:0<=i):KeepSay F g S (f1,f2,f3) i bs w (.returned (.tuple #[])) w1:=by
 subst eb el
 refine ⟨rfl,h.chg,some b,some l,h.head,Or.inr ⟨b,l,_,_,rfl,rfl,h.mb.mono hn,h.ml.mono hn,h2.put hb' hl' hf hi hi0,?_,?_,h.ne⟩⟩
 ·exact h.inF.1.imp id (fun h1=>⟨h1,hb⟩)
 ·exact h.inF.2.1.imp id (fun h1=>⟨h1,hl⟩)
theorem new_maps (w0:World) (g:Nat) (hg:g<w0.heap.size) (u v:Value) :
  ((((w0.alloc (.map #[] 0)).setCell ⟨g,0,none⟩ u).alloc (.map #[] 0)).setCell ⟨g,1,none⟩ v).ownsMap Tryz.prog 216 blkElem w0.heap.size 0 (.map []) ∧
  ((((w0.alloc (.map #[] 0)).setCell ⟨g,0,none⟩ u).alloc (.map #[] 0)).setCell ⟨g,1,none⟩ v).ownsMap Tryz.prog 179 (plainElem (H:=Unit) Tryz.prog 3) (w0.heap.size+1) 0 (.map []) ∧
  Chg (fun k=>k=g) w0 ((((w0.alloc (.map #[] 0)).setCell ⟨g,0,none⟩ u).alloc (.map #[] 0)).setCell ⟨g,1,none⟩ v) ∧
  ((((w0.alloc (.map #[] 0)).setCell ⟨g,0,none⟩ u).alloc (.map #[] 0)).setCell ⟨g,1,none⟩ v).heap.size=w0.heap.size+2 ∧
  ∀ k,k<w0.heap.size->k≠g->((((w0.alloc (.map #[] 0)).setCell ⟨g,0,none⟩ u).alloc (.map #[] 0)).setCell ⟨g,1,none⟩ v).heap[k]?=w0.heap[k]?:=by
 have h1:=World.ownsMap_made w0 Tryz.prog 216 blkElem
 have hs:((w0.alloc (.map #[] 0)).setCell ⟨g,0,none⟩ u).heap.size=w0.heap.size+1:=by rw [World.size_setCell,World.size_alloc]
 have h2:=World.ownsMap_made ((w0.alloc (.map #[] 0)).setCell ⟨g,0,none⟩ u) Tryz.prog 179 (plainElem (H:=Unit) Tryz.prog 3)
 rw [hs] at h2
 have hk:∀ k,k<w0.heap.size->k≠g->((((w0.alloc (.map #[] 0)).setCell ⟨g,0,none⟩ u).alloc (.map #[] 0)).setCell ⟨g,1,none⟩ v).heap[k]?=w0.heap[k]?:=fun k hk hne=>by
  rw [Below.heap_setCell _ ⟨g,1,none⟩ _ _ hne,heap_alloc_old _ _ (by rw [hs];omega),Below.heap_setCell _ ⟨g,0,none⟩ _ _ hne]
  exact heap_alloc_old w0 _ hk
 refine ⟨((h1.setCell (a:=⟨g,0,none⟩) (by show _≠g;omega) u).alloc _).setCell (a:=⟨g,1,none⟩) (by show _≠g;omega) v,h2.setCell (a:=⟨g,1,none⟩) (by show _≠g;omega) v,⟨rfl,rfl,rfl,?_,fun k hk' hne=>hk k hk' hne⟩,?_,hk⟩
 ·rw [World.size_setCell,World.size_alloc,hs];omega
 ·rw [World.size_setCell,World.size_alloc,hs]
theorem wrapI {n:Int} (h : -9223372036854775808<=n∧n<=9223372036854775807):IntKind.i64.wrap n=n:=by
 simp [IntKind.wrap,IntKind.bits,IntKind.signed]
 omega
set_option maxHeartbeats 2000000 in
theorem keep_c (F:Nat->Prop) (g:Nat) (S:St) (f1 f2 f3 i:Int) (sa:Option Addr) (sc:Nat) (bs:List Int) (hf:I64F (f1,f2,f3)) (hi:0<=i∧i<4096) (w:World) (hD:PDisk F w g S) (hFl:∀ k,F k->k<w.heap.size) (hX:Bytes w sa 32 bs) (hw:S.writes<1000000) :
  Calls Tryz.prog 132 #[.pointer (some ⟨g,0,none⟩),.agg #[.int .i64 f1,.int .i64 f2,.int .i64 f3],.int .i64 i,.slice sa 32 sc] w (KeepSay F g S (f1,f2,f3) i bs w):=by
 obtain ⟨mb,ml,hD⟩:=hD
 obtain ⟨Post,hPost⟩:∃ Post,Post=KeepSay F g S (f1,f2,f3) i bs w:=⟨_,rfl⟩
 rw [<- hPost]
 have HP:Hid (Post=KeepSay F g S (f1,f2,f3) i bs w):=hPost
 clear hPost
 have hgl:=hD.glt
 obtain ⟨hb0,x0,x1,x2⟩:=box_new w f1 f2 f3
 have HX0:Hid (Bytes (w.alloc (.cells #[.int .i64 f1,.int .i64 f2,.int .i64 f3] 179)) sa 32 bs):=hX.later hb0
 have HD0:=hD.inside hb0
 have HB0:Hid (Below w.heap.size w (w.alloc (.cells #[.int .i64 f1,.int .i64 f2,.int .i64 f3] 179))):=hb0
 have HD:Hid (PD F (w.alloc (.cells #[.int .i64 f1,.int .i64 f2,.int .i64 f3] 179)) g S mb ml):=HD0
 have Hbox:Hid ((w.alloc (.cells #[.int .i64 f1,.int .i64 f2,.int .i64 f3] 179)).heap[w.heap.size]?=some (.cells #[.int .i64 f1,.int .i64 f2,.int .i64 f3] 179 (0,0))):=heap_alloc_new w _
 have hs0:w.heap.size+1=(w.alloc (.cells #[.int .i64 f1,.int .i64 f2,.int .i64 f3] 179)).heap.size:=by rw [World.size_alloc]
 obtain ⟨cc0,cc1,_⟩:=HD0.cells
 have HFl:Hid (∀ k,F k->k<w.heap.size):=hFl
 have Hwr:Hid (0<=S.writes∧S.writes<1000000):=⟨hD.bds.2.2.1,hw⟩
 have Hii:Hid (0<=i∧i<4096):=hi
 have hi1:i<4096:=hi.2
 have hwr:IntKind.i64.wrap (i+1)=i+1:=wrapI (by omega)
 have hi0:0<=i:=hi.1
 have HI64:Hid (I64 i):=by show I64 i;unfold I64;omega
 have HL2:Hid (0<=lenOf (at_ S.l) (f1,f2,f3)∧lenOf (at_ S.l) (f1,f2,f3)<=4096):=len_bd hD.ok _
 have hbs:bs.length=32:=hX.n
 have hmm := @run_makeMap Tryz.prog
 have hes:=eq63_some
 have hen:=eq63_none
 clear hb0 HD0 hD hX x0 x1 x2 hFl hw hi
 go_enter Tryz.func132,Tryz.ntmps132
 go_upto_region 1 with fail
 generalize w.alloc (.cells #[.int .i64 f1,.int .i64 f2,.int .i64 f3] 179)=w0 at *
 rcases HD.out.maps with ⟨rfl,rfl,hl0⟩|⟨b,l,Db,Dl,rfl,rfl,hmb,hml,hh2,hFb,hFl,hbg,hlg,hbl⟩
 ·have h0:=HD.out.head
  have ca:(w0.alloc (.map #[] 0)).cell? ⟨g,0,none⟩=some (.map none):=((Below.refl w0.heap.size w0).alloc (Nat.le_refl _) _).cell (p:=⟨g,0,none⟩) (by show g<_;omega) |>.trans cc0
  have ha:(w0.alloc (.map #[] 0)).heap[g]?=some (headOf none none S):=(heap_alloc_old w0 _ (by omega)).trans h0
  have fa:(w0.alloc (.map #[] 0)).frozen? ⟨g,0,none⟩=false:=frozen_of_row _ g 0 _ 86 ha
  have hvb:=heap_setCell_same _ g 0 _ 86 (.map (some w0.heap.size)) ha
  have hvc:(((w0.alloc (.map #[] 0)).setCell ⟨g,0,none⟩ (.map (some w0.heap.size))).alloc (.map #[] 0)).heap[g]?=some (headOf (some w0.heap.size) none S):=(heap_alloc_old _ _ (by rw [World.size_setCell,World.size_alloc];omega)).trans hvb
  have cvc:(((w0.alloc (.map #[] 0)).setCell ⟨g,0,none⟩ (.map (some w0.heap.size))).alloc (.map #[] 0)).cell? ⟨g,1,none⟩=some (.map none):=by rw [cell_of_row _ g 1 _ 86 (0,0) hvc];rfl
  have fvc:(((w0.alloc (.map #[] 0)).setCell ⟨g,0,none⟩ (.map (some w0.heap.size))).alloc (.map #[] 0)).frozen? ⟨g,1,none⟩=false:=frozen_of_row _ g 1 _ 86 hvc
  have hvd:=heap_setCell_same _ g 1 _ 86 (.map (some (w0.heap.size+1))) hvc
  have Hn:=new_maps w0 g (by omega) (.map (some w0.heap.size)) (.map (some (w0.heap.size+1)))
  have HM:Hid (Made F w ((((w0.alloc (.map #[] 0)).setCell ⟨g,0,none⟩ (.map (some w0.heap.size))).alloc (.map #[] 0)).setCell ⟨g,1,none⟩ (.map (some (w0.heap.size+1)))) g S w0.heap.size (w0.heap.size+1) (2*S.writes).toNat (.map []) (.map []) f1 f2 f3) :=
   ⟨hvd,Hn.1.mono (Nat.zero_le _),Hn.2.1.mono (Nat.zero_le _),⟨by omega,by omega,by omega⟩,⟨Or.inr (by omega),Or.inr (by omega),HD.out.inF⟩,(Chg.of_below (F:=F) HB0.out).trans (G:=fun k=>k=g) Hn.2.2.1 (fun j hj=>Or.inl (hj▸HD.out.inF)),(Hn.2.2.2.2 _ (by omega) (by omega)).trans Hbox.out⟩
  have H2:Hid (Holds2 S.l (.map []) (.map [])):=by rw [hl0];exact Holds2.empty
  have Him:Hid (IsMap (.map []:DataW Unit)∧IsMap (.map []:DataW Unit)):=⟨isMap_empty,isMap_empty⟩
  have HX1:Hid (Bytes ((((w0.alloc (.map #[] 0)).setCell ⟨g,0,none⟩ (.map (some w0.heap.size))).alloc (.map #[] 0)).setCell ⟨g,1,none⟩ (.map (some (w0.heap.size+1)))) sa 32 bs):=by
   obtain ⟨p,off,e,hp⟩:=bytes_ne HX0.out h0
   subst e
   refine HX0.out.same (Hn.2.2.2.2 p ?_ hp)
   obtain ⟨_,_,_,e,hc,_⟩:=HX0.out.get 0 (by omega)
   cases e
   exact World.block_lt_of_cell? w0 _ hc
  have hszd:=Hn.2.2.2.1
  have hbw:w0.heap.size≠w.heap.size:=by omega
  have hlw:w0.heap.size+1≠w.heap.size:=by omega
  clear cc1 ha hvb hvc hvd Hn HX0
  go_upto_region 4 with fail
  clear ca fa cvc fvc h0 HD hl0 HB0 Hbox cc0
  generalize (((w0.alloc (.map #[] 0)).setCell ⟨g,0,none⟩ (.map (some w0.heap.size))).alloc (.map #[] 0)).setCell ⟨g,1,none⟩ (.map (some (w0.heap.size+1)))=wd at *
  have hlt0:w.heap.size<wd.heap.size:=by omega
  clear hszd hs0
  have HX0:Hid (Bytes wd sa 32 bs):=HX1
  clear HX1
  generalize w0.heap.size+1=l at *
  generalize w0.heap.size=b at *
  generalize hDb:(DataW.map []:DataW Unit)=Db at *
  clear hDb
  obtain ⟨Dl,hDl⟩:∃ Dl,Dl=Db:=⟨_,rfl⟩
  have HM0:Hid (Made F w wd g S b l (2*S.writes).toNat Db Dl f1 f2 f3):=by rw [hDl];exact HM
  have H20:Hid (Holds2 S.l Db Dl):=by rw [hDl];exact H2
  have Him0:Hid (IsMap Db∧IsMap Dl):=by rw [hDl];exact Him
  clear HM H2 Him hDl
  have HM:=HM0
  have H2:=H20
  have Him:=Him0
  clear HM0 H20 Him0
  go_upto_region 5 with fail
  rw [show wd.alloc (.cells #[.int .u8 0,.int .u8 0,.int .u8 0,.int .u8 0,.int .u8 0,.int .u8 0,.int .u8 0,.int .u8 0,.int .u8 0,.int .u8 0,.int .u8 0,.int .u8 0,.int .u8 0,.int .u8 0,.int .u8 0,.int .u8 0,.int .u8 0,.int .u8 0,.int .u8 0,.int .u8 0,.int .u8 0,.int .u8 0,.int .u8 0,.int .u8 0,.int .u8 0,.int .u8 0,.int .u8 0,.int .u8 0,.int .u8 0,.int .u8 0,.int .u8 0,.int .u8 0] 214)=wd.alloc (.cells (vals (List.replicate 32 0)) 214) from rfl]
  have hb1:Below wd.heap.size wd (wd.alloc (.cells (vals (List.replicate 32 0)) 214)):=(Below.refl _ _).alloc (Nat.le_refl _) _
  have HX1:Hid (Bytes (wd.alloc (.cells (vals (List.replicate 32 0)) 214)) sa 32 bs):=HX0.out.later hb1
  have HN1:Hid (Blk (wd.alloc (.cells (vals (List.replicate 32 0)) 214)) wd.heap.size 214 (List.replicate 32 0)):=Blk.new _ _ _
  have hs1:wd.heap.size<(wd.alloc (.cells (vals (List.replicate 32 0)) 214)).heap.size:=by rw [World.size_alloc];omega
  have Hb1:Hid (Below wd.heap.size wd (wd.alloc (.cells (vals (List.replicate 32 0)) 214))):=hb1
  clear hb1 HX0
  generalize wd.alloc (.cells (vals (List.replicate 32 0)) 214)=w1 at *
  obtain ⟨B,hB⟩:∃ B,B=wd.heap.size:=⟨_,rfl⟩
  rw [<- hB] at Hb1 HN1 hs1 hlt0 ⊢
  have HB:Hid (B=wd.heap.size):=hB
  clear hB
  go_wp2_with (refine wpList_copy_blk rfl (.tmp 22) (.tmp 23) rfl B sa sc rfl rfl 214 _ bs HN1.out (by simp) HX1.out B wd Hb1.out (Nat.le_refl _) ?_;intro w2 HN2 hb2)
  have hb2':Below wd.heap.size wd w2:=HB.out▸hb2
  have hs2:wd.heap.size<=w2.heap.size:=hb2'.size
  rw [HB.out] at hlt0
  refine region_L (AtB F w g S b l (2*S.writes).toNat Db Dl f1 f2 f3 B bs) 8 (by kernel_rfl) ?_
  have HM2:Hid (Made F w w2.drew g S b l (2*S.writes).toNat Db Dl f1 f2 f3):=(HM.out.on hb2').drew
  have HN3:Hid (Blk w2.drew B 214 bs):=HN2.out
  have hlt2:w.heap.size<w2.drew.heap.size:=Nat.lt_of_lt_of_le hlt0 hs2
  clear HM HN2 hb2 hb2' HX1 HN1 hs1 hs2 hlt0 Hb1
  generalize w2.drew=v1 at *
  have hHeld:(AtB F w g S b l (2*S.writes).toNat Db Dl f1 f2 f3 B bs) _:=⟨HM2.out,HN3.out⟩
  have hne:Nonempty (Sub (AtB F w g S b l (2*S.writes).toNat Db Dl f1 f2 f3 B bs)):=⟨⟨_,hHeld⟩⟩
  have k0:∀ s:Sub (AtB F w g S b l (2*S.writes).toNat Db Dl f1 f2 f3 B bs),s.w.cell? ⟨g,0,none⟩=some (.map (some b)):=fun s=>s.ok.1.cells.1
  have k1:∀ s:Sub (AtB F w g S b l (2*S.writes).toNat Db Dl f1 f2 f3 B bs),s.w.cell? ⟨w.heap.size,0,none⟩=some (.int .i64 f1):=fun s=>s.ok.1.cells.2.2.1
  have k2:∀ s:Sub (AtB F w g S b l (2*S.writes).toNat Db Dl f1 f2 f3 B bs),s.w.cell? ⟨w.heap.size,1,none⟩=some (.int .i64 f2):=fun s=>s.ok.1.cells.2.2.2.1
  have k3:∀ s:Sub (AtB F w g S b l (2*S.writes).toNat Db Dl f1 f2 f3 B bs),s.w.cell? ⟨w.heap.size,2,none⟩=some (.int .i64 f3):=fun s=>s.ok.1.cells.2.2.2.2
  refine tk0 0 rfl (fun _ _ _ _ h=>h) hHeld fun K hK=>?_;go_simp;refine hK _ ?_;clear hK K
  refine tk0 1 rfl (fun _ _ _ _ h=>h) hHeld fun K hK=>?_;go_simp;refine hK _ ?_;clear hK K
  refine tk0 2 rfl (fun _ _ _ _ h=>h) hHeld fun K hK=>?_;go_simp;refine hK _ ?_;clear hK K
  refine tk0 3 rfl (fun _ _ _ _ h=>h) hHeld fun K hK=>?_;go_simp;refine hK _ ?_;clear hK K
  refine tk0 4 rfl (fun _ _ _ _ h=>h) hHeld fun K hK=>?_;go_simp;refine hK _ ?_;clear hK K
  refine tk0 5 rfl (fun _ _ _ _ h=>h) hHeld fun K hK=>?_;go_simp;refine hK _ ?_;clear hK K
  refine tk0 6 rfl (fun _ _ _ _ h=>h) hHeld fun K hK=>?_;go_simp;refine hK _ ?_;clear hK K
  refine give_L (i:=7) (.agg (vals bs)) rfl (by kernel_rfl) (by kernel_rfl) (by kernel_rfl) (by kernel_rfl) (fun _ _ _ _ h=>h) (by exact hHeld) (by rfl) (fun s=>exec_load (p:=.pointer (some ⟨B,0,none⟩)) rfl rfl (s.ok.2.load hbs)) ?_
  refine ol 8 rfl fun K hK=>?_
  refine step_mapUpdate rfl (.tmp 28) (.tmp 31) (.tmp 32) 83 216 214 rfl lawP Tryz.underlying83 blkElem b (2*S.writes).toNat Db (valP (f1,f2,f3) i) (.agg (vals bs)) (klP (f1,f2,f3) i) (dat bs) rfl HM2.out.mb (by have:=Hwr.out;unfold maxLen;omega) rfl rfl (keyP (f1,f2,f3) i hf HI64.out) (blkElem_mk hbs) ?_
  intro w3 ho3 hg3
  have HM3:Hid (Made F w w3 g S b l ((2*S.writes).toNat+1) (Db.put (klP (f1,f2,f3) i) (dat bs)) Dl f1 f2 f3):=HM2.out.blk ho3 hg3 hlt2 hbw
  have hlt3:w.heap.size<w3.heap.size:=Nat.lt_of_lt_of_le hlt2 hg3.size
  clear ho3 hg3
  refine hK.out _ _ (fun h=>absurd rfl h) ?_
  clear hK K
  refine done_L (by kernel_rfl) ?_ _
  clear HM2 HN3 hHeld hne k0 k1 k2 k3 hlt2
  obtain ⟨LL,hLL⟩:∃ x,x=lenOf (at_ S.l) (f1,f2,f3):=⟨_,rfl⟩
  have HLL:Hid (LL=lenOf (at_ S.l) (f1,f2,f3)):=hLL
  clear hLL
  go_wp2
  refine region_L (fun w'=>Made F w w' g S b l ((2*S.writes).toNat+1) (Db.put (klP (f1,f2,f3) i) (dat bs)) Dl f1 f2 f3) 14 (by kernel_rfl) ?_
  have HM4:Hid (Made F w w3.drew g S b l ((2*S.writes).toNat+1) (Db.put (klP (f1,f2,f3) i) (dat bs)) Dl f1 f2 f3):=HM3.out.drew
  have hlt4:w.heap.size<w3.drew.heap.size:=hlt3
  clear HM3 hlt3
  generalize w3.drew=v3 at *
  have hHeld:(fun w'=>Made F w w' g S b l ((2*S.writes).toNat+1) (Db.put (klP (f1,f2,f3) i) (dat bs)) Dl f1 f2 f3) _:=HM4.out
  have hne:Nonempty (Sub (fun w'=>Made F w w' g S b l ((2*S.writes).toNat+1) (Db.put (klP (f1,f2,f3) i) (dat bs)) Dl f1 f2 f3)):=⟨⟨_,hHeld⟩⟩
  have k0:∀ s:Sub (fun w'=>Made F w w' g S b l ((2*S.writes).toNat+1) (Db.put (klP (f1,f2,f3) i) (dat bs)) Dl f1 f2 f3),s.w.cell? ⟨g,1,none⟩=some (.map (some l)):=fun s=>s.ok.cells.2.1
  have k1:∀ s:Sub (fun w'=>Made F w w' g S b l ((2*S.writes).toNat+1) (Db.put (klP (f1,f2,f3) i) (dat bs)) Dl f1 f2 f3),s.w.cell? ⟨w.heap.size,0,none⟩=some (.int .i64 f1):=fun s=>s.ok.cells.2.2.1
  have k2:∀ s:Sub (fun w'=>Made F w w' g S b l ((2*S.writes).toNat+1) (Db.put (klP (f1,f2,f3) i) (dat bs)) Dl f1 f2 f3),s.w.cell? ⟨w.heap.size,1,none⟩=some (.int .i64 f2):=fun s=>s.ok.cells.2.2.2.1
  have k3:∀ s:Sub (fun w'=>Made F w w' g S b l ((2*S.writes).toNat+1) (Db.put (klP (f1,f2,f3) i) (dat bs)) Dl f1 f2 f3),s.w.cell? ⟨w.heap.size,2,none⟩=some (.int .i64 f3):=fun s=>s.ok.cells.2.2.2.2
  have k4:∀ s:Sub (fun w'=>Made F w w' g S b l ((2*S.writes).toNat+1) (Db.put (klP (f1,f2,f3) i) (dat bs)) Dl f1 f2 f3),(Instr.lookup 84 (.map (some l)) (.agg #[.int .i64 f1,.int .i64 f2,.int .i64 f3]) false).run Tryz.prog s.w = .ok (.int .i64 LL) s.w:=fun s=>by rw [HLL.out];exact look_len s.ok.ml H2.out hf
  refine tk0 0 rfl (fun _ _ _ _ h=>h) hHeld fun K hK=>?_;go_simp;refine hK _ ?_;clear hK K
  refine tk0 1 rfl (fun _ _ _ _ h=>h) hHeld fun K hK=>?_;go_simp;refine hK _ ?_;clear hK K
  refine tk0 2 rfl (fun _ _ _ _ h=>h) hHeld fun K hK=>?_;go_simp;refine hK _ ?_;clear hK K
  refine tk0 3 rfl (fun _ _ _ _ h=>h) hHeld fun K hK=>?_;go_simp;refine hK _ ?_;clear hK K
  refine tk0 4 rfl (fun _ _ _ _ h=>h) hHeld fun K hK=>?_;go_simp;refine hK _ ?_;clear hK K
  refine tk0 5 rfl (fun _ _ _ _ h=>h) hHeld fun K hK=>?_;go_simp;refine hK _ ?_;clear hK K
  refine tk0 6 rfl (fun _ _ _ _ h=>h) hHeld fun K hK=>?_;go_simp;refine hK _ ?_;clear hK K
  refine tk0 7 rfl (fun _ _ _ _ h=>h) hHeld fun K hK=>?_;go_simp;refine hK _ ?_;clear hK K
  refine tk0 8 rfl (fun _ _ _ _ h=>h) hHeld fun K hK=>?_;go_simp;refine hK _ ?_;clear hK K
  refine tk0 9 rfl (fun _ _ _ _ h=>h) hHeld fun K hK=>?_;go_simp;refine hK _ ?_;clear hK K
  refine tk0 10 rfl (fun _ _ _ _ h=>h) hHeld fun K hK=>?_;go_simp;refine hK _ ?_;clear hK K
  refine tk0 11 rfl (fun _ _ _ _ h=>h) hHeld fun K hK=>?_;go_simp;refine hK _ ?_;clear hK K
  refine tk0 12 rfl (fun _ _ _ _ h=>h) hHeld fun K hK=>?_;go_simp;refine hK _ ?_;clear hK K
  refine tk0 13 rfl (fun _ _ _ _ h=>h) hHeld fun K hK=>?_;go_simp;refine hK _ ?_;clear hK K
  refine ol 14 rfl fun K hK=>?_
  refine step_mapUpdate rfl (.tmp 36) (.tmp 37) (.tmp 46) 84 179 3 rfl lawF Tryz.underlying84 (plainElem Tryz.prog 3) l ((2*S.writes).toNat+1) Dl (valF (f1,f2,f3)) (.int .i64 (max LL (i+1))) (klF (f1,f2,f3)) (.lit (.int .i64 (max LL (i+1)))) rfl HM4.out.ml (by have:=Hwr.out;unfold maxLen;omega) rfl rfl (keyF (f1,f2,f3) hf) (plainElem_int Tryz.underlying3 (WalkArith.wf_i64 (by have:=HL2.out;have:=HLL.out;omega))) ?_
  intro w4 ho4 hg4
  have HM5:Hid (Made F w w4 g S b l ((2*S.writes).toNat+2) (Db.put (klP (f1,f2,f3) i) (dat bs)) (Dl.put (klF (f1,f2,f3)) (.lit (.int .i64 (max LL (i+1))))) f1 f2 f3):=HM4.out.len ho4 hg4 hlt4 hlw
  clear ho4 hg4
  refine hK.out _ _ (fun h=>absurd rfl h) ?_
  clear hK K
  refine done_L (by kernel_rfl) ?_ _
  clear hHeld hne k0 k1 k2 k3 k4 HM4 hlt4
  have R:Post (.returned (.tuple #[])) w4:=by
   rw [HP.out]
   refine HM5.out.keepSay HM5.out.mb.lt HM5.out.ml.lt ?_ H2.out Him.out.1 Him.out.2 rfl (by rw [HLL.out]) hf HI64.out hi0
   have:=Hwr.out;omega
  clear HP HM5
  go_wp2
  go_end0
  exact R
 ·have HM:Hid (Made F w w0 g S b l (2*S.writes).toNat Db Dl f1 f2 f3):=⟨HD.out.head,hmb,hml,⟨hbg,hlg,hbl⟩,⟨Or.inl hFb,Or.inl hFl,HD.out.inF⟩,Chg.of_below HB0.out,Hbox.out⟩
  have H2:Hid (Holds2 S.l Db Dl):=hh2
  have Him:Hid (IsMap Db∧IsMap Dl):=⟨hmb.isMap,hml.isMap⟩
  have hbw:b≠w.heap.size:=fun e=>by have:=HFl.out b hFb;omega
  have hlw:l≠w.heap.size:=fun e=>by have:=HFl.out l hFl;omega
  have hlt0:w.heap.size<w0.heap.size:=by omega
  have Hin:Hid ((F b∨w.heap.size<=b)∧(F l∨w.heap.size<=l)):=⟨Or.inl hFb,Or.inl hFl⟩
  clear HD hmb hml hh2 hFb hFl hbg hlg hbl HB0 Hbox hs0
  go_upto_region 4 with fail
  go_upto_region 5 with fail
  rw [show w0.alloc (.cells #[.int .u8 0,.int .u8 0,.int .u8 0,.int .u8 0,.int .u8 0,.int .u8 0,.int .u8 0,.int .u8 0,.int .u8 0,.int .u8 0,.int .u8 0,.int .u8 0,.int .u8 0,.int .u8 0,.int .u8 0,.int .u8 0,.int .u8 0,.int .u8 0,.int .u8 0,.int .u8 0,.int .u8 0,.int .u8 0,.int .u8 0,.int .u8 0,.int .u8 0,.int .u8 0,.int .u8 0,.int .u8 0,.int .u8 0,.int .u8 0,.int .u8 0,.int .u8 0] 214)=w0.alloc (.cells (vals (List.replicate 32 0)) 214) from rfl]
  have hb1:Below w0.heap.size w0 (w0.alloc (.cells (vals (List.replicate 32 0)) 214)):=(Below.refl _ _).alloc (Nat.le_refl _) _
  have HX1:Hid (Bytes (w0.alloc (.cells (vals (List.replicate 32 0)) 214)) sa 32 bs):=HX0.out.later hb1
  have HN1:Hid (Blk (w0.alloc (.cells (vals (List.replicate 32 0)) 214)) w0.heap.size 214 (List.replicate 32 0)):=Blk.new _ _ _
  have hs1:w0.heap.size<(w0.alloc (.cells (vals (List.replicate 32 0)) 214)).heap.size:=by rw [World.size_alloc];omega
  have Hb1:Hid (Below w0.heap.size w0 (w0.alloc (.cells (vals (List.replicate 32 0)) 214))):=hb1
  clear hb1 HX0
  generalize w0.alloc (.cells (vals (List.replicate 32 0)) 214)=w1 at *
  obtain ⟨B,hB⟩:∃ B,B=w0.heap.size:=⟨_,rfl⟩
  rw [<- hB] at Hb1 HN1 hs1 hlt0 ⊢
  have HB:Hid (B=w0.heap.size):=hB
  clear hB
  go_wp2_with (refine wpList_copy_blk rfl (.tmp 22) (.tmp 23) rfl B sa sc rfl rfl 214 _ bs HN1.out (by simp) HX1.out B w0 Hb1.out (Nat.le_refl _) ?_;intro w2 HN2 hb2)
  have hb2':Below w0.heap.size w0 w2:=HB.out▸hb2
  have hs2:w0.heap.size<=w2.heap.size:=hb2'.size
  rw [HB.out] at hlt0
  refine region_L (AtB F w g S b l (2*S.writes).toNat Db Dl f1 f2 f3 B bs) 8 (by kernel_rfl) ?_
  have HM2:Hid (Made F w w2.drew g S b l (2*S.writes).toNat Db Dl f1 f2 f3):=(HM.out.on hb2').drew
  have HN3:Hid (Blk w2.drew B 214 bs):=HN2.out
  have hlt2:w.heap.size<w2.drew.heap.size:=Nat.lt_of_lt_of_le hlt0 hs2
  clear HM HN2 hb2 hb2' HX1 HN1 hs1 hs2 hlt0 Hb1
  generalize w2.drew=v1 at *
  have hHeld:(AtB F w g S b l (2*S.writes).toNat Db Dl f1 f2 f3 B bs) _:=⟨HM2.out,HN3.out⟩
  have hne:Nonempty (Sub (AtB F w g S b l (2*S.writes).toNat Db Dl f1 f2 f3 B bs)):=⟨⟨_,hHeld⟩⟩
  have k0:∀ s:Sub (AtB F w g S b l (2*S.writes).toNat Db Dl f1 f2 f3 B bs),s.w.cell? ⟨g,0,none⟩=some (.map (some b)):=fun s=>s.ok.1.cells.1
  have k1:∀ s:Sub (AtB F w g S b l (2*S.writes).toNat Db Dl f1 f2 f3 B bs),s.w.cell? ⟨w.heap.size,0,none⟩=some (.int .i64 f1):=fun s=>s.ok.1.cells.2.2.1
  have k2:∀ s:Sub (AtB F w g S b l (2*S.writes).toNat Db Dl f1 f2 f3 B bs),s.w.cell? ⟨w.heap.size,1,none⟩=some (.int .i64 f2):=fun s=>s.ok.1.cells.2.2.2.1
  have k3:∀ s:Sub (AtB F w g S b l (2*S.writes).toNat Db Dl f1 f2 f3 B bs),s.w.cell? ⟨w.heap.size,2,none⟩=some (.int .i64 f3):=fun s=>s.ok.1.cells.2.2.2.2
  refine tk0 0 rfl (fun _ _ _ _ h=>h) hHeld fun K hK=>?_;go_simp;refine hK _ ?_;clear hK K
  refine tk0 1 rfl (fun _ _ _ _ h=>h) hHeld fun K hK=>?_;go_simp;refine hK _ ?_;clear hK K
  refine tk0 2 rfl (fun _ _ _ _ h=>h) hHeld fun K hK=>?_;go_simp;refine hK _ ?_;clear hK K
  refine tk0 3 rfl (fun _ _ _ _ h=>h) hHeld fun K hK=>?_;go_simp;refine hK _ ?_;clear hK K
  refine tk0 4 rfl (fun _ _ _ _ h=>h) hHeld fun K hK=>?_;go_simp;refine hK _ ?_;clear hK K
  refine tk0 5 rfl (fun _ _ _ _ h=>h) hHeld fun K hK=>?_;go_simp;refine hK _ ?_;clear hK K
  refine tk0 6 rfl (fun _ _ _ _ h=>h) hHeld fun K hK=>?_;go_simp;refine hK _ ?_;clear hK K
  refine give_L (i:=7) (.agg (vals bs)) rfl (by kernel_rfl) (by kernel_rfl) (by kernel_rfl) (by kernel_rfl) (fun _ _ _ _ h=>h) (by exact hHeld) (by rfl) (fun s=>exec_load (p:=.pointer (some ⟨B,0,none⟩)) rfl rfl (s.ok.2.load hbs)) ?_
  refine ol 8 rfl fun K hK=>?_
  refine step_mapUpdate rfl (.tmp 28) (.tmp 31) (.tmp 32) 83 216 214 rfl lawP Tryz.underlying83 blkElem b (2*S.writes).toNat Db (valP (f1,f2,f3) i) (.agg (vals bs)) (klP (f1,f2,f3) i) (dat bs) rfl HM2.out.mb (by have:=Hwr.out;unfold maxLen;omega) rfl rfl (keyP (f1,f2,f3) i hf HI64.out) (blkElem_mk hbs) ?_
  intro w3 ho3 hg3
  have HM3:Hid (Made F w w3 g S b l ((2*S.writes).toNat+1) (Db.put (klP (f1,f2,f3) i) (dat bs)) Dl f1 f2 f3):=HM2.out.blk ho3 hg3 hlt2 hbw
  have hlt3:w.heap.size<w3.heap.size:=Nat.lt_of_lt_of_le hlt2 hg3.size
  clear ho3 hg3
  refine hK.out _ _ (fun h=>absurd rfl h) ?_
  clear hK K
  refine done_L (by kernel_rfl) ?_ _
  clear HM2 HN3 hHeld hne k0 k1 k2 k3 hlt2
  obtain ⟨LL,hLL⟩:∃ x,x=lenOf (at_ S.l) (f1,f2,f3):=⟨_,rfl⟩
  have HLL:Hid (LL=lenOf (at_ S.l) (f1,f2,f3)):=hLL
  clear hLL
  go_wp2
  refine region_L (fun w'=>Made F w w' g S b l ((2*S.writes).toNat+1) (Db.put (klP (f1,f2,f3) i) (dat bs)) Dl f1 f2 f3) 14 (by kernel_rfl) ?_
  have HM4:Hid (Made F w w3.drew g S b l ((2*S.writes).toNat+1) (Db.put (klP (f1,f2,f3) i) (dat bs)) Dl f1 f2 f3):=HM3.out.drew
  have hlt4:w.heap.size<w3.drew.heap.size:=hlt3
  clear HM3 hlt3
  generalize w3.drew=v3 at *
  have hHeld:(fun w'=>Made F w w' g S b l ((2*S.writes).toNat+1) (Db.put (klP (f1,f2,f3) i) (dat bs)) Dl f1 f2 f3) _:=HM4.out
  have hne:Nonempty (Sub (fun w'=>Made F w w' g S b l ((2*S.writes).toNat+1) (Db.put (klP (f1,f2,f3) i) (dat bs)) Dl f1 f2 f3)):=⟨⟨_,hHeld⟩⟩
  have k0:∀ s:Sub (fun w'=>Made F w w' g S b l ((2*S.writes).toNat+1) (Db.put (klP (f1,f2,f3) i) (dat bs)) Dl f1 f2 f3),s.w.cell? ⟨g,1,none⟩=some (.map (some l)):=fun s=>s.ok.cells.2.1
  have k1:∀ s:Sub (fun w'=>Made F w w' g S b l ((2*S.writes).toNat+1) (Db.put (klP (f1,f2,f3) i) (dat bs)) Dl f1 f2 f3),s.w.cell? ⟨w.heap.size,0,none⟩=some (.int .i64 f1):=fun s=>s.ok.cells.2.2.1
  have k2:∀ s:Sub (fun w'=>Made F w w' g S b l ((2*S.writes).toNat+1) (Db.put (klP (f1,f2,f3) i) (dat bs)) Dl f1 f2 f3),s.w.cell? ⟨w.heap.size,1,none⟩=some (.int .i64 f2):=fun s=>s.ok.cells.2.2.2.1
  have k3:∀ s:Sub (fun w'=>Made F w w' g S b l ((2*S.writes).toNat+1) (Db.put (klP (f1,f2,f3) i) (dat bs)) Dl f1 f2 f3),s.w.cell? ⟨w.heap.size,2,none⟩=some (.int .i64 f3):=fun s=>s.ok.cells.2.2.2.2
  have k4:∀ s:Sub (fun w'=>Made F w w' g S b l ((2*S.writes).toNat+1) (Db.put (klP (f1,f2,f3) i) (dat bs)) Dl f1 f2 f3),(Instr.lookup 84 (.map (some l)) (.agg #[.int .i64 f1,.int .i64 f2,.int .i64 f3]) false).run Tryz.prog s.w = .ok (.int .i64 LL) s.w:=fun s=>by rw [HLL.out];exact look_len s.ok.ml H2.out hf
  refine tk0 0 rfl (fun _ _ _ _ h=>h) hHeld fun K hK=>?_;go_simp;refine hK _ ?_;clear hK K
  refine tk0 1 rfl (fun _ _ _ _ h=>h) hHeld fun K hK=>?_;go_simp;refine hK _ ?_;clear hK K
  refine tk0 2 rfl (fun _ _ _ _ h=>h) hHeld fun K hK=>?_;go_simp;refine hK _ ?_;clear hK K
  refine tk0 3 rfl (fun _ _ _ _ h=>h) hHeld fun K hK=>?_;go_simp;refine hK _ ?_;clear hK K
  refine tk0 4 rfl (fun _ _ _ _ h=>h) hHeld fun K hK=>?_;go_simp;refine hK _ ?_;clear hK K
  refine tk0 5 rfl (fun _ _ _ _ h=>h) hHeld fun K hK=>?_;go_simp;refine hK _ ?_;clear hK K
  refine tk0 6 rfl (fun _ _ _ _ h=>h) hHeld fun K hK=>?_;go_simp;refine hK _ ?_;clear hK K
  refine tk0 7 rfl (fun _ _ _ _ h=>h) hHeld fun K hK=>?_;go_simp;refine hK _ ?_;clear hK K
  refine tk0 8 rfl (fun _ _ _ _ h=>h) hHeld fun K hK=>?_;go_simp;refine hK _ ?_;clear hK K
  refine tk0 9 rfl (fun _ _ _ _ h=>h) hHeld fun K hK=>?_;go_simp;refine hK _ ?_;clear hK K
  refine tk0 10 rfl (fun _ _ _ _ h=>h) hHeld fun K hK=>?_;go_simp;refine hK _ ?_;clear hK K
  refine tk0 11 rfl (fun _ _ _ _ h=>h) hHeld fun K hK=>?_;go_simp;refine hK _ ?_;clear hK K
  refine tk0 12 rfl (fun _ _ _ _ h=>h) hHeld fun K hK=>?_;go_simp;refine hK _ ?_;clear hK K
  refine tk0 13 rfl (fun _ _ _ _ h=>h) hHeld fun K hK=>?_;go_simp;refine hK _ ?_;clear hK K
  refine ol 14 rfl fun K hK=>?_
  refine step_mapUpdate rfl (.tmp 36) (.tmp 37) (.tmp 46) 84 179 3 rfl lawF Tryz.underlying84 (plainElem Tryz.prog 3) l ((2*S.writes).toNat+1) Dl (valF (f1,f2,f3)) (.int .i64 (max LL (i+1))) (klF (f1,f2,f3)) (.lit (.int .i64 (max LL (i+1)))) rfl HM4.out.ml (by have:=Hwr.out;unfold maxLen;omega) rfl rfl (keyF (f1,f2,f3) hf) (plainElem_int Tryz.underlying3 (WalkArith.wf_i64 (by have:=HL2.out;have:=HLL.out;omega))) ?_
  intro w4 ho4 hg4
  have HM5:Hid (Made F w w4 g S b l ((2*S.writes).toNat+2) (Db.put (klP (f1,f2,f3) i) (dat bs)) (Dl.put (klF (f1,f2,f3)) (.lit (.int .i64 (max LL (i+1))))) f1 f2 f3):=HM4.out.len ho4 hg4 hlt4 hlw
  clear ho4 hg4
  refine hK.out _ _ (fun h=>absurd rfl h) ?_
  clear hK K
  refine done_L (by kernel_rfl) ?_ _
  clear hHeld hne k0 k1 k2 k3 k4 HM4 hlt4
  have R:Post (.returned (.tuple #[])) w4:=by
   rw [HP.out]
   refine HM5.out.keepSay HM5.out.mb.lt HM5.out.ml.lt ?_ H2.out Him.out.1 Him.out.2 rfl (by rw [HLL.out]) hf HI64.out hi0
   have:=Hwr.out;omega
  clear HP HM5
  go_wp2
  go_end0
  exact R
end Go.Proofs.YtlllmmceoeihkaaGreat
set_option maxRecDepth 20000
namespace Go.Proofs.YtlllmmceoeihkaaGreat
open Go.RowKit Go.Maps
abbrev hd (mb ml:Option Nat) (n l:Int) (o:Bool):Obj:=.cells #[.map mb,.map ml,.int .i64 n,.int .i64 l,.bool o] 86 (0,0)
theorem spend_c (g:Nat) (mb ml:Option Nat) (n l:Int) (o:Bool) (hn:0<=n∧n<1000000) (hl:l<=9223372036854775807) (w:World) (hh:w.heap[g]?=some (hd mb ml n l o)) :
  Calls Tryz.prog 133 #[.pointer (some ⟨g,0,none⟩)] w fun e w'=>e = .returned (.tuple #[])∧Only g w w'∧w'.heap[g]?=some (hd mb ml (n+1) (if 0<l then l-1 else l) (if 0<l then decide (l-1=0) else o)):=by
 have c2:w.cell? ⟨g,2,none⟩=some (.int .i64 n):=by rw [cell_of_row w g 2 _ 86 (0,0) hh];rfl
 have f2:w.frozen? ⟨g,2,none⟩=false:=frozen_of_row w g 2 _ 86 hh
 have h2:=heap_setCell_same w g 2 _ 86 (.int .i64 (n+1)) hh
 have c3:(w.setCell ⟨g,2,none⟩ (.int .i64 (n+1))).cell? ⟨g,3,none⟩=some (.int .i64 l):=by rw [cell_of_row _ g 3 _ 86 (0,0) h2];rfl
 have f3:(w.setCell ⟨g,2,none⟩ (.int .i64 (n+1))).frozen? ⟨g,3,none⟩=false:=frozen_of_row _ g 3 _ 86 h2
 have hw1:IntKind.i64.wrap (n+1)=n+1:=wrapI (by omega)
 obtain ⟨Post,hPost⟩:∃ Post:Ending->World->Prop,Post=fun e w'=>e = .returned (.tuple #[])∧Only g w w'∧w'.heap[g]?=some (hd mb ml (n+1) (if 0<l then l-1 else l) (if 0<l then decide (l-1=0) else o)):=⟨_,rfl⟩
 rw [<- hPost]
 have HP:Hid (∀ w',(Only g w w'∧w'.heap[g]?=some (hd mb ml (n+1) (if 0<l then l-1 else l) (if 0<l then decide (l-1=0) else o)))->Post (.returned (.tuple #[])) w'):=fun w' h=>by rw [hPost];exact ⟨rfl,h⟩
 clear hPost
 by_cases h0:0<l
 ·have hw2:IntKind.i64.wrap (l-1)=l-1:=wrapI (by omega)
  have h3:=heap_setCell_same _ g 3 _ 86 (.int .i64 (l-1)) h2
  have c4:((w.setCell ⟨g,2,none⟩ (.int .i64 (n+1))).setCell ⟨g,3,none⟩ (.int .i64 (l-1))).cell? ⟨g,3,none⟩=some (.int .i64 (l-1)):=by rw [cell_of_row _ g 3 _ 86 (0,0) h3];rfl
  have c5:((w.setCell ⟨g,2,none⟩ (.int .i64 (n+1))).setCell ⟨g,3,none⟩ (.int .i64 (l-1))).cell? ⟨g,4,none⟩=some (.bool o):=by rw [cell_of_row _ g 4 _ 86 (0,0) h3];rfl
  have f4:((w.setCell ⟨g,2,none⟩ (.int .i64 (n+1))).setCell ⟨g,3,none⟩ (.int .i64 (l-1))).frozen? ⟨g,4,none⟩=false:=frozen_of_row _ g 4 _ 86 h3
  have HR:Hid (∀ b:Bool,b=decide (l-1=0)->Only g w (((w.setCell ⟨g,2,none⟩ (.int .i64 (n+1))).setCell ⟨g,3,none⟩ (.int .i64 (l-1))).setCell ⟨g,4,none⟩ (.bool b))∧(((w.setCell ⟨g,2,none⟩ (.int .i64 (n+1))).setCell ⟨g,3,none⟩ (.int .i64 (l-1))).setCell ⟨g,4,none⟩ (.bool b)).heap[g]?=some (hd mb ml (n+1) (if 0<l then l-1 else l) (if 0<l then decide (l-1=0) else o))):=fun b hb=>by
   refine ⟨(((Only.refl g w).set 2 _).set 3 _).set 4 _,?_⟩
   rw [heap_setCell_same _ g 4 _ 86 (.bool b) h3,if_pos h0,if_pos h0,hb]
   rfl
  clear h2 h3 hh
  go_enter Tryz.func133,Tryz.ntmps133
  go_wp2
  all_goals
   go_end0
   exact HP.out _ (HR.out _ rfl)
 ·have HR:Hid (Only g w (w.setCell ⟨g,2,none⟩ (.int .i64 (n+1)))∧(w.setCell ⟨g,2,none⟩ (.int .i64 (n+1))).heap[g]?=some (hd mb ml (n+1) (if 0<l then l-1 else l) (if 0<l then decide (l-1=0) else o))):=by
   refine ⟨(Only.refl g w).set 2 _,?_⟩
   rw [h2,if_neg h0,if_neg h0]
   rfl
  have R:=HP.out _ HR.out
  clear h2 hh HP HR
  go_enter Tryz.func133,Tryz.ntmps133
  go_wp2
  go_end0
  exact R
def PWriteSay (F:Nat->Prop) (g:Nat) (r:Int×St) (w:World) (e:Ending) (w':World):Prop :=
 e = .returned (.int .i64 r.1)∧PDisk (fun k=>F k∨(w.heap.size<=k∧k<w'.heap.size)) w' g r.2∧Chg F w w'
theorem PMaps.wide {F F':Nat->Prop} {w w':World} {g:Nat} {S S':St} {mb ml:Option Nat} (h:PMaps F w g S mb ml) (hl:S.l=S'.l) (hn:S.writes=S'.writes) (hF:∀ k,F k->F' k) (he:∀ k,F k->k≠g->w'.heap[k]?=w.heap[k]?):PMaps F' w' g S' mb ml:=by
 rcases h.keep he with ⟨h1,h2,h3⟩|⟨b,l,Db,Dl,h1,h2,h3,h4,h5,h6,h7,h8⟩
 ·exact Or.inl ⟨h1,h2,hl▸h3⟩
 ·exact Or.inr ⟨b,l,Db,Dl,h1,h2,hn▸h3,hn▸h4,hl▸h5,hF _ h6,hF _ h7,h8⟩
set_option maxHeartbeats 1000000 in
theorem write_c (F:Nat->Prop) (g:Nat) (S:St) (f1 f2 f3 i:Int) (sa:Option Addr) (n sc:Nat) (bs:List Int) (hf:I64F (f1,f2,f3)) (w:World) (hD:PDisk F w g S) (hFl:∀ k,F k->k<w.heap.size) (hX:Bytes w sa n bs) (hw:S.writes<1000000) :
  Calls Tryz.prog 102 #[.pointer (some ⟨g,0,none⟩),.agg #[.int .i64 f1,.int .i64 f2,.int .i64 f3],.int .i64 i,.slice sa n sc] w (PWriteSay F g (S.write (f1,f2,f3) i bs) w):=by
 obtain ⟨mb,ml,hD⟩:=hD
 obtain ⟨Post,hPost⟩:∃ Post,Post=PWriteSay F g (S.write (f1,f2,f3) i bs) w:=⟨_,rfl⟩
 rw [<- hPost]
 have HP:Hid (Post=PWriteSay F g (S.write (f1,f2,f3) i bs) w):=hPost
 clear hPost
 have hbn:=hX.n
 obtain ⟨hb0,x0,x1,x2⟩:=box_new w f1 f2 f3
 have HX0:Hid (Bytes (w.alloc (.cells #[.int .i64 f1,.int .i64 f2,.int .i64 f3] 179)) sa n bs):=hX.later hb0
 have HD0:=hD.inside hb0
 have HB0:Hid (Below w.heap.size w (w.alloc (.cells #[.int .i64 f1,.int .i64 f2,.int .i64 f3] 179))):=hb0
 have HD:Hid (PD F (w.alloc (.cells #[.int .i64 f1,.int .i64 f2,.int .i64 f3] 179)) g S mb ml):=HD0
 have hs0:w.heap.size<(w.alloc (.cells #[.int .i64 f1,.int .i64 f2,.int .i64 f3] 179)).heap.size:=by rw [World.size_alloc];omega
 have HFl:Hid (∀ k,F k->k<w.heap.size):=hFl
 clear hb0 HD0 hD hX hFl
 go_enter Tryz.func102,Tryz.ntmps102
 go_upto_region 1 with fail
 generalize w.alloc (.cells #[.int .i64 f1,.int .i64 f2,.int .i64 f3] 179)=w0 at *
 have HF:Hid (∀ E:Int,(E,S)=S.write (f1,f2,f3) i bs->Post (.returned (.int .i64 E)) w0):=fun E h=>by
  rw [HP.out,<- h]
  exact ⟨rfl,⟨mb,ml,HD.out.more (fun k hk=>Or.inl hk)⟩,Chg.of_below HB0.out⟩
 go_wp2_with fail
 refine (known_c i w0).mono ?_
 rintro e w1 ⟨rfl,rfl⟩
 by_cases hk:0<=i∧i<4096
 ·rw [decide_eq_true hk]
  by_cases h2:n=32
  ·subst h2
   have hok:argOk i bs.length:=⟨hk.1,hk.2,hbn⟩
   go_wp2_with fail
   refine (on_c F g S w1 ⟨mb,ml,HD.out⟩).mono ?_
   rintro e w2 ⟨rfl,rfl⟩
   by_cases ho:S.out=true
   ·have R:=HF.out 8 (by rw [write_down _ _ _ _ hok ho])
    rw [ho]
    clear HP HD HB0 HF HX0
    go_wp2
    exact R
   ·have ho':S.out=false:=by simpa using ho
    rw [ho']
    have HW:Hid (S.write (f1,f2,f3) i bs=(0,S.wrote (f1,f2,f3) i bs)):=write_ok _ _ _ _ hok ho'
    have Hgood:Hid (Good (put S.l (f1,f2,f3) i bs)):=HD.out.ok.put hok
    clear HF
    go_wp2_with fail
    refine (keep_c F g S f1 f2 f3 i sa sc bs hf hk w2 ⟨mb,ml,HD.out⟩ (fun k hk=>by have:=HFl.out k hk;omega) HX0.out hw).mono ?_
    rintro e w3 ⟨rfl,hC3,mb3,ml3,hh3,hM3⟩
    have HC3:Hid (Chg F w2 w3):=hC3
    have HM3:Hid (PMaps (fun k=>F k∨(w2.heap.size<=k∧k<w3.heap.size)) w3 g { S with l:=put S.l (f1,f2,f3) i bs,writes:=S.writes+1 } mb3 ml3):=hM3
    have HH3:Hid (w3.heap[g]?=some (headOf mb3 ml3 S)):=hh3
    clear hC3 hM3 hh3
    go_wp2_with fail
    refine (spend_c g mb3 ml3 S.writes S.lf S.out ⟨HD.out.bds.2.2.1,hw⟩ (by unfold St.lf;have:=HD.out.bds;split <;> omega) w3 HH3.out).mono ?_
    rintro e w4 ⟨rfl,hO4,hh4⟩
    have R:Post (.returned (.int .i64 0)) w4:=by
     rw [HP.out,HW.out]
     have hs3:=HC3.out.size
     refine ⟨rfl,⟨mb3,ml3,?_,?_,Or.inl HD.out.inF,Hgood.out,?_,?_,?_,?_⟩,?_⟩
     ·rw [hh4]
      have harm:=HD.out.arm
      unfold St.wrote St.lf hd
      by_cases ha:S.armed=true
      ·have:=harm ha ho'
       simp only [ha,if_true]
       rw [if_pos (by omega),if_pos (by omega)]
       have e:decide (S.left-1=0)=(true && decide (S.left-1<=0)):=by rw [Bool.true_and];exact decide_eq_decide.2 (by omega)
       rw [e]
      ·have ha':S.armed=false:=by simpa using ha
       simp [ha',ho']
     ·exact HM3.out.wide rfl rfl (fun k hk=>hk.imp id (fun h=>⟨by omega,by rw [hO4.size];exact h.2⟩)) (fun k _ hk=>hO4.block k hk)
     ·intro b hb z hz
      rcases mem_put hb with h1 | rfl
      ·exact HD.out.fit b h1 z hz
      ·exact HX0.out.fit z hz
     ·intro b hb
      rcases mem_put hb with h1 | rfl
      ·exact HD.out.fil b h1
      ·exact hf
     ·intro ha hout
      have ha':S.armed=true:=ha
      have:=HD.out.arm ha' ho'
      have e:(S.armed && decide (S.left-1<=0))=false:=hout
      rw [ha',Bool.true_and] at e
      have:=of_decide_eq_false e
      show 1<=(if S.armed=true then S.left-1 else S.left)
      rw [if_pos ha']
      omega
     ·have hb:=HD.out.bds
      have harm:=HD.out.arm
      show _<=(if S.armed=true then S.left-1 else S.left)∧(if S.armed=true then S.left-1 else S.left)<=_∧0<=S.writes+1∧S.writes+1<=1000000
      by_cases ha:S.armed=true
      ·have:=harm ha ho'
       rw [if_pos ha]
       omega
      ·rw [if_neg ha]
       omega
     ·exact (((Chg.of_below (F:=F) HB0.out).trans HC3.out (fun j hj=>Or.inl hj)).trans (G:=fun k=>k=g) ⟨hO4.os,hO4.tape,hO4.output,Nat.le_of_eq hO4.size.symm,fun k _ hk=>hO4.block k hk⟩ (fun j hj=>Or.inl (hj▸HD.out.inF)))
    clear HP HD HB0 HX0 HW HM3 HC3 HH3 hO4 hh4 Hgood
    go_wp2
    exact R
  ·have R:=HF.out 1 (by rw [write_arg _ _ _ _ (by unfold argOk;omega)])
   clear HP HD HB0 HF HX0
   go_wp2
   exact R
 ·have R:=HF.out 1 (by rw [write_arg _ _ _ _ (by unfold argOk;omega)])
  rw [decide_eq_false hk]
  clear HP HD HB0 HF HX0
  go_wp2
  exact R
end Go.Proofs.YtlllmmceoeihkaaGreat
namespace Go.Proofs.YtlllmmceoeihkaaGreat
open Go.RowKit Go.Maps
structure Kept (B:Nat) (K:Nat->Prop) (w w':World):Prop where
 os:w'.os=w.os
 tape:w'.tape=w.tape
 output:w'.output=w.output
 size:w.heap.size<=w'.heap.size
 block:∀ k,k<w.heap.size->(k<B∨K k)->w'.heap[k]?=w.heap[k]?
def Hold (B:Nat) (K:Nat->Prop) (w:World) (g:Nat) (S:St):Prop:=∃ F,PDisk F w g S∧∀ k,F k->B<=k∧k<w.heap.size∧¬ K k
theorem Hold.glt {B:Nat} {K:Nat->Prop} {w:World} {g:Nat} {S:St} (h:Hold B K w g S):B<=g∧g<w.heap.size∧¬ K g:=by
 obtain ⟨F,⟨mb,ml,hD⟩,hF⟩:=h
 exact hF g hD.inF
theorem kept_only {B g:Nat} {K:Nat->Prop} {w w':World} (h:Only g w w') (hg:B<=g∧¬ K g):Kept B K w w' :=
 ⟨h.os,h.tape,h.output,Nat.le_of_eq h.size.symm,fun k _ hK=>h.block k (fun e=>by
  subst e
  rcases hK with h1 | h1
  ·omega
  ·exact hg.2 h1)⟩
theorem hnew (B:Nat) (K:Nat->Prop) (w:World) (hB:B<=w.heap.size) (hK:∀ k,K k->k<w.heap.size):Calls Tryz.prog 11 #[] w fun e w'=>∃ g,e = .returned (.pointer (some ⟨g,0,none⟩))∧Hold B K w' g St.new∧Below w.heap.size w w' :=
 (new_c w).mono fun e w' ⟨⟨g,F,he,hD,h1,h2⟩,hb⟩=>⟨g,he,⟨F,hD,fun k hk=>⟨Nat.le_trans hB (h1 k hk),h2 k hk,fun hk'=>by have:=hK k hk';have:=h1 k hk;omega⟩⟩,hb⟩
theorem hcut (B:Nat) (K:Nat->Prop) (g:Nat) (S:St) (n:Int) (hn : -9223372036854775808<=n∧n<=9223372036854775807) (w:World) (hD:Hold B K w g S):Calls Tryz.prog 22 #[.pointer (some ⟨g,0,none⟩),.int .i64 n] w fun e w'=>e = .returned (.tuple #[])∧Hold B K w' g (S.cut n)∧Kept B K w w':=by
 have hg:=hD.glt
 obtain ⟨F,hD,hF⟩:=hD
 refine (cut_c F g S n hn w hD).mono ?_
 rintro e w' ⟨rfl,hD',hO⟩
 exact ⟨rfl,⟨F,hD',fun k hk=>⟨(hF k hk).1,by rw [hO.size];exact (hF k hk).2.1,(hF k hk).2.2⟩⟩,kept_only hO ⟨hg.1,hg.2.2⟩⟩
theorem hon (B:Nat) (K:Nat->Prop) (g:Nat) (S:St) (w:World) (hD:Hold B K w g S):Calls Tryz.prog 103 #[.pointer (some ⟨g,0,none⟩)] w fun e w'=>e = .returned (.bool (!S.out))∧w'=w:=by
 obtain ⟨F,hD,hF⟩:=hD
 exact on_c F g S w hD
end Go.Proofs.YtlllmmceoeihkaaGreat
set_option maxRecDepth 20000
namespace Go.Proofs.YtlllmmceoeihkaaGreat
open Go.RowKit
/-! ### memory -/
def spc (x:Sp):List Value:=[.int .i64 (x.1:Int),.int .i64 (x.2:Int)]
def spCells (l:List Sp):List Value:=l.flatMap spc
theorem spCells_len (l:List Sp):(spCells l).length=l.length*2:=by
 induction l with
 | nil=>rfl
 | cons x r ih =>
   show (spc x++spCells r).length=_
   rw [List.length_append,ih,List.length_cons]
   simp only [spc,List.length_cons,List.length_nil]
   omega
theorem spCells_at:∀ (l:List Sp) (k:Nat) (h:k<l.length),(spCells l)[k*2]?=some (.int .i64 (l[k].1:Int))∧(spCells l)[k*2+1]?=some (.int .i64 (l[k].2:Int))
 | [],k,h=>absurd h (Nat.not_lt_zero _)
 | x::r,0,_=>⟨rfl,rfl⟩
 | x::r,k+1,h=>by
   have ih:=spCells_at r k (by simpa using h)
   have e:spCells (x::r)=spc x++spCells r:=rfl
   rw [e,List.getElem?_append_right (by simp [spc];omega),List.getElem?_append_right (by simp [spc];omega),show (k+1)*2-(spc x).length=k*2 by simp [spc];omega,show (k+1)*2+1-(spc x).length=k*2+1 by simp [spc];omega]
   simpa using ih
def SpsAt (w:World) (a:Option Addr) (l:List Sp):Prop:=l=[]∨∃ b off,a=some ⟨b,off,none⟩∧∀ j u,(spCells l)[j]?=some u->w.cell? ⟨b,off+j,none⟩=some u
theorem SpsAt.at {w:World} {a:Option Addr} {l:List Sp} (H:SpsAt w a l) (k:Nat) (h:k<l.length):∃ b off,a=some ⟨b,off,none⟩∧w.cell? ⟨b,off+k*2,none⟩=some (.int .i64 (l[k].1:Int))∧w.cell? ⟨b,off+k*2+1,none⟩=some (.int .i64 (l[k].2:Int)):=by
 rcases H with rfl | ⟨b,off,e,hc⟩
 ·exact absurd h (Nat.not_lt_zero _)
 ·have:=spCells_at l k h
  exact ⟨b,off,e,hc _ _ this.1,by have:=hc _ _ this.2;rwa [<- Nat.add_assoc] at this⟩
structure Cg where
 s:Int
 a:Option Addr
 n:Nat
 c:Nat
 b:List Int
def Cg.cs (c:Cg):Cs:=⟨c.s,c.b⟩
structure CgAt (w:World) (b off k:Nat) (o:Cg):Prop where
 c0:w.cell? ⟨b,off+k*2,none⟩=some (.int .i64 o.s)
 c1:w.cell? ⟨b,off+k*2+1,none⟩=some (.slice o.a o.n o.c)
 by_:Bytes w o.a o.n o.b
 nil:o.a=none->o.c=0
 bd:I64 o.s
 sz:o.n<=140737488351232
def CgsAt (w:World) (a:Option Addr) (l:List Cg):Prop:=∀ k (h:k<l.length),∃ b off,a=some ⟨b,off,none⟩∧CgAt w b off k l[k]
theorem Bytes.on {w w':World} {a:Option Addr} {n:Nat} {xs:List Int} (h:Bytes w a n xs) (hb:Below w.heap.size w w'):Bytes w' a n xs:=h.later hb
theorem cell_below {w w':World} {b j:Nat} {v:Value} (hv:w.cell? ⟨b,j,none⟩=some v) (hb:Below w.heap.size w w'):w'.cell? ⟨b,j,none⟩=some v :=
 (hb.cell (p:=⟨b,j,none⟩) (World.block_lt_of_cell? w _ hv)).trans hv
theorem CgsAt.on {w w':World} {a:Option Addr} {l:List Cg} (H:CgsAt w a l) (hb:Below w.heap.size w w'):CgsAt w' a l:=fun k h=>by
 obtain ⟨b,off,e,h1⟩:=H k h
 exact ⟨b,off,e,cell_below h1.c0 hb,cell_below h1.c1 hb,h1.by_.on hb,h1.nil,h1.bd,h1.sz⟩
structure PbAt (w:World) (b off k:Nat) (f:Fl) (o:Pb):Prop where
 c0:w.cell? ⟨b,off+k*5,none⟩=some (.int .i64 f.1)
 c1:w.cell? ⟨b,off+k*5+1,none⟩=some (.int .i64 f.2.1)
 c2:w.cell? ⟨b,off+k*5+2,none⟩=some (.int .i64 f.2.2)
 c3:w.cell? ⟨b,off+k*5+3,none⟩=some (.int .i64 (o.i:Int))
 c4:w.cell? ⟨b,off+k*5+4,none⟩=some (.slice o.a 32 o.c)
 by_:Bytes w o.a 32 o.b
def PbsAt (w:World) (a:Option Addr) (f:Fl) (l:List Pb):Prop:=∀ k (h:k<l.length),∃ b off,a=some ⟨b,off,none⟩∧PbAt w b off k f l[k]
structure PbsF (F:Nat->Prop) (w:World) (a:Option Addr) (f:Fl) (l:List Pb):Prop where
 at_:∀ w',(∀ k,F k->w'.heap[k]?=w.heap[k]?)->PbsAt w' a f l
 lt:∀ k,F k->k<w.heap.size
structure PsOk (l:List Pb):Prop where
 ok:∀ p∈l,p.i<40∧p.b.length=32∧∀ z∈p.b,0<=z∧z<=255
 once:(l.map (·.i)).Nodup
/-! ### the header -/
def entS (b:List Int):List (Sp×Nat):=(List.range 16).map fun k=>(((b.getD (4*k) 0).toNat,(b.getD (4*k+1) 0).toNat),(b.getD (4*k+2) 0).toNat+256*(b.getD (4*k+3) 0).toNat)
def entOk (h:Sp×Nat):Prop:=h=((0,0),0)∨(1<=h.2∧h.1.2=needS h.2∧2<=h.1.1∧h.1.1+h.1.2<=40)
structure HdOk (hs:List (Sp×Nat)):Prop where
 ok:∀ h∈hs,entOk h
 once:∀ i,cnt (hs.map (·.1)) i<=1
def headS (l:List Bk) (x z:Int):List (Sp×Nat):=entS (blks l (2,x,z) 0 2)
def rhoS (l:List Bk) (x z:Int):Rho:=⟨x,z,(headS l x z).map (·.1),(headS l x z).map fun h=>(blks l (2,x,z) h.1.1 h.1.2).take h.2⟩
def getS (ρ:Rho) (i:Int):List Int:=if 0<=i∧i<16 then ρ.dat.getD i.toNat [] else []
/-! ### what is asked -/
structure RSpec where
 RG:(Nat->Prop)->World->Nat->Rho->Prop
 rg_keep:∀ {F w w' g ρ},RG F w g ρ->(∀ k,F k->w'.heap[k]?=w.heap[k]?)->w.heap.size<=w'.heap.size->RG F w' g ρ
 rg_good:∀ {F w g ρ},RG F w g ρ->GoodR ρ.sp ρ.dat∧I64 ρ.x∧I64 ρ.z
 rg_lt:∀ {F w g ρ},RG F w g ρ->∀ k,F k->k<w.heap.size
 need_:∀ (n:Int) (w:World),I64 n->n<=1099511627776->Calls Tryz.prog 57 #[.int .i64 n] w fun e w'=>e = .returned (.int .i64 (needI n))∧Below w.heap.size w w'
 open_:∀ (Fd:Nat->Prop) (d:Nat) (S:St) (x z:Int) (w:World),I64 x->I64 z->PDisk Fd w d S->(∀ k,Fd k->k<w.heap.size) ->
  Calls Tryz.prog 61 #[.pointer (some ⟨d,0,none⟩),.int .i64 x,.int .i64 z] w fun e w'=>Below w.heap.size w w' ∧
   ((S.out=true∧e = .returned (.tuple #[.pointer none,.int .i64 8]))∨(S.out=false∧¬ HdOk (headS S.l x z)∧e = .returned (.tuple #[.pointer none,.int .i64 4])) ∨
    (S.out=false∧HdOk (headS S.l x z)∧∃ g F,e = .returned (.tuple #[.pointer (some ⟨g,0,none⟩),.int .i64 0])∧RG F w' g (rhoS S.l x z)∧∀ k,F k->w.heap.size<=k))
 get_:∀ (F:Nat->Prop) (g:Nat) (ρ:Rho) (i:Int) (w:World),I64 i->RG F w g ρ ->
  Calls Tryz.prog 36 #[.pointer (some ⟨g,0,none⟩),.int .i64 i] w fun e w'=>Below w.heap.size w w'∧∃ a c,e = .returned (.slice a (getS ρ i).length c)∧Bytes w' a (getS ρ i).length (getS ρ i)
 live_:∀ (F:Nat->Prop) (g:Nat) (ρ:Rho) (w:World),RG F w g ρ ->
  Calls Tryz.prog 40 #[.pointer (some ⟨g,0,none⟩)] w fun e w'=>Below w.heap.size w w'∧∃ a c,e = .returned (.slice a ρ.sp.length c)∧SpsAt w' a ρ.sp∧(a=none->c=0)
 free_:∀ (F:Nat->Prop) (g:Nat) (ρ:Rho) (w:World),RG F w g ρ ->
  Calls Tryz.prog 41 #[.pointer (some ⟨g,0,none⟩)] w fun e w'=>Below w.heap.size w w'∧∃ a c,e = .returned (.slice a (freeR ρ.sp).length c)∧SpsAt w' a (freeR ρ.sp)∧(a=none->c=0)
 plan_:∀ (F:Nat->Prop) (g:Nat) (ρ:Rho) (a:Option Addr) (n c:Nat) (l:List Cg) (w:World),RG F w g ρ->CgsAt w a l->l.length=n->n<=maxLen ->
  Calls Tryz.prog 74 #[.pointer (some ⟨g,0,none⟩),.slice a n c] w fun e w'=>Below w.heap.size w w' ∧
   (((planS ρ.dat (l.map Cg.cs)).1≠0∧∃ pa pc,e = .returned (.tuple #[.slice pa 0 pc,.pointer none,.int .i64 (planS ρ.dat (l.map Cg.cs)).1])) ∨
    ((planS ρ.dat (l.map Cg.cs)).1=0∧∃ pa pc g' F' sp' ps,e = .returned (.tuple #[.slice pa ps.length pc,.pointer (some ⟨g',0,none⟩),.int .i64 0]) ∧
     RG F' w' g' ⟨ρ.x,ρ.z,sp',(planS ρ.dat (l.map Cg.cs)).2⟩∧PbsF F' w' pa ρ.file ps∧(∀ k,F' k->F k∨w.heap.size<=k)∧PsOk ps ∧
     ∀ L,Good L->OnD L ρ->OnD (putAll ρ.file L ps) ⟨ρ.x,ρ.z,sp',(planS ρ.dat (l.map Cg.cs)).2⟩))
end Go.Proofs.YtlllmmceoeihkaaGreat
set_option maxRecDepth 20000
namespace Go.Proofs.YtlllmmceoeihkaaGreat
open Go.RowKit
set_option maxHeartbeats 1000000 in
theorem rneed_c (n:Int) (hn:I64 n) (w:World):Calls Tryz.prog 71 #[.int .i64 n] w fun e w'=>e = .returned (.int .i64 (needI n))∧w'=w:=by
 obtain ⟨h1,h2⟩:=hn
 by_cases h:n<1
 ·have e:needI n=0:=by unfold needI;rw [if_pos h]
  rw [e]
  go_enter Tryz.func71,Tryz.ntmps71
  go_wp2
  go_ret
  exact ⟨rfl,rfl⟩
 ·have e:needI n=(n-1)/32+1:=by unfold needI;rw [if_neg h]
  have et:(n-1).tdiv 32=(n-1)/32:=Int.tdiv_eq_ediv_of_nonneg (by omega)
  rw [e]
  go_enter Tryz.func71,Tryz.ntmps71
  go_wp2
  go_ret
  exact ⟨by first | rfl | (rw [et]),rfl⟩
end Go.Proofs.YtlllmmceoeihkaaGreat
namespace Go.Proofs.YtlllmmceoeihkaaGreat
open Go.RowKit
section
variable {P:Program} {ops:Array Oper} {Q:Exit->Act->World->Prop} {md:Region.Mode} {S:World->Prop} {n:Nat}
theorem wpAnyL_firstN {i:Nat} {oi:Oper} {v:Value} (hi:ops[i]?=some oi) (hsel:∀ (j:Nat) (o:Oper) cs b,ops[j]?=some o->o.op ≠ .select cs b)
  (hQ:∀ c a w,Q (.panic c) (a.put oi.dst v) w->Q (.panic c) a w) (hin:ops[n]?=none) :
  ∀ (fuel:Nat) (listed:Array Bool) (a:Act) (w:World),
    (∀ j oj,ops[j]?=some oj->j≠i->listed.getD j true=false->(∀ e∈oj.after,Region.binds md e=true->e.on≠i)->oi.apart ops oj=true) ->
    i∈Region.ready md ops listed->YieldsIf P ops S oi v a->S w ->
    wpAnyL P md ops Q S n fuel (listed.setIfInBounds i true) (a.put oi.dst v) w->wpAnyL P md ops Q S n (fuel+1) listed a w:=by
 intro fuel
 induction fuel with
 | zero =>
   intro listed a w _ hr hy hS H
   refine ⟨fun h=>(by rw [h] at hr;cases hr),fun j hj=>?_⟩
   by_cases hji:j=i
   ·subst hji;exact hy.wpOp hi hS ⟨fun _=>hS,H⟩
   ·have:=ready_mono hj hji
    rw [H.1] at this
    cases this
 | succ fuel ih =>
   intro listed a w hfree hr hy hS H
   refine ⟨fun h=>(by rw [h] at hr;cases hr),fun j hj=>?_⟩
   have hjn:j≠n:=fun e=>by
    obtain ⟨_,o,ho,_⟩:=mem_ready.1 hj
    rw [e,hin] at ho
    cases ho
   by_cases hji:j=i
   ·subst hji;exact hy.wpOp hi hS ⟨fun _=>hS,H⟩
   ·have h1:=H.2 j (ready_mono hj hji)
    obtain ⟨hjun,oj,hoj,hall⟩:=mem_ready.1 hj
    have hnot:∀ e∈oj.after,Region.binds md e=true->e.on≠i:=fun e he hb heq=>by
     have h1:=hall e he hb
     have h0:=(mem_ready.1 hr).1
     rw [heq] at h1
     rcases Nat.lt_or_ge i listed.size with h' | h'
     ·simp [h'] at h0 h1;rw [h0] at h1;cases h1
     ·simp [Array.getElem?_eq_none h'] at h1
    have h2:=wpOp_putIf hoj (hfree j oj hoj hji hjun hnot) (fun cs b=>hsel i oi cs b hi) (fun cs b=>hsel j oj cs b hoj) hQ hy h1
    have hfree':∀ k ok,ops[k]?=some ok->k≠i->(listed.setIfInBounds j true).getD k true=false ->
      (∀ e∈ok.after,Region.binds md e=true->e.on≠i)->oi.apart ops ok=true:=fun k ok hk hki hun hno=>by
     refine hfree k ok hk hki ?_ hno
     by_cases hjk:j=k
     ·subst hjk;exact hjun
     ·rw [getD_set_ne true hjk] at hun;exact hun
    refine wpOp_mono (fun a' w' h3=>⟨h3.2.1,ih (listed.setIfInBounds j true) a' w' hfree' (ready_mono hr (Ne.symm hji)) h3.1 (h3.2.1 hjn) ?_⟩) h2
    rw [Array.setIfInBounds_comm _ _ hji]
    exact h3.2.2
theorem take_N {i:Nat} {oi:Oper} {fuel:Nat} {listed:Array Bool} {a:Act} {w:World} (hi:ops[i]?=some oi)
  (hs:Region.noSelect ops=true) (hf:Region.free md ops listed i=true) (hr:(Region.ready md ops listed).contains i=true) (hin:ops[n]?=none)
  (hQ:∀ v c a w,Q (.panic c) (a.put oi.dst v) w->Q (.panic c) a w) (hS:S w)
  (h:∀ K:Act->Prop,(∀ a,wpAnyL P md ops Q S n fuel (listed.setIfInBounds i true) a w->K a)->if Region.wanted oi (yielded ops a.tmps)=true then ∃ v,(∀ s:Sub S,(execOp a.eval oi).run P s.w = .ok (.value v) s.w)∧K (a.put oi.dst v) else K (a.put oi.dst undef)) :
  wpAnyL P md ops Q S n (fuel+1) listed a w:=by
 have h':=h _ (fun _ h=>h)
 by_cases hw:Region.wanted oi (yielded ops a.tmps)=true
 ·rw [if_pos hw] at h'
  obtain ⟨v,hv,hk⟩:=h'
  exact wpAnyL_firstN hi (Region.noSelect_spec hs) (hQ v) hin fuel listed a w (Region.free_spec hi hf) (by simpa using hr) (Or.inl ⟨hw,fun w hS=>hv ⟨w,hS⟩⟩) hS hk
 ·rw [if_neg hw] at h'
  exact wpAnyL_firstN hi (Region.noSelect_spec hs) (hQ undef) hin fuel listed a w (Region.free_spec hi hf) (by simpa using hr) (Or.inr ⟨by simpa using hw,rfl⟩) hS h'
theorem tn (i:Nat) {oi:Oper} {fuel:Nat} {listed:Array Bool} {a:Act} {w:World} (hi:ops[i]?=some oi) (hQ:∀ v c a w,Q (.panic c) (a.put oi.dst v) w->Q (.panic c) a w) (hS:S w)
 (h:∀ K:Act->Prop,(∀ a,wpAnyL P md ops Q S n fuel (listed.setIfInBounds i true) a w->K a)->if Region.wanted oi (yielded ops a.tmps)=true then ∃ v,(∀ s:Sub S,(execOp a.eval oi).run P s.w = .ok (.value v) s.w)∧K (a.put oi.dst v) else K (a.put oi.dst undef))
 (hs:Region.noSelect ops=true:=by kernel_rfl) (hf:Region.free md ops listed i=true:=by kernel_rfl) (hr:(Region.ready md ops listed).contains i=true:=by kernel_rfl) (hin:ops[n]?=none:=by rfl) :
 wpAnyL P md ops Q S n (fuel+1) listed a w:=take_N hi hs hf hr hin hQ hS h
end
end Go.Proofs.YtlllmmceoeihkaaGreat
set_option maxRecDepth 20000
namespace Go.Proofs.YtlllmmceoeihkaaGreat
open Go.RowKit
def bvals (T:List Bool):Array Value:=(T.map Value.bool).toArray
theorem row_at {w:World} {tb:Nat} {T:List Bool} (H:w.heap[tb]?=some (.cells (bvals T) 4 (0,0))) {i:Nat} (hi:i<T.length):w.cell? ⟨tb,i,none⟩=some (.bool (T.getD i false)):=by
 rw [cell_of_row w tb i _ 4 (0,0) H,List.getD_eq_getElem?_getD,List.getElem?_eq_getElem hi]
 simp [bvals,hi]
theorem info4:(Tryz.prog.info? 4).map (fun i=>(i.zero,i.size,i.bytes))=some (some (.bool false),1,1):=by kernel_rfl
theorem own_full {w:World} {base g N:Nat} {e:TypeId} {xs:List Value} (h:w.ownsRow base e 1 (.slice (some ⟨g,0,none⟩) N N) N xs):w.heap[g]?=some (.cells xs.toArray e (0,0)):=by
 rcases h.2 with ⟨h',_⟩|⟨g',cap,cur,hv,_,hh,_,_,hs,ht⟩
 ·simp at h'
 ·simp only [Value.slice.injEq,Option.some.injEq,Addr.mk.injEq,and_true,true_and] at hv
  obtain ⟨rfl,rfl⟩:=hv
  rw [hh]
  have e1:cur.toList=xs:=by
   rw [List.take_of_length_le (by simp;omega)] at ht
   exact ht
  rw [<- e1]
end Go.Proofs.YtlllmmceoeihkaaGreat
