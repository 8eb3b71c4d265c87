/-
  The document's store: what it knows of chunks (plain).
-/
import Derived.Test.YtlllmmceoeihkaaGreatKAll
import Derived.Below
set_option maxRecDepth 20000
namespace Go.Proofs.YtlllmmceoeihkaaGreat.Z
open K
structure Km where
 x:Int
 z:Int
 a:Option Addr
 c:Nat
 b:List Int
 m:Nat
def atK (x z:Int) (k:Km):Bool:=decide (k.x=x∧k.z=z)
def plK (L:List Km) (x z:Int):Int:=match L.findIdx? (atK x z) with
 | none => -1
 | some k=>(k:Int)
def loadK (L:List Km) (x z:Int):List Int:=match L.find? (atK x z) with
 | none=>[]
 | some k=>k.b
def secs (n:Nat):Nat:=(n+31)/32
def noneB (b:List Int):Bool:=b.all fun y=>decide (y=16)
def needK (b:List Int):Nat:=if noneB b then 0 else secs (encL b).length
def inR (x z:Int) (k:Km):Bool:=decide (¬ (k.x=x∧k.z=z)∧k.x/4=x/4∧k.z/4=z/4)
def sumT (x z:Int):List Km->Nat
 | []=>0
 | k::L=>(if inR x z k then k.m else 0)+sumT x z L
def sumK (L:List Km) (x z:Int) (many:Nat):Nat:=2+many+sumT x z L
theorem sumT_append (x z:Int) (L M:List Km):sumT x z (L++M)=sumT x z L+sumT x z M:=by
 induction L with
 | nil=>simp [sumT]
 | cons k L ih=>simp only [List.cons_append,sumT,ih];omega
theorem sumT_take (x z:Int) (L:List Km) {n:Nat} (h:n<L.length):sumT x z (L.take (n+1))=sumT x z (L.take n)+if inR x z L[n] then L[n].m else 0:=by
 rw [List.take_succ_eq_append_getElem h,sumT_append]
 simp [sumT]
theorem sumT_le {x z:Int} {L:List Km} {M:Nat} (h:∀ k∈L,k.m<=M):sumT x z L<=L.length*M:=by
 induction L with
 | nil=>exact Nat.zero_le _
 | cons k L ih =>
   have h1:=ih (fun k hk=>h k (List.mem_cons_of_mem _ hk))
   have h2:=h k List.mem_cons_self
   simp only [sumT,List.length_cons,Nat.succ_mul]
   split <;> omega
theorem noneB_take (b:List Int) {n:Nat}:(∀ j (h:j<b.length),j<n->b[j]=16)->noneB (b.take n)=true:=fun h=>by
 unfold noneB
 rw [List.all_eq_true]
 intro y hy
 obtain ⟨j,hj,rfl⟩:=List.getElem_of_mem hy
 rw [List.length_take] at hj
 rw [List.getElem_take]
 exact decide_eq_true (h j (by omega) (by omega))
end Go.Proofs.YtlllmmceoeihkaaGreat.Z
