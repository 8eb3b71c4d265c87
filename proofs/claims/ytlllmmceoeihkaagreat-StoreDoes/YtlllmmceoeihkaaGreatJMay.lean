/-
  Blocks that come in a slice, and slices of such slices: each has a file, a number and bytes; with the sizes of their bytes.
  The document's May: what is wrong with a group?
-/
import Derived.Test.YtlllmmceoeihkaaGreatRows
import Derived.Test.YtlllmmceoeihkaaGreatGmath
import Derived.Test.YtlllmmceoeihkaaGreatJJmath
import Derived.Test.YtlllmmceoeihkaaGreatBase
set_option maxRecDepth 20000
namespace Go.Proofs.YtlllmmceoeihkaaGreat
open Go.ChangeShapes Go.WideShapes Go.ChangeAt Go.RowKit Go.Joins Go.Deep
structure Pt where
 f:Fl
 i:Int
 a:Option Addr
 n:Nat
 c:Nat
 b:List Int
structure PutAt (w:World) (b off k:Nat) (o:Pt):Prop where
 c0:w.cell? ⟨b,off+k*5,none⟩=some (.int .i64 o.f.1)
 c1:w.cell? ⟨b,off+k*5+1,none⟩=some (.int .i64 o.f.2.1)
 c2:w.cell? ⟨b,off+k*5+2,none⟩=some (.int .i64 o.f.2.2)
 c3:w.cell? ⟨b,off+k*5+3,none⟩=some (.int .i64 o.i)
 c4:w.cell? ⟨b,off+k*5+4,none⟩=some (.slice o.a o.n o.c)
 by_:Bytes w o.a o.n o.b
 nil:o.a=none->o.c=0
 cap:o.n<=o.c
 bd:I64 o.i∧I64 o.f.1∧I64 o.f.2.1∧I64 o.f.2.2
 sz:o.n<=reachBytes
def Puts (w:World) (a:Option Addr) (l:List Pt):Prop:=∀ k (h:k<l.length),∃ b off,a=some ⟨b,off,none⟩∧PutAt w b off k l[k]
theorem cell_on {w w':World} {b j:Nat} {v:Value} (hb:Below w.heap.size w w') (hv:w.cell? ⟨b,j,none⟩=some v):w'.cell? ⟨b,j,none⟩=some v:=by
 rw [<- hv]
 exact World.cell?_of_block (a:=⟨b,j,none⟩) (hb.block b (World.block_lt_of_cell? w _ hv))
theorem PutAt.on {w w':World} {b off k:Nat} {o:Pt} (h:PutAt w b off k o) (hb:Below w.heap.size w w'):PutAt w' b off k o :=
 ⟨cell_on hb h.c0,cell_on hb h.c1,cell_on hb h.c2,cell_on hb h.c3,cell_on hb h.c4,h.by_.later hb,h.nil,h.cap,h.bd,h.sz⟩
theorem Puts.on {w w':World} {a:Option Addr} {l:List Pt} (h:Puts w a l) (hb:Below w.heap.size w w'):Puts w' a l:=fun k hk=>by
 obtain ⟨b,off,e,ho⟩:=h k hk
 exact ⟨b,off,e,ho.on hb⟩
end Go.Proofs.YtlllmmceoeihkaaGreat
set_option maxRecDepth 20000
namespace Go.Proofs.YtlllmmceoeihkaaGreat
open Go.RowKit
def Pt.bk (p:Pt):Bk:=⟨p.f,p.i,p.b⟩
theorem any_take_succ {α:Type} (p:α->Bool) (l:List α) (j:Nat) (h:j<l.length):(l.take (j+1)).any p=((l.take j).any p || p l[j]):=by
 rw [List.take_succ_eq_append_getElem h,List.any_append]
 simp
theorem may_bad {l:List Bk} {j:Nat} (h:j<l.length) (hb:badB l[j]=true):may l=1:=by
 unfold may
 rw [if_pos (List.any_eq_true.2 ⟨l[j],List.getElem_mem h,hb⟩)]
end Go.Proofs.YtlllmmceoeihkaaGreat
