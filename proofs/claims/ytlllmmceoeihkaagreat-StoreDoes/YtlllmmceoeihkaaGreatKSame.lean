/-
  Whole chunks held against each other, and Diff of the program.
-/
import Derived.Test.YtlllmmceoeihkaaGreatKFroms
import Derived.Test.YtlllmmceoeihkaaGreatDv
import Derived.Deep.QuietTactic
import Derived.OwnWalk
import Derived.Maps.AppendAt
import Derived.Laws.StructEq
namespace Go.Proofs.YtlllmmceoeihkaaGreat.K
open Go.RowKit
theorem all_range_ints:∀ (xs ys:List Int),xs.length=ys.length->((List.range xs.length).all fun i=>xs.getD i 0 == ys.getD i 0)=(xs == ys)
 | [],[],_=>rfl
 | x::xs,y::ys,h=>by
   have ih:=all_range_ints xs ys (by simpa using h)
   rw [List.length_cons,List.range_succ_eq_map,List.all_cons,List.all_map]
   simp only [List.getD_cons_zero,Function.comp_def,List.getD_cons_succ,ih]
   simp [List.cons_beq_cons]
 | [],_::_,h=>by simp at h
 | _::_,[],h=>by simp at h
theorem under122:Tryz.prog.underlying 122=some (.struct (Tryz.prog.fieldsOf 122)):=by kernel_rfl
theorem exec_load {o:Oper} {ρ:Operand->Value} {ty:TypeId} {x:Operand} {p v:Value} {w:World} (ho:o.op = .load ty x) (hx:ρ x=p) (h:(Instr.loadAt ty p).run Tryz.prog w = .ok v w) :
  (execOp ρ o).run Tryz.prog w = .ok (.value v) w:=by
 unfold execOp
 simp only [ho,hx,Sem.run_bind,h,Result.andThen_ok,Sem.run_pure]
theorem Blk.load {w:World} {g:Nat} {cs:List Int} (h:Blk w g 122 cs) (hl:cs.length=32768):(Instr.loadAt 122 (.pointer (some ⟨g,0,none⟩))).run Tryz.prog w = .ok (.agg (vals cs)) w:=by
 have hr:=h.range
 have hi:(Tryz.prog.info? 122).map (·.size)=some (cs.map (Value.int .u8)).length:=by rw [size122,List.length_map,hl]
 have hv:(cs.map (Value.int .u8)).toArray=vals cs:=rfl
 generalize cs.map (Value.int .u8)=L at *
 rw [<- hv]
 exact run_loadAt_mid w g 0 122 L (.struct (Tryz.prog.fieldsOf 122)) hr under122 (by unfold TypeDesc.isRow;rfl) hi
end Go.Proofs.YtlllmmceoeihkaaGreat.K
