/-
  Of this program: what the proofs share.
-/
import Derived.Test.YtlllmmceoeihkaaGreatProg
import Derived.ProofKit
import Derived.OpenShut
import Derived.ChangeOld
import Derived.Lib.SmallJoins
import Derived.Deep.Slices
import Derived.Deep.Strs
namespace Go.Proofs.YtlllmmceoeihkaaGreat
open Go.ChangeShapes Go.WideShapes Go.ChangeAt Go.RowKit Go.Joins Go.Deep
theorem own:ownKnob Tryz.prog.godebug=none:=by kernel_rfl
theorem laidOut:laidOutB Tryz.prog=true:=by kernel_rfl
theorem bd64 {x:Int} (h:(Lit.int .i64 x).wf=true) : -9223372036854775808<=x∧x<=9223372036854775807:=by
 simp [Lit.wf,IntKind.min,IntKind.max,IntKind.bits,IntKind.signed] at h
 omega
def I64 (x:Int):Prop := -9223372036854775808<=x∧x<=9223372036854775807
theorem cells179:Tryz.prog.cellsOf 179=3:=by kernel_rfl
theorem cells3:Tryz.prog.cellsOf 3=1:=by kernel_rfl
end Go.Proofs.YtlllmmceoeihkaaGreat
