/-
  NARROWER THAN 'FOR EVERY INPUT', by the rows' own cells (each row's printed sentence says how): LightFloods: laid · LightRefuses: laid · LightHolds: laid · LightAdds: laid · LightMirrors: laid · LightOpens: laid.
  DERIVED. THE GIVEN ROWS OF THIS SEAT. 6 by the template 'for every input the law returns true; each argument reads behind the call as it read before'; 0 by the template 'total and deterministic' (their statements: YtjeapaojbkicmaaDoorTotals.lean).
  GIVEN WITH THE SEED: the statements are not yours to turn. If you find one false, say at which input.
  Laid BY PROGRAM, IN A SANDBOX (cutbox-rows.mjs): the forced cells as the released guide's own fill.sh prints them over the translation 924c8a67641a655e… (all of the seat's roots in one cut). By AI agents, Wed Nov 11 2026. No macro, syntax, notation, axiom, sorry.
-/
import Derived.Test.YtjeapaojbkicmaaDoorChecked
import GoSem.Claim
import GoSem.ClaimJoined
import GoSem.ClaimMapViews
import Derived.JoinedTies
import Derived.KernelRfl
namespace Go.Proofs.YtjeapaojbkicmaaDoor
/- THE CELL 'sum', in the pinned program and in every row, IS THE sha256 OF THE DUMP (.gsa) THAT YtjeapaojbkicmaaDoorProg.lean LOADS. Nothing in Lean hashes anything: it is a label: what it is worth is what the hold of that sum in a sandbox is worth. -/
noncomputable def Tryd.pinned : Pinned := { name := "ytjeapaojbkicmaadoor", sum := "924c8a67641a655e8010dfa4359530a93590c7d15db096a3d732d071e6bcd61c", checked := Tryd.checked }
namespace Rows
def none {H : Type} : Left H := { results := [], args := [] }

/- WHAT THE LISTED PACKAGE-LEVEL VARIABLES READ AS WHEN THE CALL BEGINS. Each datum BY PROGRAM (the guide's laid-datum.mjs) off the statement by which the dump's own 'gosem.cut.vars' lays the variable. In a bare row this is a premise. The card (YtjeapaojbkicmaaDoorCards.lean) ties it to the program's text. -/
def laid_outcrop_kind_rows {H : Type} : DataW H := .agg [.agg [.lit (.string [97, 105, 114]), .lit (.bool false), .lit (.bool true), .lit (.int .i64 1), .lit (.int .i64 0)], .agg [.lit (.string [115, 116, 111, 110, 101]), .lit (.bool true), .lit (.bool false), .lit (.int .i64 16), .lit (.int .i64 0)], .agg [.lit (.string [100, 105, 114, 116]), .lit (.bool true), .lit (.bool false), .lit (.int .i64 16), .lit (.int .i64 0)], .agg [.lit (.string [103, 114, 97, 115, 115]), .lit (.bool true), .lit (.bool false), .lit (.int .i64 16), .lit (.int .i64 0)], .agg [.lit (.string [115, 97, 110, 100]), .lit (.bool true), .lit (.bool false), .lit (.int .i64 16), .lit (.int .i64 0)], .agg [.lit (.string [119, 97, 116, 101, 114]), .lit (.bool false), .lit (.bool false), .lit (.int .i64 3), .lit (.int .i64 0)], .agg [.lit (.string [103, 114, 97, 118, 101, 108]), .lit (.bool true), .lit (.bool false), .lit (.int .i64 16), .lit (.int .i64 0)], .agg [.lit (.string [99, 111, 97, 108]), .lit (.bool true), .lit (.bool false), .lit (.int .i64 16), .lit (.int .i64 0)], .agg [.lit (.string [105, 114, 111, 110]), .lit (.bool true), .lit (.bool false), .lit (.int .i64 16), .lit (.int .i64 0)], .agg [.lit (.string [103, 111, 108, 100]), .lit (.bool true), .lit (.bool false), .lit (.int .i64 16), .lit (.int .i64 3)], .agg [.lit (.string [108, 111, 103]), .lit (.bool true), .lit (.bool false), .lit (.int .i64 16), .lit (.int .i64 0)], .agg [.lit (.string [108, 101, 97, 118, 101, 115]), .lit (.bool false), .lit (.bool false), .lit (.int .i64 2), .lit (.int .i64 0)], .agg [.lit (.string [98, 114, 105, 99, 107]), .lit (.bool true), .lit (.bool false), .lit (.int .i64 16), .lit (.int .i64 0)], .agg [.lit (.string [108, 97, 109, 112]), .lit (.bool false), .lit (.bool false), .lit (.int .i64 1), .lit (.int .i64 14)], .agg [.lit (.string [103, 108, 97, 115, 115]), .lit (.bool false), .lit (.bool true), .lit (.int .i64 1), .lit (.int .i64 0)], .agg [.lit (.string [98, 101, 100, 114, 111, 99, 107]), .lit (.bool true), .lit (.bool false), .lit (.int .i64 16), .lit (.int .i64 0)]]
def laid_outcrop_light_steps {H : Type} : DataW H := .agg [.lit (.int .i64 (-2500)), .lit (.int .i64 (-50)), .lit (.int .i64 (-1)), .lit (.int .i64 1), .lit (.int .i64 50), .lit (.int .i64 2500)]

/-- 'outcroplaw18.LightFloods': WHATEVER THE INPUT: true; the input reads as it did. -/
def lightFloodsSpec : ChangeSpec := { name := "lightFloods", fn := fun _ => fun
  | [d] => { results := [.lit (.bool true)], args := [d] }
  | _ => none }
def lightFloodsRow : OpenClaim := { program := "ytjeapaojbkicmaadoor", sum := "924c8a67641a655e8010dfa4359530a93590c7d15db096a3d732d071e6bcd61c", func := "outcrop/outcroplaw18.LightFloods", spec := "lightFloods", unfollowed := true, recurses := true, named := ["outcrop/kind.rows", "outcrop/light.steps"], apart := false, laid := [("outcrop/kind.rows", laid_outcrop_kind_rows), ("outcrop/light.steps", laid_outcrop_light_steps)] }
def LightFloodsSaid : Prop := lightFloodsRow.holds Tryd.pinned (OpenSpec.ofChange lightFloodsSpec)

/-- ITS FALSE NEIGHBOUR: 'it returns false'. Refute it at one input. -/
def lightFloodsWrong : ChangeSpec := { name := "lightFloods", fn := fun _ => fun
  | [d] => { results := [.lit (.bool false)], args := [d] }
  | _ => none }
def LightFloodsWrongFalsely : Prop := lightFloodsRow.holds Tryd.pinned (OpenSpec.ofChange lightFloodsWrong)

/-- 'outcroplaw18.LightRefuses': WHATEVER THE INPUT: true; the input reads as it did. -/
def lightRefusesSpec : ChangeSpec := { name := "lightRefuses", fn := fun _ => fun
  | [d1, d2] => { results := [.lit (.bool true)], args := [d1, d2] }
  | _ => none }
def lightRefusesRow : OpenClaim := { program := "ytjeapaojbkicmaadoor", sum := "924c8a67641a655e8010dfa4359530a93590c7d15db096a3d732d071e6bcd61c", func := "outcrop/outcroplaw18.LightRefuses", spec := "lightRefuses", unfollowed := true, recurses := true, named := ["outcrop/kind.rows", "outcrop/light.steps"], apart := false, laid := [("outcrop/kind.rows", laid_outcrop_kind_rows), ("outcrop/light.steps", laid_outcrop_light_steps)] }
def LightRefusesSaid : Prop := lightRefusesRow.holds Tryd.pinned (OpenSpec.ofChange lightRefusesSpec)

/-- ITS FALSE NEIGHBOUR: 'it returns false'. Refute it at one input. -/
def lightRefusesWrong : ChangeSpec := { name := "lightRefuses", fn := fun _ => fun
  | [d1, d2] => { results := [.lit (.bool false)], args := [d1, d2] }
  | _ => none }
def LightRefusesWrongFalsely : Prop := lightRefusesRow.holds Tryd.pinned (OpenSpec.ofChange lightRefusesWrong)

/-- 'outcroplaw18.LightHolds': WHATEVER THE INPUT: true; the input reads as it did. -/
def lightHoldsSpec : ChangeSpec := { name := "lightHolds", fn := fun _ => fun
  | [d] => { results := [.lit (.bool true)], args := [d] }
  | _ => none }
def lightHoldsRow : OpenClaim := { program := "ytjeapaojbkicmaadoor", sum := "924c8a67641a655e8010dfa4359530a93590c7d15db096a3d732d071e6bcd61c", func := "outcrop/outcroplaw18.LightHolds", spec := "lightHolds", unfollowed := true, recurses := true, named := ["outcrop/kind.rows", "outcrop/light.steps"], apart := false, laid := [("outcrop/kind.rows", laid_outcrop_kind_rows), ("outcrop/light.steps", laid_outcrop_light_steps)] }
def LightHoldsSaid : Prop := lightHoldsRow.holds Tryd.pinned (OpenSpec.ofChange lightHoldsSpec)

/-- ITS FALSE NEIGHBOUR: 'it returns false'. Refute it at one input. -/
def lightHoldsWrong : ChangeSpec := { name := "lightHolds", fn := fun _ => fun
  | [d] => { results := [.lit (.bool false)], args := [d] }
  | _ => none }
def LightHoldsWrongFalsely : Prop := lightHoldsRow.holds Tryd.pinned (OpenSpec.ofChange lightHoldsWrong)

/-- 'outcroplaw18.LightAdds': WHATEVER THE INPUT: true; the input reads as it did. -/
def lightAddsSpec : ChangeSpec := { name := "lightAdds", fn := fun _ => fun
  | [d1, d2] => { results := [.lit (.bool true)], args := [d1, d2] }
  | _ => none }
def lightAddsRow : OpenClaim := { program := "ytjeapaojbkicmaadoor", sum := "924c8a67641a655e8010dfa4359530a93590c7d15db096a3d732d071e6bcd61c", func := "outcrop/outcroplaw18.LightAdds", spec := "lightAdds", unfollowed := true, recurses := true, named := ["outcrop/kind.rows", "outcrop/light.steps"], apart := false, laid := [("outcrop/kind.rows", laid_outcrop_kind_rows), ("outcrop/light.steps", laid_outcrop_light_steps)] }
def LightAddsSaid : Prop := lightAddsRow.holds Tryd.pinned (OpenSpec.ofChange lightAddsSpec)

/-- ITS FALSE NEIGHBOUR: 'it returns false'. Refute it at one input. -/
def lightAddsWrong : ChangeSpec := { name := "lightAdds", fn := fun _ => fun
  | [d1, d2] => { results := [.lit (.bool false)], args := [d1, d2] }
  | _ => none }
def LightAddsWrongFalsely : Prop := lightAddsRow.holds Tryd.pinned (OpenSpec.ofChange lightAddsWrong)

/-- 'outcroplaw18.LightMirrors': WHATEVER THE INPUT: true; the input reads as it did. -/
def lightMirrorsSpec : ChangeSpec := { name := "lightMirrors", fn := fun _ => fun
  | [d] => { results := [.lit (.bool true)], args := [d] }
  | _ => none }
def lightMirrorsRow : OpenClaim := { program := "ytjeapaojbkicmaadoor", sum := "924c8a67641a655e8010dfa4359530a93590c7d15db096a3d732d071e6bcd61c", func := "outcrop/outcroplaw18.LightMirrors", spec := "lightMirrors", unfollowed := true, recurses := true, named := ["outcrop/kind.rows", "outcrop/light.steps"], apart := false, laid := [("outcrop/kind.rows", laid_outcrop_kind_rows), ("outcrop/light.steps", laid_outcrop_light_steps)] }
def LightMirrorsSaid : Prop := lightMirrorsRow.holds Tryd.pinned (OpenSpec.ofChange lightMirrorsSpec)

/-- ITS FALSE NEIGHBOUR: 'it returns false'. Refute it at one input. -/
def lightMirrorsWrong : ChangeSpec := { name := "lightMirrors", fn := fun _ => fun
  | [d] => { results := [.lit (.bool false)], args := [d] }
  | _ => none }
def LightMirrorsWrongFalsely : Prop := lightMirrorsRow.holds Tryd.pinned (OpenSpec.ofChange lightMirrorsWrong)

/-- 'outcroplaw18.LightOpens': WHATEVER THE INPUT: true; the input reads as it did. -/
def lightOpensSpec : ChangeSpec := { name := "lightOpens", fn := fun _ => fun
  | [d1, d2] => { results := [.lit (.bool true)], args := [d1, d2] }
  | _ => none }
def lightOpensRow : OpenClaim := { program := "ytjeapaojbkicmaadoor", sum := "924c8a67641a655e8010dfa4359530a93590c7d15db096a3d732d071e6bcd61c", func := "outcrop/outcroplaw18.LightOpens", spec := "lightOpens", unfollowed := true, recurses := true, named := ["outcrop/kind.rows", "outcrop/light.steps"], apart := false, laid := [("outcrop/kind.rows", laid_outcrop_kind_rows), ("outcrop/light.steps", laid_outcrop_light_steps)] }
def LightOpensSaid : Prop := lightOpensRow.holds Tryd.pinned (OpenSpec.ofChange lightOpensSpec)

/-- ITS FALSE NEIGHBOUR: 'it returns false'. Refute it at one input. -/
def lightOpensWrong : ChangeSpec := { name := "lightOpens", fn := fun _ => fun
  | [d1, d2] => { results := [.lit (.bool false)], args := [d1, d2] }
  | _ => none }
def LightOpensWrongFalsely : Prop := lightOpensRow.holds Tryd.pinned (OpenSpec.ofChange lightOpensWrong)

/- THE SECOND FORM. 'bulk': how many values and letters a reading holds, each counted each time it is reached (what is shared counts as often as it is met; a slice's spare places count too). A statement '..UptoSaid' is the law's where the arguments, and the package variables that the reading takes, are together of bulk at most 1048576: NARROWER than '..Said'. Prove '..Said' where nothing that the law and all that it calls make is longer than what came in: it says more and counts as full. Else prove '..UptoSaid'. A law counts once. -/
mutual
def uptoBulk {H : Type} : DataW H → Nat
  | .lit (.string bytes) => bytes.length + 1
  | .lit _ => 1
  | .nil => 1
  | .ptr d => uptoBulk d + 1
  | .slice elems spare => uptoBulkAll elems + uptoBulkAll spare + 1
  | .agg parts => uptoBulkAll parts + 1
  | .iface _ d => uptoBulk d + 1
  | .map entries => uptoBulkEntries entries + 1
  | .held _ => 1
def uptoBulkAll {H : Type} : List (DataW H) → Nat
  | [] => 0
  | d :: r => uptoBulk d + uptoBulkAll r
def uptoBulkEntries {H : Type} : List (Lit × DataW H) → Nat
  | [] => 0
  | x :: r => uptoBulkEntry x + uptoBulkEntries r
def uptoBulkEntry {H : Type} : Lit × DataW H → Nat
  | (.string bytes, d) => bytes.length + uptoBulk d + 1
  | (_, d) => uptoBulk d + 1
 end
def uptoSmall : (H : Type) → List (DataW H) → Bool := fun _ ds => decide (uptoBulkAll ds ≤ 1048576)
def OpenSpec.upto (s : _root_.Go.ChangeSpec) : _root_.Go.OpenSpec := { _root_.Go.OpenSpec.ofChange s with cond := some uptoSmall }

/-- 'outcroplaw18.LightFloods', WHERE WHAT IT READS IS OF BULK AT MOST 1048576: true; the input reads as it did. -/
def lightFloodsUptoRow : OpenClaim := { program := "ytjeapaojbkicmaadoor", sum := "924c8a67641a655e8010dfa4359530a93590c7d15db096a3d732d071e6bcd61c", func := "outcrop/outcroplaw18.LightFloods", spec := "lightFloods", unfollowed := true, recurses := true, named := ["outcrop/kind.rows", "outcrop/light.steps"], apart := false, laid := [("outcrop/kind.rows", laid_outcrop_kind_rows), ("outcrop/light.steps", laid_outcrop_light_steps)], narrowed := true }
def LightFloodsUptoSaid : Prop := lightFloodsUptoRow.holds Tryd.pinned (OpenSpec.upto lightFloodsSpec)

/-- 'outcroplaw18.LightRefuses', WHERE WHAT IT READS IS OF BULK AT MOST 1048576: true; the input reads as it did. -/
def lightRefusesUptoRow : OpenClaim := { program := "ytjeapaojbkicmaadoor", sum := "924c8a67641a655e8010dfa4359530a93590c7d15db096a3d732d071e6bcd61c", func := "outcrop/outcroplaw18.LightRefuses", spec := "lightRefuses", unfollowed := true, recurses := true, named := ["outcrop/kind.rows", "outcrop/light.steps"], apart := false, laid := [("outcrop/kind.rows", laid_outcrop_kind_rows), ("outcrop/light.steps", laid_outcrop_light_steps)], narrowed := true }
def LightRefusesUptoSaid : Prop := lightRefusesUptoRow.holds Tryd.pinned (OpenSpec.upto lightRefusesSpec)

/-- 'outcroplaw18.LightHolds', WHERE WHAT IT READS IS OF BULK AT MOST 1048576: true; the input reads as it did. -/
def lightHoldsUptoRow : OpenClaim := { program := "ytjeapaojbkicmaadoor", sum := "924c8a67641a655e8010dfa4359530a93590c7d15db096a3d732d071e6bcd61c", func := "outcrop/outcroplaw18.LightHolds", spec := "lightHolds", unfollowed := true, recurses := true, named := ["outcrop/kind.rows", "outcrop/light.steps"], apart := false, laid := [("outcrop/kind.rows", laid_outcrop_kind_rows), ("outcrop/light.steps", laid_outcrop_light_steps)], narrowed := true }
def LightHoldsUptoSaid : Prop := lightHoldsUptoRow.holds Tryd.pinned (OpenSpec.upto lightHoldsSpec)

/-- 'outcroplaw18.LightAdds', WHERE WHAT IT READS IS OF BULK AT MOST 1048576: true; the input reads as it did. -/
def lightAddsUptoRow : OpenClaim := { program := "ytjeapaojbkicmaadoor", sum := "924c8a67641a655e8010dfa4359530a93590c7d15db096a3d732d071e6bcd61c", func := "outcrop/outcroplaw18.LightAdds", spec := "lightAdds", unfollowed := true, recurses := true, named := ["outcrop/kind.rows", "outcrop/light.steps"], apart := false, laid := [("outcrop/kind.rows", laid_outcrop_kind_rows), ("outcrop/light.steps", laid_outcrop_light_steps)], narrowed := true }
def LightAddsUptoSaid : Prop := lightAddsUptoRow.holds Tryd.pinned (OpenSpec.upto lightAddsSpec)

/-- 'outcroplaw18.LightMirrors', WHERE WHAT IT READS IS OF BULK AT MOST 1048576: true; the input reads as it did. -/
def lightMirrorsUptoRow : OpenClaim := { program := "ytjeapaojbkicmaadoor", sum := "924c8a67641a655e8010dfa4359530a93590c7d15db096a3d732d071e6bcd61c", func := "outcrop/outcroplaw18.LightMirrors", spec := "lightMirrors", unfollowed := true, recurses := true, named := ["outcrop/kind.rows", "outcrop/light.steps"], apart := false, laid := [("outcrop/kind.rows", laid_outcrop_kind_rows), ("outcrop/light.steps", laid_outcrop_light_steps)], narrowed := true }
def LightMirrorsUptoSaid : Prop := lightMirrorsUptoRow.holds Tryd.pinned (OpenSpec.upto lightMirrorsSpec)

/-- 'outcroplaw18.LightOpens', WHERE WHAT IT READS IS OF BULK AT MOST 1048576: true; the input reads as it did. -/
def lightOpensUptoRow : OpenClaim := { program := "ytjeapaojbkicmaadoor", sum := "924c8a67641a655e8010dfa4359530a93590c7d15db096a3d732d071e6bcd61c", func := "outcrop/outcroplaw18.LightOpens", spec := "lightOpens", unfollowed := true, recurses := true, named := ["outcrop/kind.rows", "outcrop/light.steps"], apart := false, laid := [("outcrop/kind.rows", laid_outcrop_kind_rows), ("outcrop/light.steps", laid_outcrop_light_steps)], narrowed := true }
def LightOpensUptoSaid : Prop := lightOpensUptoRow.holds Tryd.pinned (OpenSpec.upto lightOpensSpec)

end Rows
end Go.Proofs.YtjeapaojbkicmaaDoor
