/-
  NARROWER THAN 'FOR EVERY INPUT', by the rows' own cells (each row's printed sentence says how): LightShuts: laid.
  DERIVED. THE GIVEN ROWS OF THIS SEAT. 1 by the template 'for every input the law returns true; each argument reads behind the call as it read before'; 0 by the template 'total and deterministic' (their statements: YtjeapaojbkicmabDoorTotals.lean).
  GIVEN WITH THE SEED: the statements are not yours to turn. If you find one false, say at which input.
  Laid BY PROGRAM, IN A SANDBOX (cutbox-rows.mjs): the forced cells as the released guide's own fill.sh prints them over the translation 054eb2f7141c72d3… (all of the seat's roots in one cut). By AI agents, Wed Nov 11 2026. No macro, syntax, notation, axiom, sorry.
-/
import Derived.Test.YtjeapaojbkicmabDoorChecked
import GoSem.Claim
import GoSem.ClaimJoined
import GoSem.ClaimMapViews
import Derived.JoinedTies
import Derived.KernelRfl
namespace Go.Proofs.YtjeapaojbkicmabDoor
/- THE CELL 'sum', in the pinned program and in every row, IS THE sha256 OF THE DUMP (.gsa) THAT YtjeapaojbkicmabDoorProg.lean LOADS. Nothing in Lean hashes anything: it is a label: what it is worth is what the hold of that sum in a sandbox is worth. -/
noncomputable def Tryd.pinned : Pinned := { name := "ytjeapaojbkicmabdoor", sum := "054eb2f7141c72d364a2c42355c08ca01f3b763bec9228011148414dc138993b", checked := Tryd.checked }
namespace Rows
def none {H : Type} : Left H := { results := [], args := [] }

/- WHAT THE LISTED PACKAGE-LEVEL VARIABLES READ AS WHEN THE CALL BEGINS. Each datum BY PROGRAM (the guide's laid-datum.mjs) off the statement by which the dump's own 'gosem.cut.vars' lays the variable. In a bare row this is a premise. The card (YtjeapaojbkicmabDoorCards.lean) ties it to the program's text. -/
def laid_outcrop_kind_rows {H : Type} : DataW H := .agg [.agg [.lit (.string [97, 105, 114]), .lit (.bool false), .lit (.bool true), .lit (.int .i64 1), .lit (.int .i64 0)], .agg [.lit (.string [115, 116, 111, 110, 101]), .lit (.bool true), .lit (.bool false), .lit (.int .i64 16), .lit (.int .i64 0)], .agg [.lit (.string [100, 105, 114, 116]), .lit (.bool true), .lit (.bool false), .lit (.int .i64 16), .lit (.int .i64 0)], .agg [.lit (.string [103, 114, 97, 115, 115]), .lit (.bool true), .lit (.bool false), .lit (.int .i64 16), .lit (.int .i64 0)], .agg [.lit (.string [115, 97, 110, 100]), .lit (.bool true), .lit (.bool false), .lit (.int .i64 16), .lit (.int .i64 0)], .agg [.lit (.string [119, 97, 116, 101, 114]), .lit (.bool false), .lit (.bool false), .lit (.int .i64 3), .lit (.int .i64 0)], .agg [.lit (.string [103, 114, 97, 118, 101, 108]), .lit (.bool true), .lit (.bool false), .lit (.int .i64 16), .lit (.int .i64 0)], .agg [.lit (.string [99, 111, 97, 108]), .lit (.bool true), .lit (.bool false), .lit (.int .i64 16), .lit (.int .i64 0)], .agg [.lit (.string [105, 114, 111, 110]), .lit (.bool true), .lit (.bool false), .lit (.int .i64 16), .lit (.int .i64 0)], .agg [.lit (.string [103, 111, 108, 100]), .lit (.bool true), .lit (.bool false), .lit (.int .i64 16), .lit (.int .i64 3)], .agg [.lit (.string [108, 111, 103]), .lit (.bool true), .lit (.bool false), .lit (.int .i64 16), .lit (.int .i64 0)], .agg [.lit (.string [108, 101, 97, 118, 101, 115]), .lit (.bool false), .lit (.bool false), .lit (.int .i64 2), .lit (.int .i64 0)], .agg [.lit (.string [98, 114, 105, 99, 107]), .lit (.bool true), .lit (.bool false), .lit (.int .i64 16), .lit (.int .i64 0)], .agg [.lit (.string [108, 97, 109, 112]), .lit (.bool false), .lit (.bool false), .lit (.int .i64 1), .lit (.int .i64 14)], .agg [.lit (.string [103, 108, 97, 115, 115]), .lit (.bool false), .lit (.bool true), .lit (.int .i64 1), .lit (.int .i64 0)], .agg [.lit (.string [98, 101, 100, 114, 111, 99, 107]), .lit (.bool true), .lit (.bool false), .lit (.int .i64 16), .lit (.int .i64 0)]]
def laid_outcrop_light_steps {H : Type} : DataW H := .agg [.lit (.int .i64 (-2500)), .lit (.int .i64 (-50)), .lit (.int .i64 (-1)), .lit (.int .i64 1), .lit (.int .i64 50), .lit (.int .i64 2500)]

/-- 'outcroplaw18.LightShuts': WHATEVER THE INPUT: true; the input reads as it did. -/
def lightShutsSpec : ChangeSpec := { name := "lightShuts", fn := fun _ => fun
  | [d] => { results := [.lit (.bool true)], args := [d] }
  | _ => none }
def lightShutsRow : OpenClaim := { program := "ytjeapaojbkicmabdoor", sum := "054eb2f7141c72d364a2c42355c08ca01f3b763bec9228011148414dc138993b", func := "outcrop/outcroplaw18.LightShuts", spec := "lightShuts", unfollowed := true, recurses := true, named := ["outcrop/kind.rows", "outcrop/light.steps"], apart := false, laid := [("outcrop/kind.rows", laid_outcrop_kind_rows), ("outcrop/light.steps", laid_outcrop_light_steps)] }
def LightShutsSaid : Prop := lightShutsRow.holds Tryd.pinned (OpenSpec.ofChange lightShutsSpec)

/-- ITS FALSE NEIGHBOUR: 'it returns false'. Refute it at one input. -/
def lightShutsWrong : ChangeSpec := { name := "lightShuts", fn := fun _ => fun
  | [d] => { results := [.lit (.bool false)], args := [d] }
  | _ => none }
def LightShutsWrongFalsely : Prop := lightShutsRow.holds Tryd.pinned (OpenSpec.ofChange lightShutsWrong)

/- THE SECOND FORM. 'bulk': how many values and letters a reading holds, each counted each time it is reached (what is shared counts as often as it is met; a slice's spare places count too). A statement '..UptoSaid' is the law's where the arguments, and the package variables that the reading takes, are together of bulk at most 1048576: NARROWER than '..Said'. Prove '..Said' where nothing that the law and all that it calls make is longer than what came in: it says more and counts as full. Else prove '..UptoSaid'. A law counts once. -/
mutual
def uptoBulk {H : Type} : DataW H → Nat
  | .lit (.string bytes) => bytes.length + 1
  | .lit _ => 1
  | .nil => 1
  | .ptr d => uptoBulk d + 1
  | .slice elems spare => uptoBulkAll elems + uptoBulkAll spare + 1
  | .agg parts => uptoBulkAll parts + 1
  | .iface _ d => uptoBulk d + 1
  | .map entries => uptoBulkEntries entries + 1
  | .held _ => 1
def uptoBulkAll {H : Type} : List (DataW H) → Nat
  | [] => 0
  | d :: r => uptoBulk d + uptoBulkAll r
def uptoBulkEntries {H : Type} : List (Lit × DataW H) → Nat
  | [] => 0
  | x :: r => uptoBulkEntry x + uptoBulkEntries r
def uptoBulkEntry {H : Type} : Lit × DataW H → Nat
  | (.string bytes, d) => bytes.length + uptoBulk d + 1
  | (_, d) => uptoBulk d + 1
 end
def uptoSmall : (H : Type) → List (DataW H) → Bool := fun _ ds => decide (uptoBulkAll ds ≤ 1048576)
def OpenSpec.upto (s : _root_.Go.ChangeSpec) : _root_.Go.OpenSpec := { _root_.Go.OpenSpec.ofChange s with cond := some uptoSmall }

/-- 'outcroplaw18.LightShuts', WHERE WHAT IT READS IS OF BULK AT MOST 1048576: true; the input reads as it did. -/
def lightShutsUptoRow : OpenClaim := { program := "ytjeapaojbkicmabdoor", sum := "054eb2f7141c72d364a2c42355c08ca01f3b763bec9228011148414dc138993b", func := "outcrop/outcroplaw18.LightShuts", spec := "lightShuts", unfollowed := true, recurses := true, named := ["outcrop/kind.rows", "outcrop/light.steps"], apart := false, laid := [("outcrop/kind.rows", laid_outcrop_kind_rows), ("outcrop/light.steps", laid_outcrop_light_steps)], narrowed := true }
def LightShutsUptoSaid : Prop := lightShutsUptoRow.holds Tryd.pinned (OpenSpec.upto lightShutsSpec)

end Rows
end Go.Proofs.YtjeapaojbkicmabDoor
