/-
  No cell of these rows narrows 'for every input' (looked for: loops, veiled, ifaces, maps, wideKeys, modest, calm, conditions, laid).
  DERIVED. THE GIVEN ROWS OF THIS SEAT. 4 by the template 'for every input the law returns true; each argument reads behind the call as it read before'; 0 by the template 'total and deterministic' (their statements: YtbdjgaagafnfaaaTotals.lean).
  GIVEN WITH THE SEED: the statements are not yours to turn. If you find one false, say at which input.
  Laid BY PROGRAM, IN A SANDBOX (cutbox-rows.mjs): the forced cells as the released guide's own fill.sh prints them over the translation 0bffa8e93a96d023… (all of the seat's roots in one cut). By AI agents, Wed Nov 11 2026. No macro, syntax, notation, axiom, sorry.
-/
import Derived.Test.YtbdjgaagafnfaaaChecked
import GoSem.Claim
import GoSem.ClaimJoined
import GoSem.ClaimMapViews
import Derived.JoinedTies
import Derived.KernelRfl
namespace Go.Proofs.Ytbdjgaagafnfaaa
/- THE CELL 'sum', in the pinned program and in every row, IS THE sha256 OF THE DUMP (.gsa) THAT YtbdjgaagafnfaaaProg.lean LOADS. Nothing in Lean hashes anything: it is a label: what it is worth is what the hold of that sum in a sandbox is worth. -/
noncomputable def Try.pinned : Pinned := { name := "ytbdjgaagafnfaaa", sum := "0bffa8e93a96d023938e2f41d805357862dc499bd49402c4e7fa8ad5fd6e7121", checked := Try.checked }
namespace Rows
def none {H : Type} : Left H := { results := [], args := [] }

/-- 'outcroplaw17.BuildRefuses': WHATEVER THE INPUT: true; the input reads as it did. -/
def buildRefusesSpec : ChangeSpec := { name := "buildRefuses", fn := fun _ => fun
  | [d1, d2, d3, d4, d5] => { results := [.lit (.bool true)], args := [d1, d2, d3, d4, d5] }
  | _ => none }
def buildRefusesRow : OpenClaim := { program := "ytbdjgaagafnfaaa", sum := "0bffa8e93a96d023938e2f41d805357862dc499bd49402c4e7fa8ad5fd6e7121", func := "outcrop/outcroplaw17.BuildRefuses", spec := "buildRefuses", unfollowed := true, recurses := true, apart := false }
def BuildRefusesSaid : Prop := buildRefusesRow.holds Try.pinned (OpenSpec.ofChange buildRefusesSpec)

/-- ITS FALSE NEIGHBOUR: 'it returns false'. Refute it at one input. -/
def buildRefusesWrong : ChangeSpec := { name := "buildRefuses", fn := fun _ => fun
  | [d1, d2, d3, d4, d5] => { results := [.lit (.bool false)], args := [d1, d2, d3, d4, d5] }
  | _ => none }
def BuildRefusesWrongFalsely : Prop := buildRefusesRow.holds Try.pinned (OpenSpec.ofChange buildRefusesWrong)

/-- 'outcroplaw17.BuildNear': WHATEVER THE INPUT: true; the input reads as it did. -/
def buildNearSpec : ChangeSpec := { name := "buildNear", fn := fun _ => fun
  | [d1, d2, d3, d4] => { results := [.lit (.bool true)], args := [d1, d2, d3, d4] }
  | _ => none }
def buildNearRow : OpenClaim := { program := "ytbdjgaagafnfaaa", sum := "0bffa8e93a96d023938e2f41d805357862dc499bd49402c4e7fa8ad5fd6e7121", func := "outcrop/outcroplaw17.BuildNear", spec := "buildNear", unfollowed := true, recurses := true, apart := false }
def BuildNearSaid : Prop := buildNearRow.holds Try.pinned (OpenSpec.ofChange buildNearSpec)

/-- ITS FALSE NEIGHBOUR: 'it returns false'. Refute it at one input. -/
def buildNearWrong : ChangeSpec := { name := "buildNear", fn := fun _ => fun
  | [d1, d2, d3, d4] => { results := [.lit (.bool false)], args := [d1, d2, d3, d4] }
  | _ => none }
def BuildNearWrongFalsely : Prop := buildNearRow.holds Try.pinned (OpenSpec.ofChange buildNearWrong)

/-- 'outcroplaw17.BuildMeets': WHATEVER THE INPUT: true; the input reads as it did. -/
def buildMeetsSpec : ChangeSpec := { name := "buildMeets", fn := fun _ => fun
  | [d1, d2, d3, d4] => { results := [.lit (.bool true)], args := [d1, d2, d3, d4] }
  | _ => none }
def buildMeetsRow : OpenClaim := { program := "ytbdjgaagafnfaaa", sum := "0bffa8e93a96d023938e2f41d805357862dc499bd49402c4e7fa8ad5fd6e7121", func := "outcrop/outcroplaw17.BuildMeets", spec := "buildMeets", unfollowed := true, recurses := true, apart := false }
def BuildMeetsSaid : Prop := buildMeetsRow.holds Try.pinned (OpenSpec.ofChange buildMeetsSpec)

/-- ITS FALSE NEIGHBOUR: 'it returns false'. Refute it at one input. -/
def buildMeetsWrong : ChangeSpec := { name := "buildMeets", fn := fun _ => fun
  | [d1, d2, d3, d4] => { results := [.lit (.bool false)], args := [d1, d2, d3, d4] }
  | _ => none }
def BuildMeetsWrongFalsely : Prop := buildMeetsRow.holds Try.pinned (OpenSpec.ofChange buildMeetsWrong)

/-- 'outcroplaw17.BuildTwice': WHATEVER THE INPUT: true; the input reads as it did. -/
def buildTwiceSpec : ChangeSpec := { name := "buildTwice", fn := fun _ => fun
  | [d1, d2, d3, d4] => { results := [.lit (.bool true)], args := [d1, d2, d3, d4] }
  | _ => none }
def buildTwiceRow : OpenClaim := { program := "ytbdjgaagafnfaaa", sum := "0bffa8e93a96d023938e2f41d805357862dc499bd49402c4e7fa8ad5fd6e7121", func := "outcrop/outcroplaw17.BuildTwice", spec := "buildTwice", unfollowed := true, recurses := true, apart := false }
def BuildTwiceSaid : Prop := buildTwiceRow.holds Try.pinned (OpenSpec.ofChange buildTwiceSpec)

/-- ITS FALSE NEIGHBOUR: 'it returns false'. Refute it at one input. -/
def buildTwiceWrong : ChangeSpec := { name := "buildTwice", fn := fun _ => fun
  | [d1, d2, d3, d4] => { results := [.lit (.bool false)], args := [d1, d2, d3, d4] }
  | _ => none }
def BuildTwiceWrongFalsely : Prop := buildTwiceRow.holds Try.pinned (OpenSpec.ofChange buildTwiceWrong)

/- THE SECOND FORM. 'bulk': how many values and letters a reading holds, each counted each time it is reached (what is shared counts as often as it is met; a slice's spare places count too). A statement '..UptoSaid' is the law's where the arguments, and the package variables that the reading takes, are together of bulk at most 1048576: NARROWER than '..Said'. Prove '..Said' where nothing that the law and all that it calls make is longer than what came in: it says more and counts as full. Else prove '..UptoSaid'. A law counts once. -/
mutual
def uptoBulk {H : Type} : DataW H → Nat
  | .lit (.string bytes) => bytes.length + 1
  | .lit _ => 1
  | .nil => 1
  | .ptr d => uptoBulk d + 1
  | .slice elems spare => uptoBulkAll elems + uptoBulkAll spare + 1
  | .agg parts => uptoBulkAll parts + 1
  | .iface _ d => uptoBulk d + 1
  | .map entries => uptoBulkEntries entries + 1
  | .held _ => 1
def uptoBulkAll {H : Type} : List (DataW H) → Nat
  | [] => 0
  | d :: r => uptoBulk d + uptoBulkAll r
def uptoBulkEntries {H : Type} : List (Lit × DataW H) → Nat
  | [] => 0
  | x :: r => uptoBulkEntry x + uptoBulkEntries r
def uptoBulkEntry {H : Type} : Lit × DataW H → Nat
  | (.string bytes, d) => bytes.length + uptoBulk d + 1
  | (_, d) => uptoBulk d + 1
 end
def uptoSmall : (H : Type) → List (DataW H) → Bool := fun _ ds => decide (uptoBulkAll ds ≤ 1048576)
def OpenSpec.upto (s : _root_.Go.ChangeSpec) : _root_.Go.OpenSpec := { _root_.Go.OpenSpec.ofChange s with cond := some uptoSmall }

/-- 'outcroplaw17.BuildRefuses', WHERE WHAT IT READS IS OF BULK AT MOST 1048576: true; the input reads as it did. -/
def buildRefusesUptoRow : OpenClaim := { program := "ytbdjgaagafnfaaa", sum := "0bffa8e93a96d023938e2f41d805357862dc499bd49402c4e7fa8ad5fd6e7121", func := "outcrop/outcroplaw17.BuildRefuses", spec := "buildRefuses", unfollowed := true, recurses := true, apart := false, narrowed := true }
def BuildRefusesUptoSaid : Prop := buildRefusesUptoRow.holds Try.pinned (OpenSpec.upto buildRefusesSpec)

/-- 'outcroplaw17.BuildNear', WHERE WHAT IT READS IS OF BULK AT MOST 1048576: true; the input reads as it did. -/
def buildNearUptoRow : OpenClaim := { program := "ytbdjgaagafnfaaa", sum := "0bffa8e93a96d023938e2f41d805357862dc499bd49402c4e7fa8ad5fd6e7121", func := "outcrop/outcroplaw17.BuildNear", spec := "buildNear", unfollowed := true, recurses := true, apart := false, narrowed := true }
def BuildNearUptoSaid : Prop := buildNearUptoRow.holds Try.pinned (OpenSpec.upto buildNearSpec)

/-- 'outcroplaw17.BuildMeets', WHERE WHAT IT READS IS OF BULK AT MOST 1048576: true; the input reads as it did. -/
def buildMeetsUptoRow : OpenClaim := { program := "ytbdjgaagafnfaaa", sum := "0bffa8e93a96d023938e2f41d805357862dc499bd49402c4e7fa8ad5fd6e7121", func := "outcrop/outcroplaw17.BuildMeets", spec := "buildMeets", unfollowed := true, recurses := true, apart := false, narrowed := true }
def BuildMeetsUptoSaid : Prop := buildMeetsUptoRow.holds Try.pinned (OpenSpec.upto buildMeetsSpec)

/-- 'outcroplaw17.BuildTwice', WHERE WHAT IT READS IS OF BULK AT MOST 1048576: true; the input reads as it did. -/
def buildTwiceUptoRow : OpenClaim := { program := "ytbdjgaagafnfaaa", sum := "0bffa8e93a96d023938e2f41d805357862dc499bd49402c4e7fa8ad5fd6e7121", func := "outcrop/outcroplaw17.BuildTwice", spec := "buildTwice", unfollowed := true, recurses := true, apart := false, narrowed := true }
def BuildTwiceUptoSaid : Prop := buildTwiceUptoRow.holds Try.pinned (OpenSpec.upto buildTwiceSpec)

end Rows
end Go.Proofs.Ytbdjgaagafnfaaa
