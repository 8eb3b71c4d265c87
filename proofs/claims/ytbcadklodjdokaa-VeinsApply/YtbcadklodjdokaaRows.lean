/-
  No cell of these rows narrows 'for every input' (looked for: loops, veiled, ifaces, maps, wideKeys, modest, calm, conditions, laid).
  DERIVED. THE GIVEN ROWS OF THIS SEAT. 4 by the template 'for every input the law returns true; each argument reads behind the call as it read before'; 0 by the template 'total and deterministic' (their statements: YtbcadklodjdokaaTotals.lean).
  GIVEN WITH THE SEED: the statements are not yours to turn. If you find one false, say at which input.
  Laid BY PROGRAM, IN A SANDBOX (cutbox-rows.mjs): the forced cells as the released guide's own fill.sh prints them over the translation b5562217af09f15b… (all of the seat's roots in one cut). By AI agents, Wed Nov 11 2026. No macro, syntax, notation, axiom, sorry.
-/
import Derived.Test.YtbcadklodjdokaaChecked
import GoSem.Claim
import GoSem.ClaimJoined
import GoSem.ClaimMapViews
import Derived.JoinedTies
import Derived.KernelRfl
namespace Go.Proofs.Ytbcadklodjdokaa
/- THE CELL 'sum', in the pinned program and in every row, IS THE sha256 OF THE DUMP (.gsa) THAT YtbcadklodjdokaaProg.lean LOADS. Nothing in Lean hashes anything: it is a label: what it is worth is what the hold of that sum in a sandbox is worth. -/
noncomputable def Try.pinned : Pinned := { name := "ytbcadklodjdokaa", sum := "b5562217af09f15b27de379c5721ee1db08f0f7ac3c18573af4e1a0941bb3d2b", checked := Try.checked }
namespace Rows
def none {H : Type} : Left H := { results := [], args := [] }

/-- 'outcroplaw16.VeinsOf': WHATEVER THE INPUT: true; the input reads as it did. -/
def veinsOfSpec : ChangeSpec := { name := "veinsOf", fn := fun _ => fun
  | [d1, d2] => { results := [.lit (.bool true)], args := [d1, d2] }
  | _ => none }
def veinsOfRow : OpenClaim := { program := "ytbcadklodjdokaa", sum := "b5562217af09f15b27de379c5721ee1db08f0f7ac3c18573af4e1a0941bb3d2b", func := "outcrop/outcroplaw16.VeinsOf", spec := "veinsOf", unfollowed := true, recurses := true, apart := false }
def VeinsOfSaid : Prop := veinsOfRow.holds Try.pinned (OpenSpec.ofChange veinsOfSpec)

/-- ITS FALSE NEIGHBOUR: 'it returns false'. Refute it at one input. -/
def veinsOfWrong : ChangeSpec := { name := "veinsOf", fn := fun _ => fun
  | [d1, d2] => { results := [.lit (.bool false)], args := [d1, d2] }
  | _ => none }
def VeinsOfWrongFalsely : Prop := veinsOfRow.holds Try.pinned (OpenSpec.ofChange veinsOfWrong)

/-- 'outcroplaw16.VeinsApply': WHATEVER THE INPUT: true; the input reads as it did. -/
def veinsApplySpec : ChangeSpec := { name := "veinsApply", fn := fun _ => fun
  | [d1, d2, d3, d4] => { results := [.lit (.bool true)], args := [d1, d2, d3, d4] }
  | _ => none }
def veinsApplyRow : OpenClaim := { program := "ytbcadklodjdokaa", sum := "b5562217af09f15b27de379c5721ee1db08f0f7ac3c18573af4e1a0941bb3d2b", func := "outcrop/outcroplaw16.VeinsApply", spec := "veinsApply", unfollowed := true, recurses := true, apart := false }
def VeinsApplySaid : Prop := veinsApplyRow.holds Try.pinned (OpenSpec.ofChange veinsApplySpec)

/-- ITS FALSE NEIGHBOUR: 'it returns false'. Refute it at one input. -/
def veinsApplyWrong : ChangeSpec := { name := "veinsApply", fn := fun _ => fun
  | [d1, d2, d3, d4] => { results := [.lit (.bool false)], args := [d1, d2, d3, d4] }
  | _ => none }
def VeinsApplyWrongFalsely : Prop := veinsApplyRow.holds Try.pinned (OpenSpec.ofChange veinsApplyWrong)

/-- 'outcroplaw16.VeinsPulls': WHATEVER THE INPUT: true; the input reads as it did. -/
def veinsPullsSpec : ChangeSpec := { name := "veinsPulls", fn := fun _ => fun
  | [d1, d2, d3, d4] => { results := [.lit (.bool true)], args := [d1, d2, d3, d4] }
  | _ => none }
def veinsPullsRow : OpenClaim := { program := "ytbcadklodjdokaa", sum := "b5562217af09f15b27de379c5721ee1db08f0f7ac3c18573af4e1a0941bb3d2b", func := "outcrop/outcroplaw16.VeinsPulls", spec := "veinsPulls", unfollowed := true, recurses := true, apart := false }
def VeinsPullsSaid : Prop := veinsPullsRow.holds Try.pinned (OpenSpec.ofChange veinsPullsSpec)

/-- ITS FALSE NEIGHBOUR: 'it returns false'. Refute it at one input. -/
def veinsPullsWrong : ChangeSpec := { name := "veinsPulls", fn := fun _ => fun
  | [d1, d2, d3, d4] => { results := [.lit (.bool false)], args := [d1, d2, d3, d4] }
  | _ => none }
def VeinsPullsWrongFalsely : Prop := veinsPullsRow.holds Try.pinned (OpenSpec.ofChange veinsPullsWrong)

/-- 'outcroplaw16.VeinsTwice': WHATEVER THE INPUT: true; the input reads as it did. -/
def veinsTwiceSpec : ChangeSpec := { name := "veinsTwice", fn := fun _ => fun
  | [d1, d2, d3] => { results := [.lit (.bool true)], args := [d1, d2, d3] }
  | _ => none }
def veinsTwiceRow : OpenClaim := { program := "ytbcadklodjdokaa", sum := "b5562217af09f15b27de379c5721ee1db08f0f7ac3c18573af4e1a0941bb3d2b", func := "outcrop/outcroplaw16.VeinsTwice", spec := "veinsTwice", unfollowed := true, recurses := true, apart := false }
def VeinsTwiceSaid : Prop := veinsTwiceRow.holds Try.pinned (OpenSpec.ofChange veinsTwiceSpec)

/-- ITS FALSE NEIGHBOUR: 'it returns false'. Refute it at one input. -/
def veinsTwiceWrong : ChangeSpec := { name := "veinsTwice", fn := fun _ => fun
  | [d1, d2, d3] => { results := [.lit (.bool false)], args := [d1, d2, d3] }
  | _ => none }
def VeinsTwiceWrongFalsely : Prop := veinsTwiceRow.holds Try.pinned (OpenSpec.ofChange veinsTwiceWrong)

/- THE SECOND FORM. 'bulk': how many values and letters a reading holds, each counted each time it is reached (what is shared counts as often as it is met; a slice's spare places count too). A statement '..UptoSaid' is the law's where the arguments, and the package variables that the reading takes, are together of bulk at most 1048576: NARROWER than '..Said'. Prove '..Said' where nothing that the law and all that it calls make is longer than what came in: it says more and counts as full. Else prove '..UptoSaid'. A law counts once. -/
mutual
def uptoBulk {H : Type} : DataW H → Nat
  | .lit (.string bytes) => bytes.length + 1
  | .lit _ => 1
  | .nil => 1
  | .ptr d => uptoBulk d + 1
  | .slice elems spare => uptoBulkAll elems + uptoBulkAll spare + 1
  | .agg parts => uptoBulkAll parts + 1
  | .iface _ d => uptoBulk d + 1
  | .map entries => uptoBulkEntries entries + 1
  | .held _ => 1
def uptoBulkAll {H : Type} : List (DataW H) → Nat
  | [] => 0
  | d :: r => uptoBulk d + uptoBulkAll r
def uptoBulkEntries {H : Type} : List (Lit × DataW H) → Nat
  | [] => 0
  | x :: r => uptoBulkEntry x + uptoBulkEntries r
def uptoBulkEntry {H : Type} : Lit × DataW H → Nat
  | (.string bytes, d) => bytes.length + uptoBulk d + 1
  | (_, d) => uptoBulk d + 1
 end
def uptoSmall : (H : Type) → List (DataW H) → Bool := fun _ ds => decide (uptoBulkAll ds ≤ 1048576)
def OpenSpec.upto (s : _root_.Go.ChangeSpec) : _root_.Go.OpenSpec := { _root_.Go.OpenSpec.ofChange s with cond := some uptoSmall }

/-- 'outcroplaw16.VeinsOf', WHERE WHAT IT READS IS OF BULK AT MOST 1048576: true; the input reads as it did. -/
def veinsOfUptoRow : OpenClaim := { program := "ytbcadklodjdokaa", sum := "b5562217af09f15b27de379c5721ee1db08f0f7ac3c18573af4e1a0941bb3d2b", func := "outcrop/outcroplaw16.VeinsOf", spec := "veinsOf", unfollowed := true, recurses := true, apart := false, narrowed := true }
def VeinsOfUptoSaid : Prop := veinsOfUptoRow.holds Try.pinned (OpenSpec.upto veinsOfSpec)

/-- 'outcroplaw16.VeinsApply', WHERE WHAT IT READS IS OF BULK AT MOST 1048576: true; the input reads as it did. -/
def veinsApplyUptoRow : OpenClaim := { program := "ytbcadklodjdokaa", sum := "b5562217af09f15b27de379c5721ee1db08f0f7ac3c18573af4e1a0941bb3d2b", func := "outcrop/outcroplaw16.VeinsApply", spec := "veinsApply", unfollowed := true, recurses := true, apart := false, narrowed := true }
def VeinsApplyUptoSaid : Prop := veinsApplyUptoRow.holds Try.pinned (OpenSpec.upto veinsApplySpec)

/-- 'outcroplaw16.VeinsPulls', WHERE WHAT IT READS IS OF BULK AT MOST 1048576: true; the input reads as it did. -/
def veinsPullsUptoRow : OpenClaim := { program := "ytbcadklodjdokaa", sum := "b5562217af09f15b27de379c5721ee1db08f0f7ac3c18573af4e1a0941bb3d2b", func := "outcrop/outcroplaw16.VeinsPulls", spec := "veinsPulls", unfollowed := true, recurses := true, apart := false, narrowed := true }
def VeinsPullsUptoSaid : Prop := veinsPullsUptoRow.holds Try.pinned (OpenSpec.upto veinsPullsSpec)

/-- 'outcroplaw16.VeinsTwice', WHERE WHAT IT READS IS OF BULK AT MOST 1048576: true; the input reads as it did. -/
def veinsTwiceUptoRow : OpenClaim := { program := "ytbcadklodjdokaa", sum := "b5562217af09f15b27de379c5721ee1db08f0f7ac3c18573af4e1a0941bb3d2b", func := "outcrop/outcroplaw16.VeinsTwice", spec := "veinsTwice", unfollowed := true, recurses := true, apart := false, narrowed := true }
def VeinsTwiceUptoSaid : Prop := veinsTwiceUptoRow.holds Try.pinned (OpenSpec.upto veinsTwiceSpec)

end Rows
end Go.Proofs.Ytbcadklodjdokaa
