/-
  No cell of these rows narrows 'for every input' (looked for: loops, veiled, ifaces, maps, wideKeys, modest, calm, conditions, laid).
  DERIVED. THE GIVEN ROWS OF THIS SEAT. 6 by the template 'for every input the law returns true; each argument reads behind the call as it read before'; 0 by the template 'total and deterministic' (their statements: YtokjbjfpgjincaaTotals.lean).
  GIVEN WITH THE SEED: the statements are not yours to turn. If you find one false, say at which input.
  Laid BY PROGRAM, IN A SANDBOX (cutbox-rows.mjs): the forced cells as the released guide's own fill.sh prints them over the translation 950481776b40bc50… (all of the seat's roots in one cut). By AI agents, Wed Nov 11 2026. No macro, syntax, notation, axiom, sorry.
-/
import Derived.Test.YtokjbjfpgjincaaChecked
import GoSem.Claim
import GoSem.ClaimJoined
import GoSem.ClaimMapViews
import Derived.JoinedTies
import Derived.KernelRfl
namespace Go.Proofs.Ytokjbjfpgjincaa
/- THE CELL 'sum', in the pinned program and in every row, IS THE sha256 OF THE DUMP (.gsa) THAT YtokjbjfpgjincaaProg.lean LOADS. Nothing in Lean hashes anything: it is a label: what it is worth is what the hold of that sum in a sandbox is worth. -/
noncomputable def Try.pinned : Pinned := { name := "ytokjbjfpgjincaa", sum := "950481776b40bc5078eb233c96f047df0bc1ac5cde102e0b3302362ec8fe1106", checked := Try.checked }
namespace Rows
def none {H : Type} : Left H := { results := [], args := [] }

/-- 'outcroplaw12.LadderMays': WHATEVER THE INPUT: true; the input reads as it did. -/
def ladderMaysSpec : ChangeSpec := { name := "ladderMays", fn := fun _ => fun
  | [d] => { results := [.lit (.bool true)], args := [d] }
  | _ => none }
def ladderMaysRow : OpenClaim := { program := "ytokjbjfpgjincaa", sum := "950481776b40bc5078eb233c96f047df0bc1ac5cde102e0b3302362ec8fe1106", func := "outcrop/outcroplaw12.LadderMays", spec := "ladderMays", apart := false }
def LadderMaysSaid : Prop := ladderMaysRow.holds Try.pinned (OpenSpec.ofChange ladderMaysSpec)

/-- ITS FALSE NEIGHBOUR: 'it returns false'. Refute it at one input. -/
def ladderMaysWrong : ChangeSpec := { name := "ladderMays", fn := fun _ => fun
  | [d] => { results := [.lit (.bool false)], args := [d] }
  | _ => none }
def LadderMaysWrongFalsely : Prop := ladderMaysRow.holds Try.pinned (OpenSpec.ofChange ladderMaysWrong)

/-- 'outcroplaw12.LadderRadii': WHATEVER THE INPUT: true; the input reads as it did. -/
def ladderRadiiSpec : ChangeSpec := { name := "ladderRadii", fn := fun _ => fun
  | [d1, d2] => { results := [.lit (.bool true)], args := [d1, d2] }
  | _ => none }
def ladderRadiiRow : OpenClaim := { program := "ytokjbjfpgjincaa", sum := "950481776b40bc5078eb233c96f047df0bc1ac5cde102e0b3302362ec8fe1106", func := "outcrop/outcroplaw12.LadderRadii", spec := "ladderRadii", apart := false }
def LadderRadiiSaid : Prop := ladderRadiiRow.holds Try.pinned (OpenSpec.ofChange ladderRadiiSpec)

/-- ITS FALSE NEIGHBOUR: 'it returns false'. Refute it at one input. -/
def ladderRadiiWrong : ChangeSpec := { name := "ladderRadii", fn := fun _ => fun
  | [d1, d2] => { results := [.lit (.bool false)], args := [d1, d2] }
  | _ => none }
def LadderRadiiWrongFalsely : Prop := ladderRadiiRow.holds Try.pinned (OpenSpec.ofChange ladderRadiiWrong)

/-- 'outcroplaw12.LadderTasks': WHATEVER THE INPUT: true; the input reads as it did. -/
def ladderTasksSpec : ChangeSpec := { name := "ladderTasks", fn := fun _ => fun
  | [d1, d2, d3] => { results := [.lit (.bool true)], args := [d1, d2, d3] }
  | _ => none }
def ladderTasksRow : OpenClaim := { program := "ytokjbjfpgjincaa", sum := "950481776b40bc5078eb233c96f047df0bc1ac5cde102e0b3302362ec8fe1106", func := "outcrop/outcroplaw12.LadderTasks", spec := "ladderTasks", unfollowed := true, recurses := true, apart := false }
def LadderTasksSaid : Prop := ladderTasksRow.holds Try.pinned (OpenSpec.ofChange ladderTasksSpec)

/-- ITS FALSE NEIGHBOUR: 'it returns false'. Refute it at one input. -/
def ladderTasksWrong : ChangeSpec := { name := "ladderTasks", fn := fun _ => fun
  | [d1, d2, d3] => { results := [.lit (.bool false)], args := [d1, d2, d3] }
  | _ => none }
def LadderTasksWrongFalsely : Prop := ladderTasksRow.holds Try.pinned (OpenSpec.ofChange ladderTasksWrong)

/-- 'outcroplaw12.LadderCloses': WHATEVER THE INPUT: true; the input reads as it did. -/
def ladderClosesSpec : ChangeSpec := { name := "ladderCloses", fn := fun _ => fun
  | [d1, d2, d3] => { results := [.lit (.bool true)], args := [d1, d2, d3] }
  | _ => none }
def ladderClosesRow : OpenClaim := { program := "ytokjbjfpgjincaa", sum := "950481776b40bc5078eb233c96f047df0bc1ac5cde102e0b3302362ec8fe1106", func := "outcrop/outcroplaw12.LadderCloses", spec := "ladderCloses", unfollowed := true, recurses := true, apart := false }
def LadderClosesSaid : Prop := ladderClosesRow.holds Try.pinned (OpenSpec.ofChange ladderClosesSpec)

/-- ITS FALSE NEIGHBOUR: 'it returns false'. Refute it at one input. -/
def ladderClosesWrong : ChangeSpec := { name := "ladderCloses", fn := fun _ => fun
  | [d1, d2, d3] => { results := [.lit (.bool false)], args := [d1, d2, d3] }
  | _ => none }
def LadderClosesWrongFalsely : Prop := ladderClosesRow.holds Try.pinned (OpenSpec.ofChange ladderClosesWrong)

/-- 'outcroplaw12.LadderWorld': WHATEVER THE INPUT: true; the input reads as it did. -/
def ladderWorldSpec : ChangeSpec := { name := "ladderWorld", fn := fun _ => fun
  | [d] => { results := [.lit (.bool true)], args := [d] }
  | _ => none }
def ladderWorldRow : OpenClaim := { program := "ytokjbjfpgjincaa", sum := "950481776b40bc5078eb233c96f047df0bc1ac5cde102e0b3302362ec8fe1106", func := "outcrop/outcroplaw12.LadderWorld", spec := "ladderWorld", unfollowed := true, recurses := true, apart := false }
def LadderWorldSaid : Prop := ladderWorldRow.holds Try.pinned (OpenSpec.ofChange ladderWorldSpec)

/-- ITS FALSE NEIGHBOUR: 'it returns false'. Refute it at one input. -/
def ladderWorldWrong : ChangeSpec := { name := "ladderWorld", fn := fun _ => fun
  | [d] => { results := [.lit (.bool false)], args := [d] }
  | _ => none }
def LadderWorldWrongFalsely : Prop := ladderWorldRow.holds Try.pinned (OpenSpec.ofChange ladderWorldWrong)

/-- 'outcroplaw12.LadderStays': WHATEVER THE INPUT: true; the input reads as it did. -/
def ladderStaysSpec : ChangeSpec := { name := "ladderStays", fn := fun _ => fun
  | [d1, d2, d3] => { results := [.lit (.bool true)], args := [d1, d2, d3] }
  | _ => none }
def ladderStaysRow : OpenClaim := { program := "ytokjbjfpgjincaa", sum := "950481776b40bc5078eb233c96f047df0bc1ac5cde102e0b3302362ec8fe1106", func := "outcrop/outcroplaw12.LadderStays", spec := "ladderStays", apart := false }
def LadderStaysSaid : Prop := ladderStaysRow.holds Try.pinned (OpenSpec.ofChange ladderStaysSpec)

/-- ITS FALSE NEIGHBOUR: 'it returns false'. Refute it at one input. -/
def ladderStaysWrong : ChangeSpec := { name := "ladderStays", fn := fun _ => fun
  | [d1, d2, d3] => { results := [.lit (.bool false)], args := [d1, d2, d3] }
  | _ => none }
def LadderStaysWrongFalsely : Prop := ladderStaysRow.holds Try.pinned (OpenSpec.ofChange ladderStaysWrong)

/- THE SECOND FORM. 'bulk': how many values and letters a reading holds, each counted each time it is reached (what is shared counts as often as it is met; a slice's spare places count too). A statement '..UptoSaid' is the law's where the arguments, and the package variables that the reading takes, are together of bulk at most 1048576: NARROWER than '..Said'. Prove '..Said' where nothing that the law and all that it calls make is longer than what came in: it says more and counts as full. Else prove '..UptoSaid'. A law counts once. -/
mutual
def uptoBulk {H : Type} : DataW H → Nat
  | .lit (.string bytes) => bytes.length + 1
  | .lit _ => 1
  | .nil => 1
  | .ptr d => uptoBulk d + 1
  | .slice elems spare => uptoBulkAll elems + uptoBulkAll spare + 1
  | .agg parts => uptoBulkAll parts + 1
  | .iface _ d => uptoBulk d + 1
  | .map entries => uptoBulkEntries entries + 1
  | .held _ => 1
def uptoBulkAll {H : Type} : List (DataW H) → Nat
  | [] => 0
  | d :: r => uptoBulk d + uptoBulkAll r
def uptoBulkEntries {H : Type} : List (Lit × DataW H) → Nat
  | [] => 0
  | x :: r => uptoBulkEntry x + uptoBulkEntries r
def uptoBulkEntry {H : Type} : Lit × DataW H → Nat
  | (.string bytes, d) => bytes.length + uptoBulk d + 1
  | (_, d) => uptoBulk d + 1
 end
def uptoSmall : (H : Type) → List (DataW H) → Bool := fun _ ds => decide (uptoBulkAll ds ≤ 1048576)
def OpenSpec.upto (s : _root_.Go.ChangeSpec) : _root_.Go.OpenSpec := { _root_.Go.OpenSpec.ofChange s with cond := some uptoSmall }

/-- 'outcroplaw12.LadderMays', WHERE WHAT IT READS IS OF BULK AT MOST 1048576: true; the input reads as it did. -/
def ladderMaysUptoRow : OpenClaim := { program := "ytokjbjfpgjincaa", sum := "950481776b40bc5078eb233c96f047df0bc1ac5cde102e0b3302362ec8fe1106", func := "outcrop/outcroplaw12.LadderMays", spec := "ladderMays", apart := false, narrowed := true }
def LadderMaysUptoSaid : Prop := ladderMaysUptoRow.holds Try.pinned (OpenSpec.upto ladderMaysSpec)

/-- 'outcroplaw12.LadderRadii', WHERE WHAT IT READS IS OF BULK AT MOST 1048576: true; the input reads as it did. -/
def ladderRadiiUptoRow : OpenClaim := { program := "ytokjbjfpgjincaa", sum := "950481776b40bc5078eb233c96f047df0bc1ac5cde102e0b3302362ec8fe1106", func := "outcrop/outcroplaw12.LadderRadii", spec := "ladderRadii", apart := false, narrowed := true }
def LadderRadiiUptoSaid : Prop := ladderRadiiUptoRow.holds Try.pinned (OpenSpec.upto ladderRadiiSpec)

/-- 'outcroplaw12.LadderTasks', WHERE WHAT IT READS IS OF BULK AT MOST 1048576: true; the input reads as it did. -/
def ladderTasksUptoRow : OpenClaim := { program := "ytokjbjfpgjincaa", sum := "950481776b40bc5078eb233c96f047df0bc1ac5cde102e0b3302362ec8fe1106", func := "outcrop/outcroplaw12.LadderTasks", spec := "ladderTasks", unfollowed := true, recurses := true, apart := false, narrowed := true }
def LadderTasksUptoSaid : Prop := ladderTasksUptoRow.holds Try.pinned (OpenSpec.upto ladderTasksSpec)

/-- 'outcroplaw12.LadderCloses', WHERE WHAT IT READS IS OF BULK AT MOST 1048576: true; the input reads as it did. -/
def ladderClosesUptoRow : OpenClaim := { program := "ytokjbjfpgjincaa", sum := "950481776b40bc5078eb233c96f047df0bc1ac5cde102e0b3302362ec8fe1106", func := "outcrop/outcroplaw12.LadderCloses", spec := "ladderCloses", unfollowed := true, recurses := true, apart := false, narrowed := true }
def LadderClosesUptoSaid : Prop := ladderClosesUptoRow.holds Try.pinned (OpenSpec.upto ladderClosesSpec)

/-- 'outcroplaw12.LadderWorld', WHERE WHAT IT READS IS OF BULK AT MOST 1048576: true; the input reads as it did. -/
def ladderWorldUptoRow : OpenClaim := { program := "ytokjbjfpgjincaa", sum := "950481776b40bc5078eb233c96f047df0bc1ac5cde102e0b3302362ec8fe1106", func := "outcrop/outcroplaw12.LadderWorld", spec := "ladderWorld", unfollowed := true, recurses := true, apart := false, narrowed := true }
def LadderWorldUptoSaid : Prop := ladderWorldUptoRow.holds Try.pinned (OpenSpec.upto ladderWorldSpec)

/-- 'outcroplaw12.LadderStays', WHERE WHAT IT READS IS OF BULK AT MOST 1048576: true; the input reads as it did. -/
def ladderStaysUptoRow : OpenClaim := { program := "ytokjbjfpgjincaa", sum := "950481776b40bc5078eb233c96f047df0bc1ac5cde102e0b3302362ec8fe1106", func := "outcrop/outcroplaw12.LadderStays", spec := "ladderStays", apart := false, narrowed := true }
def LadderStaysUptoSaid : Prop := ladderStaysUptoRow.holds Try.pinned (OpenSpec.upto ladderStaysSpec)

end Rows
end Go.Proofs.Ytokjbjfpgjincaa
