/-
  No cell of these rows narrows 'for every input' (looked for: loops, veiled, ifaces, maps, wideKeys, modest, calm, conditions, laid).
  DERIVED. THE GIVEN ROWS OF THIS SEAT. 4 by the template 'for every input the law returns true; each argument reads behind the call as it read before'; 0 by the template 'total and deterministic' (their statements: YthanmgejgmhccaaTotals.lean).
  GIVEN WITH THE SEED: the statements are not yours to turn. If you find one false, say at which input.
  Laid BY PROGRAM, IN A SANDBOX (cutbox-rows.mjs): the forced cells as the released guide's own fill.sh prints them over the translation f3c23773d4205113… (all of the seat's roots in one cut). By AI agents, Wed Nov 11 2026. No macro, syntax, notation, axiom, sorry.
-/
import Derived.Test.YthanmgejgmhccaaChecked
import GoSem.Claim
import GoSem.ClaimJoined
import GoSem.ClaimMapViews
import Derived.JoinedTies
import Derived.KernelRfl
namespace Go.Proofs.Ythanmgejgmhccaa
/- THE CELL 'sum', in the pinned program and in every row, IS THE sha256 OF THE DUMP (.gsa) THAT YthanmgejgmhccaaProg.lean LOADS. Nothing in Lean hashes anything: it is a label: what it is worth is what the hold of that sum in a sandbox is worth. -/
noncomputable def Try.pinned : Pinned := { name := "ythanmgejgmhccaa", sum := "f3c23773d42051131f31ccaaa3cd873cca58524806175f8e0bfe7c6cb4dc92da", checked := Try.checked }
namespace Rows
def none {H : Type} : Left H := { results := [], args := [] }

/-- 'outcroplaw20.OverlayDoes': WHATEVER THE INPUT: true; the input reads as it did. -/
def overlayDoesSpec : ChangeSpec := { name := "overlayDoes", fn := fun _ => fun
  | [d1, d2, d3, d4, d5] => { results := [.lit (.bool true)], args := [d1, d2, d3, d4, d5] }
  | _ => none }
def overlayDoesRow : OpenClaim := { program := "ythanmgejgmhccaa", sum := "f3c23773d42051131f31ccaaa3cd873cca58524806175f8e0bfe7c6cb4dc92da", func := "outcrop/outcroplaw20.OverlayDoes", spec := "overlayDoes", unfollowed := true, recurses := true, apart := false }
def OverlayDoesSaid : Prop := overlayDoesRow.holds Try.pinned (OpenSpec.ofChange overlayDoesSpec)

/-- ITS FALSE NEIGHBOUR: 'it returns false'. Refute it at one input. -/
def overlayDoesWrong : ChangeSpec := { name := "overlayDoes", fn := fun _ => fun
  | [d1, d2, d3, d4, d5] => { results := [.lit (.bool false)], args := [d1, d2, d3, d4, d5] }
  | _ => none }
def OverlayDoesWrongFalsely : Prop := overlayDoesRow.holds Try.pinned (OpenSpec.ofChange overlayDoesWrong)

/-- 'outcroplaw20.OverlayBack': WHATEVER THE INPUT: true; the input reads as it did. -/
def overlayBackSpec : ChangeSpec := { name := "overlayBack", fn := fun _ => fun
  | [d1, d2] => { results := [.lit (.bool true)], args := [d1, d2] }
  | _ => none }
def overlayBackRow : OpenClaim := { program := "ythanmgejgmhccaa", sum := "f3c23773d42051131f31ccaaa3cd873cca58524806175f8e0bfe7c6cb4dc92da", func := "outcrop/outcroplaw20.OverlayBack", spec := "overlayBack", unfollowed := true, recurses := true, apart := false }
def OverlayBackSaid : Prop := overlayBackRow.holds Try.pinned (OpenSpec.ofChange overlayBackSpec)

/-- ITS FALSE NEIGHBOUR: 'it returns false'. Refute it at one input. -/
def overlayBackWrong : ChangeSpec := { name := "overlayBack", fn := fun _ => fun
  | [d1, d2] => { results := [.lit (.bool false)], args := [d1, d2] }
  | _ => none }
def OverlayBackWrongFalsely : Prop := overlayBackRow.holds Try.pinned (OpenSpec.ofChange overlayBackWrong)

/-- 'outcroplaw20.OverlayUndoes': WHATEVER THE INPUT: true; the input reads as it did. -/
def overlayUndoesSpec : ChangeSpec := { name := "overlayUndoes", fn := fun _ => fun
  | [d1, d2] => { results := [.lit (.bool true)], args := [d1, d2] }
  | _ => none }
def overlayUndoesRow : OpenClaim := { program := "ythanmgejgmhccaa", sum := "f3c23773d42051131f31ccaaa3cd873cca58524806175f8e0bfe7c6cb4dc92da", func := "outcrop/outcroplaw20.OverlayUndoes", spec := "overlayUndoes", unfollowed := true, recurses := true, apart := false }
def OverlayUndoesSaid : Prop := overlayUndoesRow.holds Try.pinned (OpenSpec.ofChange overlayUndoesSpec)

/-- ITS FALSE NEIGHBOUR: 'it returns false'. Refute it at one input. -/
def overlayUndoesWrong : ChangeSpec := { name := "overlayUndoes", fn := fun _ => fun
  | [d1, d2] => { results := [.lit (.bool false)], args := [d1, d2] }
  | _ => none }
def OverlayUndoesWrongFalsely : Prop := overlayUndoesRow.holds Try.pinned (OpenSpec.ofChange overlayUndoesWrong)

/-- 'outcroplaw20.OverlayOrder': WHATEVER THE INPUT: true; the input reads as it did. -/
def overlayOrderSpec : ChangeSpec := { name := "overlayOrder", fn := fun _ => fun
  | [d1, d2, d3, d4] => { results := [.lit (.bool true)], args := [d1, d2, d3, d4] }
  | _ => none }
def overlayOrderRow : OpenClaim := { program := "ythanmgejgmhccaa", sum := "f3c23773d42051131f31ccaaa3cd873cca58524806175f8e0bfe7c6cb4dc92da", func := "outcrop/outcroplaw20.OverlayOrder", spec := "overlayOrder", unfollowed := true, recurses := true, apart := false }
def OverlayOrderSaid : Prop := overlayOrderRow.holds Try.pinned (OpenSpec.ofChange overlayOrderSpec)

/-- ITS FALSE NEIGHBOUR: 'it returns false'. Refute it at one input. -/
def overlayOrderWrong : ChangeSpec := { name := "overlayOrder", fn := fun _ => fun
  | [d1, d2, d3, d4] => { results := [.lit (.bool false)], args := [d1, d2, d3, d4] }
  | _ => none }
def OverlayOrderWrongFalsely : Prop := overlayOrderRow.holds Try.pinned (OpenSpec.ofChange overlayOrderWrong)

/- THE SECOND FORM. 'bulk': how many values and letters a reading holds, each counted each time it is reached (what is shared counts as often as it is met; a slice's spare places count too). A statement '..UptoSaid' is the law's where the arguments, and the package variables that the reading takes, are together of bulk at most 1048576: NARROWER than '..Said'. Prove '..Said' where nothing that the law and all that it calls make is longer than what came in: it says more and counts as full. Else prove '..UptoSaid'. A law counts once. -/
mutual
def uptoBulk {H : Type} : DataW H → Nat
  | .lit (.string bytes) => bytes.length + 1
  | .lit _ => 1
  | .nil => 1
  | .ptr d => uptoBulk d + 1
  | .slice elems spare => uptoBulkAll elems + uptoBulkAll spare + 1
  | .agg parts => uptoBulkAll parts + 1
  | .iface _ d => uptoBulk d + 1
  | .map entries => uptoBulkEntries entries + 1
  | .held _ => 1
def uptoBulkAll {H : Type} : List (DataW H) → Nat
  | [] => 0
  | d :: r => uptoBulk d + uptoBulkAll r
def uptoBulkEntries {H : Type} : List (Lit × DataW H) → Nat
  | [] => 0
  | x :: r => uptoBulkEntry x + uptoBulkEntries r
def uptoBulkEntry {H : Type} : Lit × DataW H → Nat
  | (.string bytes, d) => bytes.length + uptoBulk d + 1
  | (_, d) => uptoBulk d + 1
 end
def uptoSmall : (H : Type) → List (DataW H) → Bool := fun _ ds => decide (uptoBulkAll ds ≤ 1048576)
def OpenSpec.upto (s : _root_.Go.ChangeSpec) : _root_.Go.OpenSpec := { _root_.Go.OpenSpec.ofChange s with cond := some uptoSmall }

/-- 'outcroplaw20.OverlayDoes', WHERE WHAT IT READS IS OF BULK AT MOST 1048576: true; the input reads as it did. -/
def overlayDoesUptoRow : OpenClaim := { program := "ythanmgejgmhccaa", sum := "f3c23773d42051131f31ccaaa3cd873cca58524806175f8e0bfe7c6cb4dc92da", func := "outcrop/outcroplaw20.OverlayDoes", spec := "overlayDoes", unfollowed := true, recurses := true, apart := false, narrowed := true }
def OverlayDoesUptoSaid : Prop := overlayDoesUptoRow.holds Try.pinned (OpenSpec.upto overlayDoesSpec)

/-- 'outcroplaw20.OverlayBack', WHERE WHAT IT READS IS OF BULK AT MOST 1048576: true; the input reads as it did. -/
def overlayBackUptoRow : OpenClaim := { program := "ythanmgejgmhccaa", sum := "f3c23773d42051131f31ccaaa3cd873cca58524806175f8e0bfe7c6cb4dc92da", func := "outcrop/outcroplaw20.OverlayBack", spec := "overlayBack", unfollowed := true, recurses := true, apart := false, narrowed := true }
def OverlayBackUptoSaid : Prop := overlayBackUptoRow.holds Try.pinned (OpenSpec.upto overlayBackSpec)

/-- 'outcroplaw20.OverlayUndoes', WHERE WHAT IT READS IS OF BULK AT MOST 1048576: true; the input reads as it did. -/
def overlayUndoesUptoRow : OpenClaim := { program := "ythanmgejgmhccaa", sum := "f3c23773d42051131f31ccaaa3cd873cca58524806175f8e0bfe7c6cb4dc92da", func := "outcrop/outcroplaw20.OverlayUndoes", spec := "overlayUndoes", unfollowed := true, recurses := true, apart := false, narrowed := true }
def OverlayUndoesUptoSaid : Prop := overlayUndoesUptoRow.holds Try.pinned (OpenSpec.upto overlayUndoesSpec)

/-- 'outcroplaw20.OverlayOrder', WHERE WHAT IT READS IS OF BULK AT MOST 1048576: true; the input reads as it did. -/
def overlayOrderUptoRow : OpenClaim := { program := "ythanmgejgmhccaa", sum := "f3c23773d42051131f31ccaaa3cd873cca58524806175f8e0bfe7c6cb4dc92da", func := "outcrop/outcroplaw20.OverlayOrder", spec := "overlayOrder", unfollowed := true, recurses := true, apart := false, narrowed := true }
def OverlayOrderUptoSaid : Prop := overlayOrderUptoRow.holds Try.pinned (OpenSpec.upto overlayOrderSpec)

end Rows
end Go.Proofs.Ythanmgejgmhccaa
