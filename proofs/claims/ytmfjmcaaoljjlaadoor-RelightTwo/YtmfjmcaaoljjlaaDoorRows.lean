/-
  NARROWER THAN 'FOR EVERY INPUT', by the rows' own cells (each row's printed sentence says how): RelightNew: laid · RelightSets: laid · RelightBack: laid · RelightOrder: laid · RelightStill: laid · RelightTwo: laid.
  DERIVED. THE GIVEN ROWS OF THIS SEAT. 6 by the template 'for every input the law returns true; each argument reads behind the call as it read before'; 0 by the template 'total and deterministic' (their statements: YtmfjmcaaoljjlaaDoorTotals.lean).
  GIVEN WITH THE SEED: the statements are not yours to turn. If you find one false, say at which input.
  Laid BY PROGRAM, IN A SANDBOX (cutbox-rows.mjs): the forced cells as the released guide's own fill.sh prints them over the translation d108833b8c367d50… (all of the seat's roots in one cut). By AI agents, Wed Nov 11 2026. No macro, syntax, notation, axiom, sorry.
-/
import Derived.Test.YtmfjmcaaoljjlaaDoorChecked
import GoSem.Claim
import GoSem.ClaimJoined
import GoSem.ClaimMapViews
import Derived.JoinedTies
import Derived.KernelRfl
namespace Go.Proofs.YtmfjmcaaoljjlaaDoor
/- THE CELL 'sum', in the pinned program and in every row, IS THE sha256 OF THE DUMP (.gsa) THAT YtmfjmcaaoljjlaaDoorProg.lean LOADS. Nothing in Lean hashes anything: it is a label: what it is worth is what the hold of that sum in a sandbox is worth. -/
noncomputable def Tryd.pinned : Pinned := { name := "ytmfjmcaaoljjlaadoor", sum := "d108833b8c367d507431bf4b96eee04da3f4f23327f78b4b6ac1fca1ab448640", checked := Tryd.checked }
namespace Rows
def none {H : Type} : Left H := { results := [], args := [] }

/- WHAT THE LISTED PACKAGE-LEVEL VARIABLES READ AS WHEN THE CALL BEGINS. Each datum BY PROGRAM (the guide's laid-datum.mjs) off the statement by which the dump's own 'gosem.cut.vars' lays the variable. In a bare row this is a premise. The card (YtmfjmcaaoljjlaaDoorCards.lean) ties it to the program's text. -/
def laid_outcrop_kind_rows {H : Type} : DataW H := .agg [.agg [.lit (.string [97, 105, 114]), .lit (.bool false), .lit (.bool true), .lit (.int .i64 1), .lit (.int .i64 0)], .agg [.lit (.string [115, 116, 111, 110, 101]), .lit (.bool true), .lit (.bool false), .lit (.int .i64 16), .lit (.int .i64 0)], .agg [.lit (.string [100, 105, 114, 116]), .lit (.bool true), .lit (.bool false), .lit (.int .i64 16), .lit (.int .i64 0)], .agg [.lit (.string [103, 114, 97, 115, 115]), .lit (.bool true), .lit (.bool false), .lit (.int .i64 16), .lit (.int .i64 0)], .agg [.lit (.string [115, 97, 110, 100]), .lit (.bool true), .lit (.bool false), .lit (.int .i64 16), .lit (.int .i64 0)], .agg [.lit (.string [119, 97, 116, 101, 114]), .lit (.bool false), .lit (.bool false), .lit (.int .i64 3), .lit (.int .i64 0)], .agg [.lit (.string [103, 114, 97, 118, 101, 108]), .lit (.bool true), .lit (.bool false), .lit (.int .i64 16), .lit (.int .i64 0)], .agg [.lit (.string [99, 111, 97, 108]), .lit (.bool true), .lit (.bool false), .lit (.int .i64 16), .lit (.int .i64 0)], .agg [.lit (.string [105, 114, 111, 110]), .lit (.bool true), .lit (.bool false), .lit (.int .i64 16), .lit (.int .i64 0)], .agg [.lit (.string [103, 111, 108, 100]), .lit (.bool true), .lit (.bool false), .lit (.int .i64 16), .lit (.int .i64 3)], .agg [.lit (.string [108, 111, 103]), .lit (.bool true), .lit (.bool false), .lit (.int .i64 16), .lit (.int .i64 0)], .agg [.lit (.string [108, 101, 97, 118, 101, 115]), .lit (.bool false), .lit (.bool false), .lit (.int .i64 2), .lit (.int .i64 0)], .agg [.lit (.string [98, 114, 105, 99, 107]), .lit (.bool true), .lit (.bool false), .lit (.int .i64 16), .lit (.int .i64 0)], .agg [.lit (.string [108, 97, 109, 112]), .lit (.bool false), .lit (.bool false), .lit (.int .i64 1), .lit (.int .i64 14)], .agg [.lit (.string [103, 108, 97, 115, 115]), .lit (.bool false), .lit (.bool true), .lit (.int .i64 1), .lit (.int .i64 0)], .agg [.lit (.string [98, 101, 100, 114, 111, 99, 107]), .lit (.bool true), .lit (.bool false), .lit (.int .i64 16), .lit (.int .i64 0)]]

/-- 'outcroplaw19.RelightNew': WHATEVER THE INPUT: true; the input reads as it did. -/
def relightNewSpec : ChangeSpec := { name := "relightNew", fn := fun _ => fun
  | [d1, d2, d3, d4] => { results := [.lit (.bool true)], args := [d1, d2, d3, d4] }
  | _ => none }
def relightNewRow : OpenClaim := { program := "ytmfjmcaaoljjlaadoor", sum := "d108833b8c367d507431bf4b96eee04da3f4f23327f78b4b6ac1fca1ab448640", func := "outcrop/outcroplaw19.RelightNew", spec := "relightNew", unfollowed := true, recurses := true, named := ["outcrop/kind.rows"], apart := false, laid := [("outcrop/kind.rows", laid_outcrop_kind_rows)] }
def RelightNewSaid : Prop := relightNewRow.holds Tryd.pinned (OpenSpec.ofChange relightNewSpec)

/-- ITS FALSE NEIGHBOUR: 'it returns false'. Refute it at one input. -/
def relightNewWrong : ChangeSpec := { name := "relightNew", fn := fun _ => fun
  | [d1, d2, d3, d4] => { results := [.lit (.bool false)], args := [d1, d2, d3, d4] }
  | _ => none }
def RelightNewWrongFalsely : Prop := relightNewRow.holds Tryd.pinned (OpenSpec.ofChange relightNewWrong)

/-- 'outcroplaw19.RelightSets': WHATEVER THE INPUT: true; the input reads as it did. -/
def relightSetsSpec : ChangeSpec := { name := "relightSets", fn := fun _ => fun
  | [d1, d2, d3, d4, d5] => { results := [.lit (.bool true)], args := [d1, d2, d3, d4, d5] }
  | _ => none }
def relightSetsRow : OpenClaim := { program := "ytmfjmcaaoljjlaadoor", sum := "d108833b8c367d507431bf4b96eee04da3f4f23327f78b4b6ac1fca1ab448640", func := "outcrop/outcroplaw19.RelightSets", spec := "relightSets", unfollowed := true, recurses := true, named := ["outcrop/kind.rows"], apart := false, laid := [("outcrop/kind.rows", laid_outcrop_kind_rows)] }
def RelightSetsSaid : Prop := relightSetsRow.holds Tryd.pinned (OpenSpec.ofChange relightSetsSpec)

/-- ITS FALSE NEIGHBOUR: 'it returns false'. Refute it at one input. -/
def relightSetsWrong : ChangeSpec := { name := "relightSets", fn := fun _ => fun
  | [d1, d2, d3, d4, d5] => { results := [.lit (.bool false)], args := [d1, d2, d3, d4, d5] }
  | _ => none }
def RelightSetsWrongFalsely : Prop := relightSetsRow.holds Tryd.pinned (OpenSpec.ofChange relightSetsWrong)

/-- 'outcroplaw19.RelightBack': WHATEVER THE INPUT: true; the input reads as it did. -/
def relightBackSpec : ChangeSpec := { name := "relightBack", fn := fun _ => fun
  | [d1, d2, d3, d4, d5] => { results := [.lit (.bool true)], args := [d1, d2, d3, d4, d5] }
  | _ => none }
def relightBackRow : OpenClaim := { program := "ytmfjmcaaoljjlaadoor", sum := "d108833b8c367d507431bf4b96eee04da3f4f23327f78b4b6ac1fca1ab448640", func := "outcrop/outcroplaw19.RelightBack", spec := "relightBack", unfollowed := true, recurses := true, named := ["outcrop/kind.rows"], apart := false, laid := [("outcrop/kind.rows", laid_outcrop_kind_rows)] }
def RelightBackSaid : Prop := relightBackRow.holds Tryd.pinned (OpenSpec.ofChange relightBackSpec)

/-- ITS FALSE NEIGHBOUR: 'it returns false'. Refute it at one input. -/
def relightBackWrong : ChangeSpec := { name := "relightBack", fn := fun _ => fun
  | [d1, d2, d3, d4, d5] => { results := [.lit (.bool false)], args := [d1, d2, d3, d4, d5] }
  | _ => none }
def RelightBackWrongFalsely : Prop := relightBackRow.holds Tryd.pinned (OpenSpec.ofChange relightBackWrong)

/-- 'outcroplaw19.RelightOrder': WHATEVER THE INPUT: true; the input reads as it did. -/
def relightOrderSpec : ChangeSpec := { name := "relightOrder", fn := fun _ => fun
  | [d1, d2, d3, d4, d5] => { results := [.lit (.bool true)], args := [d1, d2, d3, d4, d5] }
  | _ => none }
def relightOrderRow : OpenClaim := { program := "ytmfjmcaaoljjlaadoor", sum := "d108833b8c367d507431bf4b96eee04da3f4f23327f78b4b6ac1fca1ab448640", func := "outcrop/outcroplaw19.RelightOrder", spec := "relightOrder", unfollowed := true, recurses := true, named := ["outcrop/kind.rows"], apart := false, laid := [("outcrop/kind.rows", laid_outcrop_kind_rows)] }
def RelightOrderSaid : Prop := relightOrderRow.holds Tryd.pinned (OpenSpec.ofChange relightOrderSpec)

/-- ITS FALSE NEIGHBOUR: 'it returns false'. Refute it at one input. -/
def relightOrderWrong : ChangeSpec := { name := "relightOrder", fn := fun _ => fun
  | [d1, d2, d3, d4, d5] => { results := [.lit (.bool false)], args := [d1, d2, d3, d4, d5] }
  | _ => none }
def RelightOrderWrongFalsely : Prop := relightOrderRow.holds Tryd.pinned (OpenSpec.ofChange relightOrderWrong)

/-- 'outcroplaw19.RelightStill': WHATEVER THE INPUT: true; the input reads as it did. -/
def relightStillSpec : ChangeSpec := { name := "relightStill", fn := fun _ => fun
  | [d1, d2, d3, d4, d5] => { results := [.lit (.bool true)], args := [d1, d2, d3, d4, d5] }
  | _ => none }
def relightStillRow : OpenClaim := { program := "ytmfjmcaaoljjlaadoor", sum := "d108833b8c367d507431bf4b96eee04da3f4f23327f78b4b6ac1fca1ab448640", func := "outcrop/outcroplaw19.RelightStill", spec := "relightStill", unfollowed := true, recurses := true, named := ["outcrop/kind.rows"], apart := false, laid := [("outcrop/kind.rows", laid_outcrop_kind_rows)] }
def RelightStillSaid : Prop := relightStillRow.holds Tryd.pinned (OpenSpec.ofChange relightStillSpec)

/-- ITS FALSE NEIGHBOUR: 'it returns false'. Refute it at one input. -/
def relightStillWrong : ChangeSpec := { name := "relightStill", fn := fun _ => fun
  | [d1, d2, d3, d4, d5] => { results := [.lit (.bool false)], args := [d1, d2, d3, d4, d5] }
  | _ => none }
def RelightStillWrongFalsely : Prop := relightStillRow.holds Tryd.pinned (OpenSpec.ofChange relightStillWrong)

/-- 'outcroplaw19.RelightTwo': WHATEVER THE INPUT: true; the input reads as it did. -/
def relightTwoSpec : ChangeSpec := { name := "relightTwo", fn := fun _ => fun
  | [d1, d2, d3, d4, d5] => { results := [.lit (.bool true)], args := [d1, d2, d3, d4, d5] }
  | _ => none }
def relightTwoRow : OpenClaim := { program := "ytmfjmcaaoljjlaadoor", sum := "d108833b8c367d507431bf4b96eee04da3f4f23327f78b4b6ac1fca1ab448640", func := "outcrop/outcroplaw19.RelightTwo", spec := "relightTwo", unfollowed := true, recurses := true, named := ["outcrop/kind.rows"], apart := false, laid := [("outcrop/kind.rows", laid_outcrop_kind_rows)] }
def RelightTwoSaid : Prop := relightTwoRow.holds Tryd.pinned (OpenSpec.ofChange relightTwoSpec)

/-- ITS FALSE NEIGHBOUR: 'it returns false'. Refute it at one input. -/
def relightTwoWrong : ChangeSpec := { name := "relightTwo", fn := fun _ => fun
  | [d1, d2, d3, d4, d5] => { results := [.lit (.bool false)], args := [d1, d2, d3, d4, d5] }
  | _ => none }
def RelightTwoWrongFalsely : Prop := relightTwoRow.holds Tryd.pinned (OpenSpec.ofChange relightTwoWrong)

/- THE SECOND FORM. 'bulk': how many values and letters a reading holds, each counted each time it is reached (what is shared counts as often as it is met; a slice's spare places count too). A statement '..UptoSaid' is the law's where the arguments, and the package variables that the reading takes, are together of bulk at most 1048576: NARROWER than '..Said'. Prove '..Said' where nothing that the law and all that it calls make is longer than what came in: it says more and counts as full. Else prove '..UptoSaid'. A law counts once. -/
mutual
def uptoBulk {H : Type} : DataW H → Nat
  | .lit (.string bytes) => bytes.length + 1
  | .lit _ => 1
  | .nil => 1
  | .ptr d => uptoBulk d + 1
  | .slice elems spare => uptoBulkAll elems + uptoBulkAll spare + 1
  | .agg parts => uptoBulkAll parts + 1
  | .iface _ d => uptoBulk d + 1
  | .map entries => uptoBulkEntries entries + 1
  | .held _ => 1
def uptoBulkAll {H : Type} : List (DataW H) → Nat
  | [] => 0
  | d :: r => uptoBulk d + uptoBulkAll r
def uptoBulkEntries {H : Type} : List (Lit × DataW H) → Nat
  | [] => 0
  | x :: r => uptoBulkEntry x + uptoBulkEntries r
def uptoBulkEntry {H : Type} : Lit × DataW H → Nat
  | (.string bytes, d) => bytes.length + uptoBulk d + 1
  | (_, d) => uptoBulk d + 1
 end
def uptoSmall : (H : Type) → List (DataW H) → Bool := fun _ ds => decide (uptoBulkAll ds ≤ 1048576)
def OpenSpec.upto (s : _root_.Go.ChangeSpec) : _root_.Go.OpenSpec := { _root_.Go.OpenSpec.ofChange s with cond := some uptoSmall }

/-- 'outcroplaw19.RelightNew', WHERE WHAT IT READS IS OF BULK AT MOST 1048576: true; the input reads as it did. -/
def relightNewUptoRow : OpenClaim := { program := "ytmfjmcaaoljjlaadoor", sum := "d108833b8c367d507431bf4b96eee04da3f4f23327f78b4b6ac1fca1ab448640", func := "outcrop/outcroplaw19.RelightNew", spec := "relightNew", unfollowed := true, recurses := true, named := ["outcrop/kind.rows"], apart := false, laid := [("outcrop/kind.rows", laid_outcrop_kind_rows)], narrowed := true }
def RelightNewUptoSaid : Prop := relightNewUptoRow.holds Tryd.pinned (OpenSpec.upto relightNewSpec)

/-- 'outcroplaw19.RelightSets', WHERE WHAT IT READS IS OF BULK AT MOST 1048576: true; the input reads as it did. -/
def relightSetsUptoRow : OpenClaim := { program := "ytmfjmcaaoljjlaadoor", sum := "d108833b8c367d507431bf4b96eee04da3f4f23327f78b4b6ac1fca1ab448640", func := "outcrop/outcroplaw19.RelightSets", spec := "relightSets", unfollowed := true, recurses := true, named := ["outcrop/kind.rows"], apart := false, laid := [("outcrop/kind.rows", laid_outcrop_kind_rows)], narrowed := true }
def RelightSetsUptoSaid : Prop := relightSetsUptoRow.holds Tryd.pinned (OpenSpec.upto relightSetsSpec)

/-- 'outcroplaw19.RelightBack', WHERE WHAT IT READS IS OF BULK AT MOST 1048576: true; the input reads as it did. -/
def relightBackUptoRow : OpenClaim := { program := "ytmfjmcaaoljjlaadoor", sum := "d108833b8c367d507431bf4b96eee04da3f4f23327f78b4b6ac1fca1ab448640", func := "outcrop/outcroplaw19.RelightBack", spec := "relightBack", unfollowed := true, recurses := true, named := ["outcrop/kind.rows"], apart := false, laid := [("outcrop/kind.rows", laid_outcrop_kind_rows)], narrowed := true }
def RelightBackUptoSaid : Prop := relightBackUptoRow.holds Tryd.pinned (OpenSpec.upto relightBackSpec)

/-- 'outcroplaw19.RelightOrder', WHERE WHAT IT READS IS OF BULK AT MOST 1048576: true; the input reads as it did. -/
def relightOrderUptoRow : OpenClaim := { program := "ytmfjmcaaoljjlaadoor", sum := "d108833b8c367d507431bf4b96eee04da3f4f23327f78b4b6ac1fca1ab448640", func := "outcrop/outcroplaw19.RelightOrder", spec := "relightOrder", unfollowed := true, recurses := true, named := ["outcrop/kind.rows"], apart := false, laid := [("outcrop/kind.rows", laid_outcrop_kind_rows)], narrowed := true }
def RelightOrderUptoSaid : Prop := relightOrderUptoRow.holds Tryd.pinned (OpenSpec.upto relightOrderSpec)

/-- 'outcroplaw19.RelightStill', WHERE WHAT IT READS IS OF BULK AT MOST 1048576: true; the input reads as it did. -/
def relightStillUptoRow : OpenClaim := { program := "ytmfjmcaaoljjlaadoor", sum := "d108833b8c367d507431bf4b96eee04da3f4f23327f78b4b6ac1fca1ab448640", func := "outcrop/outcroplaw19.RelightStill", spec := "relightStill", unfollowed := true, recurses := true, named := ["outcrop/kind.rows"], apart := false, laid := [("outcrop/kind.rows", laid_outcrop_kind_rows)], narrowed := true }
def RelightStillUptoSaid : Prop := relightStillUptoRow.holds Tryd.pinned (OpenSpec.upto relightStillSpec)

/-- 'outcroplaw19.RelightTwo', WHERE WHAT IT READS IS OF BULK AT MOST 1048576: true; the input reads as it did. -/
def relightTwoUptoRow : OpenClaim := { program := "ytmfjmcaaoljjlaadoor", sum := "d108833b8c367d507431bf4b96eee04da3f4f23327f78b4b6ac1fca1ab448640", func := "outcrop/outcroplaw19.RelightTwo", spec := "relightTwo", unfollowed := true, recurses := true, named := ["outcrop/kind.rows"], apart := false, laid := [("outcrop/kind.rows", laid_outcrop_kind_rows)], narrowed := true }
def RelightTwoUptoSaid : Prop := relightTwoUptoRow.holds Tryd.pinned (OpenSpec.upto relightTwoSpec)

end Rows
end Go.Proofs.YtmfjmcaaoljjlaaDoor
