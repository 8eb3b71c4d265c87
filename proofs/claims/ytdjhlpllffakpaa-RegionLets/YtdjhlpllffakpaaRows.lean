/-
  No cell of these rows narrows 'for every input' (looked for: loops, veiled, ifaces, maps, wideKeys, modest, calm, conditions, laid).
  DERIVED. THE GIVEN ROWS OF THIS SEAT. 6 by the template 'for every input the law returns true; each argument reads behind the call as it read before'; 0 by the template 'total and deterministic' (their statements: YtdjhlpllffakpaaTotals.lean).
  GIVEN WITH THE SEED: the statements are not yours to turn. If you find one false, say at which input.
  Laid BY PROGRAM, IN A SANDBOX (cutbox-rows.mjs): the forced cells as the released guide's own fill.sh prints them over the translation 61164a777c68856a… (all of the seat's roots in one cut). By AI agents, Wed Nov 11 2026. No macro, syntax, notation, axiom, sorry.
-/
import Derived.Test.YtdjhlpllffakpaaChecked
import GoSem.Claim
import GoSem.ClaimJoined
import GoSem.ClaimMapViews
import Derived.JoinedTies
import Derived.KernelRfl
namespace Go.Proofs.Ytdjhlpllffakpaa
/- THE CELL 'sum', in the pinned program and in every row, IS THE sha256 OF THE DUMP (.gsa) THAT YtdjhlpllffakpaaProg.lean LOADS. Nothing in Lean hashes anything: it is a label: what it is worth is what the hold of that sum in a sandbox is worth. -/
noncomputable def Try.pinned : Pinned := { name := "ytdjhlpllffakpaa", sum := "61164a777c68856a1ee702e692c930ce8ffcc03a0ec445a25adb156a3f40d23a", checked := Try.checked }
namespace Rows
def none {H : Type} : Left H := { results := [], args := [] }

/-- 'outcroplaw11.RegionNeeds': WHATEVER THE INPUT: true; the input reads as it did. -/
def regionNeedsSpec : ChangeSpec := { name := "regionNeeds", fn := fun _ => fun
  | [d] => { results := [.lit (.bool true)], args := [d] }
  | _ => none }
def regionNeedsRow : OpenClaim := { program := "ytdjhlpllffakpaa", sum := "61164a777c68856a1ee702e692c930ce8ffcc03a0ec445a25adb156a3f40d23a", func := "outcrop/outcroplaw11.RegionNeeds", spec := "regionNeeds", unfollowed := true, recurses := true, plainKeys := false, apart := false }
def RegionNeedsSaid : Prop := regionNeedsRow.holds Try.pinned (OpenSpec.ofChange regionNeedsSpec)

/-- ITS FALSE NEIGHBOUR: 'it returns false'. Refute it at one input. -/
def regionNeedsWrong : ChangeSpec := { name := "regionNeeds", fn := fun _ => fun
  | [d] => { results := [.lit (.bool false)], args := [d] }
  | _ => none }
def RegionNeedsWrongFalsely : Prop := regionNeedsRow.holds Try.pinned (OpenSpec.ofChange regionNeedsWrong)

/-- 'outcroplaw11.RegionOpens': WHATEVER THE INPUT: true; the input reads as it did. -/
def regionOpensSpec : ChangeSpec := { name := "regionOpens", fn := fun _ => fun
  | [d1, d2, d3, d4] => { results := [.lit (.bool true)], args := [d1, d2, d3, d4] }
  | _ => none }
def regionOpensRow : OpenClaim := { program := "ytdjhlpllffakpaa", sum := "61164a777c68856a1ee702e692c930ce8ffcc03a0ec445a25adb156a3f40d23a", func := "outcrop/outcroplaw11.RegionOpens", spec := "regionOpens", unfollowed := true, recurses := true, plainKeys := false, apart := false }
def RegionOpensSaid : Prop := regionOpensRow.holds Try.pinned (OpenSpec.ofChange regionOpensSpec)

/-- ITS FALSE NEIGHBOUR: 'it returns false'. Refute it at one input. -/
def regionOpensWrong : ChangeSpec := { name := "regionOpens", fn := fun _ => fun
  | [d1, d2, d3, d4] => { results := [.lit (.bool false)], args := [d1, d2, d3, d4] }
  | _ => none }
def RegionOpensWrongFalsely : Prop := regionOpensRow.holds Try.pinned (OpenSpec.ofChange regionOpensWrong)

/-- 'outcroplaw11.RegionPlans': WHATEVER THE INPUT: true; the input reads as it did. -/
def regionPlansSpec : ChangeSpec := { name := "regionPlans", fn := fun _ => fun
  | [d1, d2, d3] => { results := [.lit (.bool true)], args := [d1, d2, d3] }
  | _ => none }
def regionPlansRow : OpenClaim := { program := "ytdjhlpllffakpaa", sum := "61164a777c68856a1ee702e692c930ce8ffcc03a0ec445a25adb156a3f40d23a", func := "outcrop/outcroplaw11.RegionPlans", spec := "regionPlans", unfollowed := true, recurses := true, plainKeys := false, apart := false }
def RegionPlansSaid : Prop := regionPlansRow.holds Try.pinned (OpenSpec.ofChange regionPlansSpec)

/-- ITS FALSE NEIGHBOUR: 'it returns false'. Refute it at one input. -/
def regionPlansWrong : ChangeSpec := { name := "regionPlans", fn := fun _ => fun
  | [d1, d2, d3] => { results := [.lit (.bool false)], args := [d1, d2, d3] }
  | _ => none }
def RegionPlansWrongFalsely : Prop := regionPlansRow.holds Try.pinned (OpenSpec.ofChange regionPlansWrong)

/-- 'outcroplaw11.RegionFits': WHATEVER THE INPUT: true; the input reads as it did. -/
def regionFitsSpec : ChangeSpec := { name := "regionFits", fn := fun _ => fun
  | [d] => { results := [.lit (.bool true)], args := [d] }
  | _ => none }
def regionFitsRow : OpenClaim := { program := "ytdjhlpllffakpaa", sum := "61164a777c68856a1ee702e692c930ce8ffcc03a0ec445a25adb156a3f40d23a", func := "outcrop/outcroplaw11.RegionFits", spec := "regionFits", unfollowed := true, recurses := true, plainKeys := false, apart := false }
def RegionFitsSaid : Prop := regionFitsRow.holds Try.pinned (OpenSpec.ofChange regionFitsSpec)

/-- ITS FALSE NEIGHBOUR: 'it returns false'. Refute it at one input. -/
def regionFitsWrong : ChangeSpec := { name := "regionFits", fn := fun _ => fun
  | [d] => { results := [.lit (.bool false)], args := [d] }
  | _ => none }
def RegionFitsWrongFalsely : Prop := regionFitsRow.holds Try.pinned (OpenSpec.ofChange regionFitsWrong)

/-- 'outcroplaw11.RegionAlone': WHATEVER THE INPUT: true; the input reads as it did. -/
def regionAloneSpec : ChangeSpec := { name := "regionAlone", fn := fun _ => fun
  | [d1, d2, d3, d4, d5, d6] => { results := [.lit (.bool true)], args := [d1, d2, d3, d4, d5, d6] }
  | _ => none }
def regionAloneRow : OpenClaim := { program := "ytdjhlpllffakpaa", sum := "61164a777c68856a1ee702e692c930ce8ffcc03a0ec445a25adb156a3f40d23a", func := "outcrop/outcroplaw11.RegionAlone", spec := "regionAlone", unfollowed := true, recurses := true, plainKeys := false, apart := false }
def RegionAloneSaid : Prop := regionAloneRow.holds Try.pinned (OpenSpec.ofChange regionAloneSpec)

/-- ITS FALSE NEIGHBOUR: 'it returns false'. Refute it at one input. -/
def regionAloneWrong : ChangeSpec := { name := "regionAlone", fn := fun _ => fun
  | [d1, d2, d3, d4, d5, d6] => { results := [.lit (.bool false)], args := [d1, d2, d3, d4, d5, d6] }
  | _ => none }
def RegionAloneWrongFalsely : Prop := regionAloneRow.holds Try.pinned (OpenSpec.ofChange regionAloneWrong)

/-- 'outcroplaw11.RegionLets': WHATEVER THE INPUT: true; the input reads as it did. -/
def regionLetsSpec : ChangeSpec := { name := "regionLets", fn := fun _ => fun
  | [d1, d2] => { results := [.lit (.bool true)], args := [d1, d2] }
  | _ => none }
def regionLetsRow : OpenClaim := { program := "ytdjhlpllffakpaa", sum := "61164a777c68856a1ee702e692c930ce8ffcc03a0ec445a25adb156a3f40d23a", func := "outcrop/outcroplaw11.RegionLets", spec := "regionLets", unfollowed := true, recurses := true, plainKeys := false, apart := false }
def RegionLetsSaid : Prop := regionLetsRow.holds Try.pinned (OpenSpec.ofChange regionLetsSpec)

/-- ITS FALSE NEIGHBOUR: 'it returns false'. Refute it at one input. -/
def regionLetsWrong : ChangeSpec := { name := "regionLets", fn := fun _ => fun
  | [d1, d2] => { results := [.lit (.bool false)], args := [d1, d2] }
  | _ => none }
def RegionLetsWrongFalsely : Prop := regionLetsRow.holds Try.pinned (OpenSpec.ofChange regionLetsWrong)

/- THE SECOND FORM. 'bulk': how many values and letters a reading holds, each counted each time it is reached (what is shared counts as often as it is met; a slice's spare places count too). A statement '..UptoSaid' is the law's where the arguments, and the package variables that the reading takes, are together of bulk at most 1048576: NARROWER than '..Said'. Prove '..Said' where nothing that the law and all that it calls make is longer than what came in: it says more and counts as full. Else prove '..UptoSaid'. A law counts once. -/
mutual
def uptoBulk {H : Type} : DataW H → Nat
  | .lit (.string bytes) => bytes.length + 1
  | .lit _ => 1
  | .nil => 1
  | .ptr d => uptoBulk d + 1
  | .slice elems spare => uptoBulkAll elems + uptoBulkAll spare + 1
  | .agg parts => uptoBulkAll parts + 1
  | .iface _ d => uptoBulk d + 1
  | .map entries => uptoBulkEntries entries + 1
  | .held _ => 1
def uptoBulkAll {H : Type} : List (DataW H) → Nat
  | [] => 0
  | d :: r => uptoBulk d + uptoBulkAll r
def uptoBulkEntries {H : Type} : List (Lit × DataW H) → Nat
  | [] => 0
  | x :: r => uptoBulkEntry x + uptoBulkEntries r
def uptoBulkEntry {H : Type} : Lit × DataW H → Nat
  | (.string bytes, d) => bytes.length + uptoBulk d + 1
  | (_, d) => uptoBulk d + 1
 end
def uptoSmall : (H : Type) → List (DataW H) → Bool := fun _ ds => decide (uptoBulkAll ds ≤ 1048576)
def OpenSpec.upto (s : _root_.Go.ChangeSpec) : _root_.Go.OpenSpec := { _root_.Go.OpenSpec.ofChange s with cond := some uptoSmall }

/-- 'outcroplaw11.RegionNeeds', WHERE WHAT IT READS IS OF BULK AT MOST 1048576: true; the input reads as it did. -/
def regionNeedsUptoRow : OpenClaim := { program := "ytdjhlpllffakpaa", sum := "61164a777c68856a1ee702e692c930ce8ffcc03a0ec445a25adb156a3f40d23a", func := "outcrop/outcroplaw11.RegionNeeds", spec := "regionNeeds", unfollowed := true, recurses := true, plainKeys := false, apart := false, narrowed := true }
def RegionNeedsUptoSaid : Prop := regionNeedsUptoRow.holds Try.pinned (OpenSpec.upto regionNeedsSpec)

/-- 'outcroplaw11.RegionOpens', WHERE WHAT IT READS IS OF BULK AT MOST 1048576: true; the input reads as it did. -/
def regionOpensUptoRow : OpenClaim := { program := "ytdjhlpllffakpaa", sum := "61164a777c68856a1ee702e692c930ce8ffcc03a0ec445a25adb156a3f40d23a", func := "outcrop/outcroplaw11.RegionOpens", spec := "regionOpens", unfollowed := true, recurses := true, plainKeys := false, apart := false, narrowed := true }
def RegionOpensUptoSaid : Prop := regionOpensUptoRow.holds Try.pinned (OpenSpec.upto regionOpensSpec)

/-- 'outcroplaw11.RegionPlans', WHERE WHAT IT READS IS OF BULK AT MOST 1048576: true; the input reads as it did. -/
def regionPlansUptoRow : OpenClaim := { program := "ytdjhlpllffakpaa", sum := "61164a777c68856a1ee702e692c930ce8ffcc03a0ec445a25adb156a3f40d23a", func := "outcrop/outcroplaw11.RegionPlans", spec := "regionPlans", unfollowed := true, recurses := true, plainKeys := false, apart := false, narrowed := true }
def RegionPlansUptoSaid : Prop := regionPlansUptoRow.holds Try.pinned (OpenSpec.upto regionPlansSpec)

/-- 'outcroplaw11.RegionFits', WHERE WHAT IT READS IS OF BULK AT MOST 1048576: true; the input reads as it did. -/
def regionFitsUptoRow : OpenClaim := { program := "ytdjhlpllffakpaa", sum := "61164a777c68856a1ee702e692c930ce8ffcc03a0ec445a25adb156a3f40d23a", func := "outcrop/outcroplaw11.RegionFits", spec := "regionFits", unfollowed := true, recurses := true, plainKeys := false, apart := false, narrowed := true }
def RegionFitsUptoSaid : Prop := regionFitsUptoRow.holds Try.pinned (OpenSpec.upto regionFitsSpec)

/-- 'outcroplaw11.RegionAlone', WHERE WHAT IT READS IS OF BULK AT MOST 1048576: true; the input reads as it did. -/
def regionAloneUptoRow : OpenClaim := { program := "ytdjhlpllffakpaa", sum := "61164a777c68856a1ee702e692c930ce8ffcc03a0ec445a25adb156a3f40d23a", func := "outcrop/outcroplaw11.RegionAlone", spec := "regionAlone", unfollowed := true, recurses := true, plainKeys := false, apart := false, narrowed := true }
def RegionAloneUptoSaid : Prop := regionAloneUptoRow.holds Try.pinned (OpenSpec.upto regionAloneSpec)

/-- 'outcroplaw11.RegionLets', WHERE WHAT IT READS IS OF BULK AT MOST 1048576: true; the input reads as it did. -/
def regionLetsUptoRow : OpenClaim := { program := "ytdjhlpllffakpaa", sum := "61164a777c68856a1ee702e692c930ce8ffcc03a0ec445a25adb156a3f40d23a", func := "outcrop/outcroplaw11.RegionLets", spec := "regionLets", unfollowed := true, recurses := true, plainKeys := false, apart := false, narrowed := true }
def RegionLetsUptoSaid : Prop := regionLetsUptoRow.holds Try.pinned (OpenSpec.upto regionLetsSpec)

end Rows
end Go.Proofs.Ytdjhlpllffakpaa
