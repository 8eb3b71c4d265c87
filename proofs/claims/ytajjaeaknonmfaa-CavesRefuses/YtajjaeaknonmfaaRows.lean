/-
  No cell of these rows narrows 'for every input' (looked for: loops, veiled, ifaces, maps, wideKeys, modest, calm, conditions, laid).
  DERIVED. THE GIVEN ROWS OF THIS SEAT. 5 by the template 'for every input the law returns true; each argument reads behind the call as it read before'; 0 by the template 'total and deterministic' (their statements: YtajjaeaknonmfaaTotals.lean).
  GIVEN WITH THE SEED: the statements are not yours to turn. If you find one false, say at which input.
  Laid BY PROGRAM, IN A SANDBOX (cutbox-rows.mjs): the forced cells as the released guide's own fill.sh prints them over the translation 37c15ac0b33cd894… (all of the seat's roots in one cut). By AI agents, Wed Nov 11 2026. No macro, syntax, notation, axiom, sorry.
-/
import Derived.Test.YtajjaeaknonmfaaChecked
import GoSem.Claim
import GoSem.ClaimJoined
import GoSem.ClaimMapViews
import Derived.JoinedTies
import Derived.KernelRfl
namespace Go.Proofs.Ytajjaeaknonmfaa
/- THE CELL 'sum', in the pinned program and in every row, IS THE sha256 OF THE DUMP (.gsa) THAT YtajjaeaknonmfaaProg.lean LOADS. Nothing in Lean hashes anything: it is a label: what it is worth is what the hold of that sum in a sandbox is worth. -/
noncomputable def Try.pinned : Pinned := { name := "ytajjaeaknonmfaa", sum := "37c15ac0b33cd89446732730c994cc80c6646ec474b87bc813e03a80c0f222b9", checked := Try.checked }
namespace Rows
def none {H : Type} : Left H := { results := [], args := [] }

/-- 'outcroplaw15.CavesSeeds': WHATEVER THE INPUT: true; the input reads as it did. -/
def cavesSeedsSpec : ChangeSpec := { name := "cavesSeeds", fn := fun _ => fun
  | [d1, d2] => { results := [.lit (.bool true)], args := [d1, d2] }
  | _ => none }
def cavesSeedsRow : OpenClaim := { program := "ytajjaeaknonmfaa", sum := "37c15ac0b33cd89446732730c994cc80c6646ec474b87bc813e03a80c0f222b9", func := "outcrop/outcroplaw15.CavesSeeds", spec := "cavesSeeds", unfollowed := true, recurses := true, apart := false }
def CavesSeedsSaid : Prop := cavesSeedsRow.holds Try.pinned (OpenSpec.ofChange cavesSeedsSpec)

/-- ITS FALSE NEIGHBOUR: 'it returns false'. Refute it at one input. -/
def cavesSeedsWrong : ChangeSpec := { name := "cavesSeeds", fn := fun _ => fun
  | [d1, d2] => { results := [.lit (.bool false)], args := [d1, d2] }
  | _ => none }
def CavesSeedsWrongFalsely : Prop := cavesSeedsRow.holds Try.pinned (OpenSpec.ofChange cavesSeedsWrong)

/-- 'outcroplaw15.CavesCarves': WHATEVER THE INPUT: true; the input reads as it did. -/
def cavesCarvesSpec : ChangeSpec := { name := "cavesCarves", fn := fun _ => fun
  | [d1, d2, d3] => { results := [.lit (.bool true)], args := [d1, d2, d3] }
  | _ => none }
def cavesCarvesRow : OpenClaim := { program := "ytajjaeaknonmfaa", sum := "37c15ac0b33cd89446732730c994cc80c6646ec474b87bc813e03a80c0f222b9", func := "outcrop/outcroplaw15.CavesCarves", spec := "cavesCarves", unfollowed := true, recurses := true, apart := false }
def CavesCarvesSaid : Prop := cavesCarvesRow.holds Try.pinned (OpenSpec.ofChange cavesCarvesSpec)

/-- ITS FALSE NEIGHBOUR: 'it returns false'. Refute it at one input. -/
def cavesCarvesWrong : ChangeSpec := { name := "cavesCarves", fn := fun _ => fun
  | [d1, d2, d3] => { results := [.lit (.bool false)], args := [d1, d2, d3] }
  | _ => none }
def CavesCarvesWrongFalsely : Prop := cavesCarvesRow.holds Try.pinned (OpenSpec.ofChange cavesCarvesWrong)

/-- 'outcroplaw15.CavesRefuses': WHATEVER THE INPUT: true; the input reads as it did. -/
def cavesRefusesSpec : ChangeSpec := { name := "cavesRefuses", fn := fun _ => fun
  | [d1, d2] => { results := [.lit (.bool true)], args := [d1, d2] }
  | _ => none }
def cavesRefusesRow : OpenClaim := { program := "ytajjaeaknonmfaa", sum := "37c15ac0b33cd89446732730c994cc80c6646ec474b87bc813e03a80c0f222b9", func := "outcrop/outcroplaw15.CavesRefuses", spec := "cavesRefuses", unfollowed := true, recurses := true, apart := false }
def CavesRefusesSaid : Prop := cavesRefusesRow.holds Try.pinned (OpenSpec.ofChange cavesRefusesSpec)

/-- ITS FALSE NEIGHBOUR: 'it returns false'. Refute it at one input. -/
def cavesRefusesWrong : ChangeSpec := { name := "cavesRefuses", fn := fun _ => fun
  | [d1, d2] => { results := [.lit (.bool false)], args := [d1, d2] }
  | _ => none }
def CavesRefusesWrongFalsely : Prop := cavesRefusesRow.holds Try.pinned (OpenSpec.ofChange cavesRefusesWrong)

/-- 'outcroplaw15.CavesNear': WHATEVER THE INPUT: true; the input reads as it did. -/
def cavesNearSpec : ChangeSpec := { name := "cavesNear", fn := fun _ => fun
  | [d1, d2, d3, d4] => { results := [.lit (.bool true)], args := [d1, d2, d3, d4] }
  | _ => none }
def cavesNearRow : OpenClaim := { program := "ytajjaeaknonmfaa", sum := "37c15ac0b33cd89446732730c994cc80c6646ec474b87bc813e03a80c0f222b9", func := "outcrop/outcroplaw15.CavesNear", spec := "cavesNear", unfollowed := true, recurses := true, apart := false }
def CavesNearSaid : Prop := cavesNearRow.holds Try.pinned (OpenSpec.ofChange cavesNearSpec)

/-- ITS FALSE NEIGHBOUR: 'it returns false'. Refute it at one input. -/
def cavesNearWrong : ChangeSpec := { name := "cavesNear", fn := fun _ => fun
  | [d1, d2, d3, d4] => { results := [.lit (.bool false)], args := [d1, d2, d3, d4] }
  | _ => none }
def CavesNearWrongFalsely : Prop := cavesNearRow.holds Try.pinned (OpenSpec.ofChange cavesNearWrong)

/-- 'outcroplaw15.CavesOnce': WHATEVER THE INPUT: true; the input reads as it did. -/
def cavesOnceSpec : ChangeSpec := { name := "cavesOnce", fn := fun _ => fun
  | [d1, d2, d3] => { results := [.lit (.bool true)], args := [d1, d2, d3] }
  | _ => none }
def cavesOnceRow : OpenClaim := { program := "ytajjaeaknonmfaa", sum := "37c15ac0b33cd89446732730c994cc80c6646ec474b87bc813e03a80c0f222b9", func := "outcrop/outcroplaw15.CavesOnce", spec := "cavesOnce", unfollowed := true, recurses := true, apart := false }
def CavesOnceSaid : Prop := cavesOnceRow.holds Try.pinned (OpenSpec.ofChange cavesOnceSpec)

/-- ITS FALSE NEIGHBOUR: 'it returns false'. Refute it at one input. -/
def cavesOnceWrong : ChangeSpec := { name := "cavesOnce", fn := fun _ => fun
  | [d1, d2, d3] => { results := [.lit (.bool false)], args := [d1, d2, d3] }
  | _ => none }
def CavesOnceWrongFalsely : Prop := cavesOnceRow.holds Try.pinned (OpenSpec.ofChange cavesOnceWrong)

/- THE SECOND FORM. 'bulk': how many values and letters a reading holds, each counted each time it is reached (what is shared counts as often as it is met; a slice's spare places count too). A statement '..UptoSaid' is the law's where the arguments, and the package variables that the reading takes, are together of bulk at most 1048576: NARROWER than '..Said'. Prove '..Said' where nothing that the law and all that it calls make is longer than what came in: it says more and counts as full. Else prove '..UptoSaid'. A law counts once. -/
mutual
def uptoBulk {H : Type} : DataW H → Nat
  | .lit (.string bytes) => bytes.length + 1
  | .lit _ => 1
  | .nil => 1
  | .ptr d => uptoBulk d + 1
  | .slice elems spare => uptoBulkAll elems + uptoBulkAll spare + 1
  | .agg parts => uptoBulkAll parts + 1
  | .iface _ d => uptoBulk d + 1
  | .map entries => uptoBulkEntries entries + 1
  | .held _ => 1
def uptoBulkAll {H : Type} : List (DataW H) → Nat
  | [] => 0
  | d :: r => uptoBulk d + uptoBulkAll r
def uptoBulkEntries {H : Type} : List (Lit × DataW H) → Nat
  | [] => 0
  | x :: r => uptoBulkEntry x + uptoBulkEntries r
def uptoBulkEntry {H : Type} : Lit × DataW H → Nat
  | (.string bytes, d) => bytes.length + uptoBulk d + 1
  | (_, d) => uptoBulk d + 1
 end
def uptoSmall : (H : Type) → List (DataW H) → Bool := fun _ ds => decide (uptoBulkAll ds ≤ 1048576)
def OpenSpec.upto (s : _root_.Go.ChangeSpec) : _root_.Go.OpenSpec := { _root_.Go.OpenSpec.ofChange s with cond := some uptoSmall }

/-- 'outcroplaw15.CavesSeeds', WHERE WHAT IT READS IS OF BULK AT MOST 1048576: true; the input reads as it did. -/
def cavesSeedsUptoRow : OpenClaim := { program := "ytajjaeaknonmfaa", sum := "37c15ac0b33cd89446732730c994cc80c6646ec474b87bc813e03a80c0f222b9", func := "outcrop/outcroplaw15.CavesSeeds", spec := "cavesSeeds", unfollowed := true, recurses := true, apart := false, narrowed := true }
def CavesSeedsUptoSaid : Prop := cavesSeedsUptoRow.holds Try.pinned (OpenSpec.upto cavesSeedsSpec)

/-- 'outcroplaw15.CavesCarves', WHERE WHAT IT READS IS OF BULK AT MOST 1048576: true; the input reads as it did. -/
def cavesCarvesUptoRow : OpenClaim := { program := "ytajjaeaknonmfaa", sum := "37c15ac0b33cd89446732730c994cc80c6646ec474b87bc813e03a80c0f222b9", func := "outcrop/outcroplaw15.CavesCarves", spec := "cavesCarves", unfollowed := true, recurses := true, apart := false, narrowed := true }
def CavesCarvesUptoSaid : Prop := cavesCarvesUptoRow.holds Try.pinned (OpenSpec.upto cavesCarvesSpec)

/-- 'outcroplaw15.CavesRefuses', WHERE WHAT IT READS IS OF BULK AT MOST 1048576: true; the input reads as it did. -/
def cavesRefusesUptoRow : OpenClaim := { program := "ytajjaeaknonmfaa", sum := "37c15ac0b33cd89446732730c994cc80c6646ec474b87bc813e03a80c0f222b9", func := "outcrop/outcroplaw15.CavesRefuses", spec := "cavesRefuses", unfollowed := true, recurses := true, apart := false, narrowed := true }
def CavesRefusesUptoSaid : Prop := cavesRefusesUptoRow.holds Try.pinned (OpenSpec.upto cavesRefusesSpec)

/-- 'outcroplaw15.CavesNear', WHERE WHAT IT READS IS OF BULK AT MOST 1048576: true; the input reads as it did. -/
def cavesNearUptoRow : OpenClaim := { program := "ytajjaeaknonmfaa", sum := "37c15ac0b33cd89446732730c994cc80c6646ec474b87bc813e03a80c0f222b9", func := "outcrop/outcroplaw15.CavesNear", spec := "cavesNear", unfollowed := true, recurses := true, apart := false, narrowed := true }
def CavesNearUptoSaid : Prop := cavesNearUptoRow.holds Try.pinned (OpenSpec.upto cavesNearSpec)

/-- 'outcroplaw15.CavesOnce', WHERE WHAT IT READS IS OF BULK AT MOST 1048576: true; the input reads as it did. -/
def cavesOnceUptoRow : OpenClaim := { program := "ytajjaeaknonmfaa", sum := "37c15ac0b33cd89446732730c994cc80c6646ec474b87bc813e03a80c0f222b9", func := "outcrop/outcroplaw15.CavesOnce", spec := "cavesOnce", unfollowed := true, recurses := true, apart := false, narrowed := true }
def CavesOnceUptoSaid : Prop := cavesOnceUptoRow.holds Try.pinned (OpenSpec.upto cavesOnceSpec)

end Rows
end Go.Proofs.Ytajjaeaknonmfaa
