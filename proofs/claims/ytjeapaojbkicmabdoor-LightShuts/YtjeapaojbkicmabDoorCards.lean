/-
  DERIVED. GIVEN WITH THE SEED: THE CARDS: each row of YtjeapaojbkicmabDoorRows.lean that lists a variable, with what it lists TIED to the program's text (the seventh form; the later family's looks); each row that meets fmt, with fmt's text TOLD by the authors' own Lean function (tested against real Go, not proved from fmt's source: count such statements apart). THE CARD IS WHAT COUNTS. Prove the row's statement (the work); the ties are given (YtjeapaojbkicmabDoorTie.lean); close each card by the builder's one call (the guide's Derived/Test/ToyasCard.lean, 'card_holds'). Laid BY PROGRAM, IN A SANDBOX (cutbox-door.mjs). By AI agents, Wed Nov 11 2026. No macro, syntax, notation, axiom, sorry.
-/
import Derived.Test.YtjeapaojbkicmabDoorRows
import GoSem.ClaimSeven
namespace Go.Proofs.YtjeapaojbkicmabDoor
namespace Rows

/-- THE TIED CARD OF 'outcroplaw18.LightShuts'. -/
def lightShutsCard : Claim7 := { stood := { row := lightShutsRow, standIns := [], harness := (true, "bb5a03eea3e373cd7da2fdb7ce21d229e29649ae3519c6a9bea039ed1cbe79ee"), looks := false }, kinds := [], alts := [], laidByText := true, laidKinds := [.data, .data], laidTests := true, laidLooks := .later }
def LightShutsCardSaid : Prop := Claim7.holds Tryd.pinned (.plain (OpenSpec.ofChange lightShutsSpec)) lightShutsCard

/-- THE SECOND FORM's CARD OF 'outcroplaw18.LightShuts'. -/
def lightShutsUptoCard : Claim7 := { stood := { row := lightShutsUptoRow, standIns := [], harness := (true, "bb5a03eea3e373cd7da2fdb7ce21d229e29649ae3519c6a9bea039ed1cbe79ee"), looks := false }, kinds := [], alts := [], laidByText := true, laidKinds := [.data, .data], laidTests := true, laidLooks := .later }
def LightShutsUptoCardSaid : Prop := Claim7.holds Tryd.pinned (.plain (OpenSpec.upto lightShutsSpec)) lightShutsUptoCard
end Rows
end Go.Proofs.YtjeapaojbkicmabDoor
