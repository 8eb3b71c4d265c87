/-
  DERIVED. GIVEN WITH THE SEED: THE CARDS: each row of YtmfjmcaaoljjlaaDoorRows.lean that lists a variable, with what it lists TIED to the program's text (the seventh form; the later family's looks); each row that meets fmt, with fmt's text TOLD by the authors' own Lean function (tested against real Go, not proved from fmt's source: count such statements apart). THE CARD IS WHAT COUNTS. Prove the row's statement (the work); the ties are given (YtmfjmcaaoljjlaaDoorTie.lean); close each card by the builder's one call (the guide's Derived/Test/ToyasCard.lean, 'card_holds'). Laid BY PROGRAM, IN A SANDBOX (cutbox-door.mjs). By AI agents, Wed Nov 11 2026. No macro, syntax, notation, axiom, sorry.
-/
import Derived.Test.YtmfjmcaaoljjlaaDoorRows
import GoSem.ClaimSeven
namespace Go.Proofs.YtmfjmcaaoljjlaaDoor
namespace Rows

/-- THE TIED CARD OF 'outcroplaw19.RelightNew'. -/
def relightNewCard : Claim7 := { stood := { row := relightNewRow, standIns := [], harness := (true, "f5558e2c625d5962422288371f1c02c2c017dfcf28322aa626be00724618d579"), looks := false }, kinds := [], alts := [], laidByText := true, laidKinds := [.data], laidTests := true, laidLooks := .later }
def RelightNewCardSaid : Prop := Claim7.holds Tryd.pinned (.plain (OpenSpec.ofChange relightNewSpec)) relightNewCard

/-- THE TIED CARD OF 'outcroplaw19.RelightSets'. -/
def relightSetsCard : Claim7 := { stood := { row := relightSetsRow, standIns := [], harness := (true, "f5558e2c625d5962422288371f1c02c2c017dfcf28322aa626be00724618d579"), looks := false }, kinds := [], alts := [], laidByText := true, laidKinds := [.data], laidTests := true, laidLooks := .later }
def RelightSetsCardSaid : Prop := Claim7.holds Tryd.pinned (.plain (OpenSpec.ofChange relightSetsSpec)) relightSetsCard

/-- THE TIED CARD OF 'outcroplaw19.RelightBack'. -/
def relightBackCard : Claim7 := { stood := { row := relightBackRow, standIns := [], harness := (true, "f5558e2c625d5962422288371f1c02c2c017dfcf28322aa626be00724618d579"), looks := false }, kinds := [], alts := [], laidByText := true, laidKinds := [.data], laidTests := true, laidLooks := .later }
def RelightBackCardSaid : Prop := Claim7.holds Tryd.pinned (.plain (OpenSpec.ofChange relightBackSpec)) relightBackCard

/-- THE TIED CARD OF 'outcroplaw19.RelightOrder'. -/
def relightOrderCard : Claim7 := { stood := { row := relightOrderRow, standIns := [], harness := (true, "f5558e2c625d5962422288371f1c02c2c017dfcf28322aa626be00724618d579"), looks := false }, kinds := [], alts := [], laidByText := true, laidKinds := [.data], laidTests := true, laidLooks := .later }
def RelightOrderCardSaid : Prop := Claim7.holds Tryd.pinned (.plain (OpenSpec.ofChange relightOrderSpec)) relightOrderCard

/-- THE TIED CARD OF 'outcroplaw19.RelightStill'. -/
def relightStillCard : Claim7 := { stood := { row := relightStillRow, standIns := [], harness := (true, "f5558e2c625d5962422288371f1c02c2c017dfcf28322aa626be00724618d579"), looks := false }, kinds := [], alts := [], laidByText := true, laidKinds := [.data], laidTests := true, laidLooks := .later }
def RelightStillCardSaid : Prop := Claim7.holds Tryd.pinned (.plain (OpenSpec.ofChange relightStillSpec)) relightStillCard

/-- THE TIED CARD OF 'outcroplaw19.RelightTwo'. -/
def relightTwoCard : Claim7 := { stood := { row := relightTwoRow, standIns := [], harness := (true, "f5558e2c625d5962422288371f1c02c2c017dfcf28322aa626be00724618d579"), looks := false }, kinds := [], alts := [], laidByText := true, laidKinds := [.data], laidTests := true, laidLooks := .later }
def RelightTwoCardSaid : Prop := Claim7.holds Tryd.pinned (.plain (OpenSpec.ofChange relightTwoSpec)) relightTwoCard

/-- THE SECOND FORM's CARD OF 'outcroplaw19.RelightNew'. -/
def relightNewUptoCard : Claim7 := { stood := { row := relightNewUptoRow, standIns := [], harness := (true, "f5558e2c625d5962422288371f1c02c2c017dfcf28322aa626be00724618d579"), looks := false }, kinds := [], alts := [], laidByText := true, laidKinds := [.data], laidTests := true, laidLooks := .later }
def RelightNewUptoCardSaid : Prop := Claim7.holds Tryd.pinned (.plain (OpenSpec.upto relightNewSpec)) relightNewUptoCard

/-- THE SECOND FORM's CARD OF 'outcroplaw19.RelightSets'. -/
def relightSetsUptoCard : Claim7 := { stood := { row := relightSetsUptoRow, standIns := [], harness := (true, "f5558e2c625d5962422288371f1c02c2c017dfcf28322aa626be00724618d579"), looks := false }, kinds := [], alts := [], laidByText := true, laidKinds := [.data], laidTests := true, laidLooks := .later }
def RelightSetsUptoCardSaid : Prop := Claim7.holds Tryd.pinned (.plain (OpenSpec.upto relightSetsSpec)) relightSetsUptoCard

/-- THE SECOND FORM's CARD OF 'outcroplaw19.RelightBack'. -/
def relightBackUptoCard : Claim7 := { stood := { row := relightBackUptoRow, standIns := [], harness := (true, "f5558e2c625d5962422288371f1c02c2c017dfcf28322aa626be00724618d579"), looks := false }, kinds := [], alts := [], laidByText := true, laidKinds := [.data], laidTests := true, laidLooks := .later }
def RelightBackUptoCardSaid : Prop := Claim7.holds Tryd.pinned (.plain (OpenSpec.upto relightBackSpec)) relightBackUptoCard

/-- THE SECOND FORM's CARD OF 'outcroplaw19.RelightOrder'. -/
def relightOrderUptoCard : Claim7 := { stood := { row := relightOrderUptoRow, standIns := [], harness := (true, "f5558e2c625d5962422288371f1c02c2c017dfcf28322aa626be00724618d579"), looks := false }, kinds := [], alts := [], laidByText := true, laidKinds := [.data], laidTests := true, laidLooks := .later }
def RelightOrderUptoCardSaid : Prop := Claim7.holds Tryd.pinned (.plain (OpenSpec.upto relightOrderSpec)) relightOrderUptoCard

/-- THE SECOND FORM's CARD OF 'outcroplaw19.RelightStill'. -/
def relightStillUptoCard : Claim7 := { stood := { row := relightStillUptoRow, standIns := [], harness := (true, "f5558e2c625d5962422288371f1c02c2c017dfcf28322aa626be00724618d579"), looks := false }, kinds := [], alts := [], laidByText := true, laidKinds := [.data], laidTests := true, laidLooks := .later }
def RelightStillUptoCardSaid : Prop := Claim7.holds Tryd.pinned (.plain (OpenSpec.upto relightStillSpec)) relightStillUptoCard

/-- THE SECOND FORM's CARD OF 'outcroplaw19.RelightTwo'. -/
def relightTwoUptoCard : Claim7 := { stood := { row := relightTwoUptoRow, standIns := [], harness := (true, "f5558e2c625d5962422288371f1c02c2c017dfcf28322aa626be00724618d579"), looks := false }, kinds := [], alts := [], laidByText := true, laidKinds := [.data], laidTests := true, laidLooks := .later }
def RelightTwoUptoCardSaid : Prop := Claim7.holds Tryd.pinned (.plain (OpenSpec.upto relightTwoSpec)) relightTwoUptoCard
end Rows
end Go.Proofs.YtmfjmcaaoljjlaaDoor
