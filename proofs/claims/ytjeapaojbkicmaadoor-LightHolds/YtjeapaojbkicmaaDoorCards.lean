/-
  DERIVED. GIVEN WITH THE SEED: THE CARDS: each row of YtjeapaojbkicmaaDoorRows.lean that lists a variable, with what it lists TIED to the program's text (the seventh form; the later family's looks); each row that meets fmt, with fmt's text TOLD by the authors' own Lean function (tested against real Go, not proved from fmt's source: count such statements apart). THE CARD IS WHAT COUNTS. Prove the row's statement (the work); the ties are given (YtjeapaojbkicmaaDoorTie.lean); close each card by the builder's one call (the guide's Derived/Test/ToyasCard.lean, 'card_holds'). Laid BY PROGRAM, IN A SANDBOX (cutbox-door.mjs). By AI agents, Wed Nov 11 2026. No macro, syntax, notation, axiom, sorry.
-/
import Derived.Test.YtjeapaojbkicmaaDoorRows
import GoSem.ClaimSeven
namespace Go.Proofs.YtjeapaojbkicmaaDoor
namespace Rows

/-- THE TIED CARD OF 'outcroplaw18.LightFloods'. -/
def lightFloodsCard : Claim7 := { stood := { row := lightFloodsRow, standIns := [], harness := (true, "429941dd57fa4d6349020d2fe3138f9b42529edc62b1857250c4a0bf905b6708"), looks := false }, kinds := [], alts := [], laidByText := true, laidKinds := [.data, .data], laidTests := true, laidLooks := .later }
def LightFloodsCardSaid : Prop := Claim7.holds Tryd.pinned (.plain (OpenSpec.ofChange lightFloodsSpec)) lightFloodsCard

/-- THE TIED CARD OF 'outcroplaw18.LightRefuses'. -/
def lightRefusesCard : Claim7 := { stood := { row := lightRefusesRow, standIns := [], harness := (true, "429941dd57fa4d6349020d2fe3138f9b42529edc62b1857250c4a0bf905b6708"), looks := false }, kinds := [], alts := [], laidByText := true, laidKinds := [.data, .data], laidTests := true, laidLooks := .later }
def LightRefusesCardSaid : Prop := Claim7.holds Tryd.pinned (.plain (OpenSpec.ofChange lightRefusesSpec)) lightRefusesCard

/-- THE TIED CARD OF 'outcroplaw18.LightHolds'. -/
def lightHoldsCard : Claim7 := { stood := { row := lightHoldsRow, standIns := [], harness := (true, "429941dd57fa4d6349020d2fe3138f9b42529edc62b1857250c4a0bf905b6708"), looks := false }, kinds := [], alts := [], laidByText := true, laidKinds := [.data, .data], laidTests := true, laidLooks := .later }
def LightHoldsCardSaid : Prop := Claim7.holds Tryd.pinned (.plain (OpenSpec.ofChange lightHoldsSpec)) lightHoldsCard

/-- THE TIED CARD OF 'outcroplaw18.LightAdds'. -/
def lightAddsCard : Claim7 := { stood := { row := lightAddsRow, standIns := [], harness := (true, "429941dd57fa4d6349020d2fe3138f9b42529edc62b1857250c4a0bf905b6708"), looks := false }, kinds := [], alts := [], laidByText := true, laidKinds := [.data, .data], laidTests := true, laidLooks := .later }
def LightAddsCardSaid : Prop := Claim7.holds Tryd.pinned (.plain (OpenSpec.ofChange lightAddsSpec)) lightAddsCard

/-- THE TIED CARD OF 'outcroplaw18.LightMirrors'. -/
def lightMirrorsCard : Claim7 := { stood := { row := lightMirrorsRow, standIns := [], harness := (true, "429941dd57fa4d6349020d2fe3138f9b42529edc62b1857250c4a0bf905b6708"), looks := false }, kinds := [], alts := [], laidByText := true, laidKinds := [.data, .data], laidTests := true, laidLooks := .later }
def LightMirrorsCardSaid : Prop := Claim7.holds Tryd.pinned (.plain (OpenSpec.ofChange lightMirrorsSpec)) lightMirrorsCard

/-- THE TIED CARD OF 'outcroplaw18.LightOpens'. -/
def lightOpensCard : Claim7 := { stood := { row := lightOpensRow, standIns := [], harness := (true, "429941dd57fa4d6349020d2fe3138f9b42529edc62b1857250c4a0bf905b6708"), looks := false }, kinds := [], alts := [], laidByText := true, laidKinds := [.data, .data], laidTests := true, laidLooks := .later }
def LightOpensCardSaid : Prop := Claim7.holds Tryd.pinned (.plain (OpenSpec.ofChange lightOpensSpec)) lightOpensCard

/-- THE SECOND FORM's CARD OF 'outcroplaw18.LightFloods'. -/
def lightFloodsUptoCard : Claim7 := { stood := { row := lightFloodsUptoRow, standIns := [], harness := (true, "429941dd57fa4d6349020d2fe3138f9b42529edc62b1857250c4a0bf905b6708"), looks := false }, kinds := [], alts := [], laidByText := true, laidKinds := [.data, .data], laidTests := true, laidLooks := .later }
def LightFloodsUptoCardSaid : Prop := Claim7.holds Tryd.pinned (.plain (OpenSpec.upto lightFloodsSpec)) lightFloodsUptoCard

/-- THE SECOND FORM's CARD OF 'outcroplaw18.LightRefuses'. -/
def lightRefusesUptoCard : Claim7 := { stood := { row := lightRefusesUptoRow, standIns := [], harness := (true, "429941dd57fa4d6349020d2fe3138f9b42529edc62b1857250c4a0bf905b6708"), looks := false }, kinds := [], alts := [], laidByText := true, laidKinds := [.data, .data], laidTests := true, laidLooks := .later }
def LightRefusesUptoCardSaid : Prop := Claim7.holds Tryd.pinned (.plain (OpenSpec.upto lightRefusesSpec)) lightRefusesUptoCard

/-- THE SECOND FORM's CARD OF 'outcroplaw18.LightHolds'. -/
def lightHoldsUptoCard : Claim7 := { stood := { row := lightHoldsUptoRow, standIns := [], harness := (true, "429941dd57fa4d6349020d2fe3138f9b42529edc62b1857250c4a0bf905b6708"), looks := false }, kinds := [], alts := [], laidByText := true, laidKinds := [.data, .data], laidTests := true, laidLooks := .later }
def LightHoldsUptoCardSaid : Prop := Claim7.holds Tryd.pinned (.plain (OpenSpec.upto lightHoldsSpec)) lightHoldsUptoCard

/-- THE SECOND FORM's CARD OF 'outcroplaw18.LightAdds'. -/
def lightAddsUptoCard : Claim7 := { stood := { row := lightAddsUptoRow, standIns := [], harness := (true, "429941dd57fa4d6349020d2fe3138f9b42529edc62b1857250c4a0bf905b6708"), looks := false }, kinds := [], alts := [], laidByText := true, laidKinds := [.data, .data], laidTests := true, laidLooks := .later }
def LightAddsUptoCardSaid : Prop := Claim7.holds Tryd.pinned (.plain (OpenSpec.upto lightAddsSpec)) lightAddsUptoCard

/-- THE SECOND FORM's CARD OF 'outcroplaw18.LightMirrors'. -/
def lightMirrorsUptoCard : Claim7 := { stood := { row := lightMirrorsUptoRow, standIns := [], harness := (true, "429941dd57fa4d6349020d2fe3138f9b42529edc62b1857250c4a0bf905b6708"), looks := false }, kinds := [], alts := [], laidByText := true, laidKinds := [.data, .data], laidTests := true, laidLooks := .later }
def LightMirrorsUptoCardSaid : Prop := Claim7.holds Tryd.pinned (.plain (OpenSpec.upto lightMirrorsSpec)) lightMirrorsUptoCard

/-- THE SECOND FORM's CARD OF 'outcroplaw18.LightOpens'. -/
def lightOpensUptoCard : Claim7 := { stood := { row := lightOpensUptoRow, standIns := [], harness := (true, "429941dd57fa4d6349020d2fe3138f9b42529edc62b1857250c4a0bf905b6708"), looks := false }, kinds := [], alts := [], laidByText := true, laidKinds := [.data, .data], laidTests := true, laidLooks := .later }
def LightOpensUptoCardSaid : Prop := Claim7.holds Tryd.pinned (.plain (OpenSpec.upto lightOpensSpec)) lightOpensUptoCard
end Rows
end Go.Proofs.YtjeapaojbkicmaaDoor
