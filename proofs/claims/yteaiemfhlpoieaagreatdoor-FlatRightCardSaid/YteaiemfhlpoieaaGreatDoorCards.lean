/-
  DERIVED. GIVEN WITH THE SEED: THE CARDS: each row of YteaiemfhlpoieaaGreatDoorRows.lean that lists a variable, with what it lists TIED to the program's text (the seventh form; the later family's looks); each row that meets fmt, with fmt's text TOLD by the authors' own Lean function (tested against real Go, not proved from fmt's source: count such statements apart). THE CARD IS WHAT COUNTS. Prove the row's statement (the work); the ties are given (YteaiemfhlpoieaaGreatDoorTie.lean); close each card by the builder's one call (the guide's Derived/Test/ToyasCard.lean, 'card_holds'). Laid BY PROGRAM, IN A SANDBOX (cutbox-door.mjs). By AI agents, Wed Nov 11 2026. No macro, syntax, notation, axiom, sorry.
-/
import Derived.Test.YteaiemfhlpoieaaGreatDoorRows
import GoSem.ClaimSeven
namespace Go.Proofs.YteaiemfhlpoieaaGreatDoor
namespace Rows

/-- THE TIED CARD OF 'horariumlaw08.FlatMakes'. -/
def flatMakesCard : Claim7 := { stood := { row := flatMakesRow, standIns := [], harness := (true, "c8fd6ef3779224d2fa2faa89456f7d406e90af77e0d6f5380e73152078c9a8bc"), looks := false }, kinds := [], alts := [], laidByText := true, laidKinds := [.data, .data, .data], laidTests := true, laidLooks := .later }
def FlatMakesCardSaid : Prop := Claim7.holds Tryz.pinned (.plain (OpenSpec.ofChange flatMakesSpec)) flatMakesCard

/-- THE TIED CARD OF 'horariumlaw08.FlatRight'. -/
def flatRightCard : Claim7 := { stood := { row := flatRightRow, standIns := [], harness := (true, "c8fd6ef3779224d2fa2faa89456f7d406e90af77e0d6f5380e73152078c9a8bc"), looks := false }, kinds := [], alts := [], laidByText := true, laidKinds := [.data, .data, .data], laidTests := true, laidLooks := .later }
def FlatRightCardSaid : Prop := Claim7.holds Tryz.pinned (.plain (OpenSpec.ofChange flatRightSpec)) flatRightCard

/-- THE SECOND FORM's CARD OF 'horariumlaw08.FlatMakes'. -/
def flatMakesUptoCard : Claim7 := { stood := { row := flatMakesUptoRow, standIns := [], harness := (true, "c8fd6ef3779224d2fa2faa89456f7d406e90af77e0d6f5380e73152078c9a8bc"), looks := false }, kinds := [], alts := [], laidByText := true, laidKinds := [.data, .data, .data], laidTests := true, laidLooks := .later }
def FlatMakesUptoCardSaid : Prop := Claim7.holds Tryz.pinned (.plain (OpenSpec.upto flatMakesSpec)) flatMakesUptoCard

/-- THE SECOND FORM's CARD OF 'horariumlaw08.FlatRight'. -/
def flatRightUptoCard : Claim7 := { stood := { row := flatRightUptoRow, standIns := [], harness := (true, "c8fd6ef3779224d2fa2faa89456f7d406e90af77e0d6f5380e73152078c9a8bc"), looks := false }, kinds := [], alts := [], laidByText := true, laidKinds := [.data, .data, .data], laidTests := true, laidLooks := .later }
def FlatRightUptoCardSaid : Prop := Claim7.holds Tryz.pinned (.plain (OpenSpec.upto flatRightSpec)) flatRightUptoCard
end Rows
end Go.Proofs.YteaiemfhlpoieaaGreatDoor
