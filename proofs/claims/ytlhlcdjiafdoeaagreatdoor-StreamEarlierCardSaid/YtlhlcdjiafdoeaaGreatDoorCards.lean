/-
  DERIVED. GIVEN WITH THE SEED: THE CARDS: each row of YtlhlcdjiafdoeaaGreatDoorRows.lean that lists a variable, with what it lists TIED to the program's text (the seventh form; the later family's looks); each row that meets fmt, with fmt's text TOLD by the authors' own Lean function (tested against real Go, not proved from fmt's source: count such statements apart). THE CARD IS WHAT COUNTS. Prove the row's statement (the work); the ties are given (YtlhlcdjiafdoeaaGreatDoorTie.lean); close each card by the builder's one call (the guide's Derived/Test/ToyasCard.lean, 'card_holds'). Laid BY PROGRAM, IN A SANDBOX (cutbox-door.mjs). By AI agents, Wed Nov 11 2026. No macro, syntax, notation, axiom, sorry.
-/
import Derived.Test.YtlhlcdjiafdoeaaGreatDoorRows
import GoSem.ClaimSeven
namespace Go.Proofs.YtlhlcdjiafdoeaaGreatDoor
namespace Rows

/-- THE TIED CARD OF 'horariumlaw10.StreamValues'. -/
def streamValuesCard : Claim7 := { stood := { row := streamValuesRow, standIns := [], harness := (true, "22c4f7c33838b4de1a2706d2041484240e68d6000817ba1eab29eb9f47ac55af"), looks := true }, kinds := [], alts := [], laidByText := true, laidKinds := [.data, .data, .data], laidTests := true, laidLooks := .later }
def StreamValuesCardSaid : Prop := Claim7.holds Tryz.pinned (.plain (OpenSpec.ofChange streamValuesSpec)) streamValuesCard

/-- THE TIED CARD OF 'horariumlaw10.StreamEarlier'. -/
def streamEarlierCard : Claim7 := { stood := { row := streamEarlierRow, standIns := [], harness := (true, "22c4f7c33838b4de1a2706d2041484240e68d6000817ba1eab29eb9f47ac55af"), looks := true }, kinds := [], alts := [], laidByText := true, laidKinds := [.data, .data, .data], laidTests := true, laidLooks := .later }
def StreamEarlierCardSaid : Prop := Claim7.holds Tryz.pinned (.plain (OpenSpec.ofChange streamEarlierSpec)) streamEarlierCard

/-- THE SECOND FORM's CARD OF 'horariumlaw10.StreamValues'. -/
def streamValuesUptoCard : Claim7 := { stood := { row := streamValuesUptoRow, standIns := [], harness := (true, "22c4f7c33838b4de1a2706d2041484240e68d6000817ba1eab29eb9f47ac55af"), looks := true }, kinds := [], alts := [], laidByText := true, laidKinds := [.data, .data, .data], laidTests := true, laidLooks := .later }
def StreamValuesUptoCardSaid : Prop := Claim7.holds Tryz.pinned (.plain (OpenSpec.upto streamValuesSpec)) streamValuesUptoCard

/-- THE SECOND FORM's CARD OF 'horariumlaw10.StreamEarlier'. -/
def streamEarlierUptoCard : Claim7 := { stood := { row := streamEarlierUptoRow, standIns := [], harness := (true, "22c4f7c33838b4de1a2706d2041484240e68d6000817ba1eab29eb9f47ac55af"), looks := true }, kinds := [], alts := [], laidByText := true, laidKinds := [.data, .data, .data], laidTests := true, laidLooks := .later }
def StreamEarlierUptoCardSaid : Prop := Claim7.holds Tryz.pinned (.plain (OpenSpec.upto streamEarlierSpec)) streamEarlierUptoCard
end Rows
end Go.Proofs.YtlhlcdjiafdoeaaGreatDoor
