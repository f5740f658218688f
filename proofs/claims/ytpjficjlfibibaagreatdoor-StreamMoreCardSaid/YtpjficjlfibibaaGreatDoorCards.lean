/-
  DERIVED. GIVEN WITH THE SEED: THE CARDS: each row of YtpjficjlfibibaaGreatDoorRows.lean that lists a variable, with what it lists TIED to the program's text (the seventh form; the later family's looks); each row that meets fmt, with fmt's text TOLD by the authors' own Lean function (tested against real Go, not proved from fmt's source: count such statements apart). THE CARD IS WHAT COUNTS. Prove the row's statement (the work); the ties are given (YtpjficjlfibibaaGreatDoorTie.lean); close each card by the builder's one call (the guide's Derived/Test/ToyasCard.lean, 'card_holds'). Laid BY PROGRAM, IN A SANDBOX (cutbox-door.mjs). By AI agents, Wed Nov 11 2026. No macro, syntax, notation, axiom, sorry.
-/
import Derived.Test.YtpjficjlfibibaaGreatDoorRows
import GoSem.ClaimSeven
namespace Go.Proofs.YtpjficjlfibibaaGreatDoor
namespace Rows

/-- THE TIED CARD OF 'horariumlaw10.StreamMore'. -/
def streamMoreCard : Claim7 := { stood := { row := streamMoreRow, standIns := [], harness := (true, "dd00ed029ca2895a318cd5a703081546ec00b48d907afee9326c451e133d39fa"), looks := true }, kinds := [], alts := [], laidByText := true, laidKinds := [.data, .data, .data], laidTests := true, laidLooks := .later }
def StreamMoreCardSaid : Prop := Claim7.holds Tryz.pinned (.plain (OpenSpec.ofChange streamMoreSpec)) streamMoreCard

/-- THE TIED CARD OF 'horariumlaw10.StreamEarlier'. -/
def streamEarlierCard : Claim7 := { stood := { row := streamEarlierRow, standIns := [], harness := (true, "dd00ed029ca2895a318cd5a703081546ec00b48d907afee9326c451e133d39fa"), looks := true }, kinds := [], alts := [], laidByText := true, laidKinds := [.data, .data, .data], laidTests := true, laidLooks := .later }
def StreamEarlierCardSaid : Prop := Claim7.holds Tryz.pinned (.plain (OpenSpec.ofChange streamEarlierSpec)) streamEarlierCard

/-- THE TIED CARD OF 'horariumlaw11.DeadlineNeeds'. -/
def deadlineNeedsCard : Claim7 := { stood := { row := deadlineNeedsRow, standIns := [], harness := (true, "dd00ed029ca2895a318cd5a703081546ec00b48d907afee9326c451e133d39fa"), looks := true }, kinds := [], alts := [], laidByText := true, laidKinds := [.data, .data, .data], laidTests := true, laidLooks := .later }
def DeadlineNeedsCardSaid : Prop := Claim7.holds Tryz.pinned (.plain (OpenSpec.ofChange deadlineNeedsSpec)) deadlineNeedsCard

/-- THE SECOND FORM's CARD OF 'horariumlaw10.StreamMore'. -/
def streamMoreUptoCard : Claim7 := { stood := { row := streamMoreUptoRow, standIns := [], harness := (true, "dd00ed029ca2895a318cd5a703081546ec00b48d907afee9326c451e133d39fa"), looks := true }, kinds := [], alts := [], laidByText := true, laidKinds := [.data, .data, .data], laidTests := true, laidLooks := .later }
def StreamMoreUptoCardSaid : Prop := Claim7.holds Tryz.pinned (.plain (OpenSpec.upto streamMoreSpec)) streamMoreUptoCard

/-- THE SECOND FORM's CARD OF 'horariumlaw10.StreamEarlier'. -/
def streamEarlierUptoCard : Claim7 := { stood := { row := streamEarlierUptoRow, standIns := [], harness := (true, "dd00ed029ca2895a318cd5a703081546ec00b48d907afee9326c451e133d39fa"), looks := true }, kinds := [], alts := [], laidByText := true, laidKinds := [.data, .data, .data], laidTests := true, laidLooks := .later }
def StreamEarlierUptoCardSaid : Prop := Claim7.holds Tryz.pinned (.plain (OpenSpec.upto streamEarlierSpec)) streamEarlierUptoCard

/-- THE SECOND FORM's CARD OF 'horariumlaw11.DeadlineNeeds'. -/
def deadlineNeedsUptoCard : Claim7 := { stood := { row := deadlineNeedsUptoRow, standIns := [], harness := (true, "dd00ed029ca2895a318cd5a703081546ec00b48d907afee9326c451e133d39fa"), looks := true }, kinds := [], alts := [], laidByText := true, laidKinds := [.data, .data, .data], laidTests := true, laidLooks := .later }
def DeadlineNeedsUptoCardSaid : Prop := Claim7.holds Tryz.pinned (.plain (OpenSpec.upto deadlineNeedsSpec)) deadlineNeedsUptoCard
end Rows
end Go.Proofs.YtpjficjlfibibaaGreatDoor
