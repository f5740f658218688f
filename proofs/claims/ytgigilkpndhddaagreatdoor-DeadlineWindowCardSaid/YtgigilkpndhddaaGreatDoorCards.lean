/-
  DERIVED. GIVEN WITH THE SEED: THE CARDS: each row of YtgigilkpndhddaaGreatDoorRows.lean that lists a variable, with what it lists TIED to the program's text (the seventh form; the later family's looks); each row that meets fmt, with fmt's text TOLD by the authors' own Lean function (tested against real Go, not proved from fmt's source: count such statements apart). THE CARD IS WHAT COUNTS. Prove the row's statement (the work); the ties are given (YtgigilkpndhddaaGreatDoorTie.lean); close each card by the builder's one call (the guide's Derived/Test/ToyasCard.lean, 'card_holds'). Laid BY PROGRAM, IN A SANDBOX (cutbox-door.mjs). By AI agents, Wed Nov 11 2026. No macro, syntax, notation, axiom, sorry.
-/
import Derived.Test.YtgigilkpndhddaaGreatDoorRows
import GoSem.ClaimSeven
namespace Go.Proofs.YtgigilkpndhddaaGreatDoor
namespace Rows

/-- THE TIED CARD OF 'horariumlaw11.DeadlineNeeds'. -/
def deadlineNeedsCard : Claim7 := { stood := { row := deadlineNeedsRow, standIns := [], harness := (true, "f9dffa19d85a31b16a07ce1af856cec76c9d18d16fe26c21596e2c4d35f8e39c"), looks := true }, kinds := [], alts := [], laidByText := true, laidKinds := [.data, .data, .data], laidTests := true, laidLooks := .later }
def DeadlineNeedsCardSaid : Prop := Claim7.holds Tryz.pinned (.plain (OpenSpec.ofChange deadlineNeedsSpec)) deadlineNeedsCard

/-- THE TIED CARD OF 'horariumlaw11.DeadlineWindow'. -/
def deadlineWindowCard : Claim7 := { stood := { row := deadlineWindowRow, standIns := [], harness := (true, "f9dffa19d85a31b16a07ce1af856cec76c9d18d16fe26c21596e2c4d35f8e39c"), looks := true }, kinds := [], alts := [], laidByText := true, laidKinds := [.data, .data, .data], laidTests := true, laidLooks := .later }
def DeadlineWindowCardSaid : Prop := Claim7.holds Tryz.pinned (.plain (OpenSpec.ofChange deadlineWindowSpec)) deadlineWindowCard

/-- THE TIED CARD OF 'horariumlaw12.SchedApart'. -/
def schedApartCard : Claim7 := { stood := { row := schedApartRow, standIns := [], harness := (true, "f9dffa19d85a31b16a07ce1af856cec76c9d18d16fe26c21596e2c4d35f8e39c"), looks := true }, kinds := [], alts := [], laidByText := true, laidKinds := [.data, .data, .data], laidTests := true, laidLooks := .later }
def SchedApartCardSaid : Prop := Claim7.holds Tryz.pinned (.plain (OpenSpec.ofChange schedApartSpec)) schedApartCard

/-- THE SECOND FORM's CARD OF 'horariumlaw11.DeadlineNeeds'. -/
def deadlineNeedsUptoCard : Claim7 := { stood := { row := deadlineNeedsUptoRow, standIns := [], harness := (true, "f9dffa19d85a31b16a07ce1af856cec76c9d18d16fe26c21596e2c4d35f8e39c"), looks := true }, kinds := [], alts := [], laidByText := true, laidKinds := [.data, .data, .data], laidTests := true, laidLooks := .later }
def DeadlineNeedsUptoCardSaid : Prop := Claim7.holds Tryz.pinned (.plain (OpenSpec.upto deadlineNeedsSpec)) deadlineNeedsUptoCard

/-- THE SECOND FORM's CARD OF 'horariumlaw11.DeadlineWindow'. -/
def deadlineWindowUptoCard : Claim7 := { stood := { row := deadlineWindowUptoRow, standIns := [], harness := (true, "f9dffa19d85a31b16a07ce1af856cec76c9d18d16fe26c21596e2c4d35f8e39c"), looks := true }, kinds := [], alts := [], laidByText := true, laidKinds := [.data, .data, .data], laidTests := true, laidLooks := .later }
def DeadlineWindowUptoCardSaid : Prop := Claim7.holds Tryz.pinned (.plain (OpenSpec.upto deadlineWindowSpec)) deadlineWindowUptoCard

/-- THE SECOND FORM's CARD OF 'horariumlaw12.SchedApart'. -/
def schedApartUptoCard : Claim7 := { stood := { row := schedApartUptoRow, standIns := [], harness := (true, "f9dffa19d85a31b16a07ce1af856cec76c9d18d16fe26c21596e2c4d35f8e39c"), looks := true }, kinds := [], alts := [], laidByText := true, laidKinds := [.data, .data, .data], laidTests := true, laidLooks := .later }
def SchedApartUptoCardSaid : Prop := Claim7.holds Tryz.pinned (.plain (OpenSpec.upto schedApartSpec)) schedApartUptoCard
end Rows
end Go.Proofs.YtgigilkpndhddaaGreatDoor
