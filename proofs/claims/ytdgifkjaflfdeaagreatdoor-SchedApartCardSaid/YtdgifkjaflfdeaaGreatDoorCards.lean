/-
  DERIVED. GIVEN WITH THE SEED: THE CARDS: each row of YtdgifkjaflfdeaaGreatDoorRows.lean that lists a variable, with what it lists TIED to the program's text (the seventh form; the later family's looks); each row that meets fmt, with fmt's text TOLD by the authors' own Lean function (tested against real Go, not proved from fmt's source: count such statements apart). THE CARD IS WHAT COUNTS. Prove the row's statement (the work); the ties are given (YtdgifkjaflfdeaaGreatDoorTie.lean); close each card by the builder's one call (the guide's Derived/Test/ToyasCard.lean, 'card_holds'). Laid BY PROGRAM, IN A SANDBOX (cutbox-door.mjs). By AI agents, Wed Nov 11 2026. No macro, syntax, notation, axiom, sorry.
-/
import Derived.Test.YtdgifkjaflfdeaaGreatDoorRows
import GoSem.ClaimSeven
namespace Go.Proofs.YtdgifkjaflfdeaaGreatDoor
namespace Rows

/-- THE TIED CARD OF 'horariumlaw10.StreamValues'. -/
def streamValuesCard : Claim7 := { stood := { row := streamValuesRow, standIns := [], harness := (true, "1c943a61f399a0d99eb5cf4df6e7bb7d7fa6013001d83848f5ecd4eccf297b22"), looks := true }, kinds := [], alts := [], laidByText := true, laidKinds := [.data, .data, .data], laidTests := true, laidLooks := .later }
def StreamValuesCardSaid : Prop := Claim7.holds Tryz.pinned (.plain (OpenSpec.ofChange streamValuesSpec)) streamValuesCard

/-- THE TIED CARD OF 'horariumlaw11.DeadlineJobs'. -/
def deadlineJobsCard : Claim7 := { stood := { row := deadlineJobsRow, standIns := [], harness := (true, "1c943a61f399a0d99eb5cf4df6e7bb7d7fa6013001d83848f5ecd4eccf297b22"), looks := true }, kinds := [], alts := [], laidByText := true, laidKinds := [.data, .data, .data], laidTests := true, laidLooks := .later }
def DeadlineJobsCardSaid : Prop := Claim7.holds Tryz.pinned (.plain (OpenSpec.ofChange deadlineJobsSpec)) deadlineJobsCard

/-- THE TIED CARD OF 'horariumlaw12.SchedApart'. -/
def schedApartCard : Claim7 := { stood := { row := schedApartRow, standIns := [], harness := (true, "1c943a61f399a0d99eb5cf4df6e7bb7d7fa6013001d83848f5ecd4eccf297b22"), looks := true }, kinds := [], alts := [], laidByText := true, laidKinds := [.data, .data, .data], laidTests := true, laidLooks := .later }
def SchedApartCardSaid : Prop := Claim7.holds Tryz.pinned (.plain (OpenSpec.ofChange schedApartSpec)) schedApartCard

/-- THE TIED CARD OF 'horariumlaw16.RunArgs'. -/
def runArgsCard : Claim7 := { stood := { row := runArgsRow, standIns := [], harness := (true, "1c943a61f399a0d99eb5cf4df6e7bb7d7fa6013001d83848f5ecd4eccf297b22"), looks := true }, kinds := [], alts := [], laidByText := true, laidKinds := [.data, .data, .data], laidTests := true, laidLooks := .later }
def RunArgsCardSaid : Prop := Claim7.holds Tryz.pinned (.plain (OpenSpec.ofChange runArgsSpec)) runArgsCard

/-- THE SECOND FORM's CARD OF 'horariumlaw10.StreamValues'. -/
def streamValuesUptoCard : Claim7 := { stood := { row := streamValuesUptoRow, standIns := [], harness := (true, "1c943a61f399a0d99eb5cf4df6e7bb7d7fa6013001d83848f5ecd4eccf297b22"), looks := true }, kinds := [], alts := [], laidByText := true, laidKinds := [.data, .data, .data], laidTests := true, laidLooks := .later }
def StreamValuesUptoCardSaid : Prop := Claim7.holds Tryz.pinned (.plain (OpenSpec.upto streamValuesSpec)) streamValuesUptoCard

/-- THE SECOND FORM's CARD OF 'horariumlaw11.DeadlineJobs'. -/
def deadlineJobsUptoCard : Claim7 := { stood := { row := deadlineJobsUptoRow, standIns := [], harness := (true, "1c943a61f399a0d99eb5cf4df6e7bb7d7fa6013001d83848f5ecd4eccf297b22"), looks := true }, kinds := [], alts := [], laidByText := true, laidKinds := [.data, .data, .data], laidTests := true, laidLooks := .later }
def DeadlineJobsUptoCardSaid : Prop := Claim7.holds Tryz.pinned (.plain (OpenSpec.upto deadlineJobsSpec)) deadlineJobsUptoCard

/-- THE SECOND FORM's CARD OF 'horariumlaw12.SchedApart'. -/
def schedApartUptoCard : Claim7 := { stood := { row := schedApartUptoRow, standIns := [], harness := (true, "1c943a61f399a0d99eb5cf4df6e7bb7d7fa6013001d83848f5ecd4eccf297b22"), looks := true }, kinds := [], alts := [], laidByText := true, laidKinds := [.data, .data, .data], laidTests := true, laidLooks := .later }
def SchedApartUptoCardSaid : Prop := Claim7.holds Tryz.pinned (.plain (OpenSpec.upto schedApartSpec)) schedApartUptoCard

/-- THE SECOND FORM's CARD OF 'horariumlaw16.RunArgs'. -/
def runArgsUptoCard : Claim7 := { stood := { row := runArgsUptoRow, standIns := [], harness := (true, "1c943a61f399a0d99eb5cf4df6e7bb7d7fa6013001d83848f5ecd4eccf297b22"), looks := true }, kinds := [], alts := [], laidByText := true, laidKinds := [.data, .data, .data], laidTests := true, laidLooks := .later }
def RunArgsUptoCardSaid : Prop := Claim7.holds Tryz.pinned (.plain (OpenSpec.upto runArgsSpec)) runArgsUptoCard
end Rows
end Go.Proofs.YtdgifkjaflfdeaaGreatDoor
