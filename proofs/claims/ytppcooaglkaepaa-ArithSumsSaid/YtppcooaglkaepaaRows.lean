/-
  No cell of these rows narrows 'for every input' (looked for: loops, veiled, ifaces, maps, wideKeys, modest, calm, conditions, laid).
  DERIVED. THE GIVEN ROWS OF THIS SEAT. 4 by the template 'for every input the law returns true; each argument reads behind the call as it read before'; 0 by the template 'total and deterministic' (their statements: YtppcooaglkaepaaTotals.lean).
  GIVEN WITH THE SEED: the statements are not yours to turn. If you find one false, say at which input.
  Laid BY PROGRAM, IN A SANDBOX (cutbox-rows.mjs): the forced cells as the released guide's own fill.sh prints them over the translation 61ebeeab018b52aa… (all of the seat's roots in one cut). By AI agents, Wed Nov 11 2026. No macro, syntax, notation, axiom, sorry.
-/
import Derived.Test.YtppcooaglkaepaaChecked
import GoSem.Claim
import GoSem.ClaimJoined
import GoSem.ClaimMapViews
import Derived.JoinedTies
import Derived.KernelRfl
namespace Go.Proofs.Ytppcooaglkaepaa
/- THE CELL 'sum', in the pinned program and in every row, IS THE sha256 OF THE DUMP (.gsa) THAT YtppcooaglkaepaaProg.lean LOADS. Nothing in Lean hashes anything: it is a label: what it is worth is what the hold of that sum in a sandbox is worth. -/
noncomputable def Try.pinned : Pinned := { name := "ytppcooaglkaepaa", sum := "61ebeeab018b52aad92cc803e15b899d5c2adc5efbe071aa0fd6918e78e87c2c", checked := Try.checked }
namespace Rows
def none {H : Type} : Left H := { results := [], args := [] }

/-- 'horariumlaw01.ArithSums': WHATEVER THE INPUT: true; the input reads as it did. -/
def arithSumsSpec : ChangeSpec := { name := "arithSums", fn := fun _ => fun
  | [d1, d2] => { results := [.lit (.bool true)], args := [d1, d2] }
  | _ => none }
def arithSumsRow : OpenClaim := { program := "ytppcooaglkaepaa", sum := "61ebeeab018b52aad92cc803e15b899d5c2adc5efbe071aa0fd6918e78e87c2c", func := "horarium/horariumlaw01.ArithSums", spec := "arithSums", apart := false }
def ArithSumsSaid : Prop := arithSumsRow.holds Try.pinned (OpenSpec.ofChange arithSumsSpec)

/-- ITS FALSE NEIGHBOUR: 'it returns false'. Refute it at one input. -/
def arithSumsWrong : ChangeSpec := { name := "arithSums", fn := fun _ => fun
  | [d1, d2] => { results := [.lit (.bool false)], args := [d1, d2] }
  | _ => none }
def ArithSumsWrongFalsely : Prop := arithSumsRow.holds Try.pinned (OpenSpec.ofChange arithSumsWrong)

/-- 'horariumlaw01.ArithGcd': WHATEVER THE INPUT: true; the input reads as it did. -/
def arithGcdSpec : ChangeSpec := { name := "arithGcd", fn := fun _ => fun
  | [d1, d2] => { results := [.lit (.bool true)], args := [d1, d2] }
  | _ => none }
def arithGcdRow : OpenClaim := { program := "ytppcooaglkaepaa", sum := "61ebeeab018b52aad92cc803e15b899d5c2adc5efbe071aa0fd6918e78e87c2c", func := "horarium/horariumlaw01.ArithGcd", spec := "arithGcd", apart := false }
def ArithGcdSaid : Prop := arithGcdRow.holds Try.pinned (OpenSpec.ofChange arithGcdSpec)

/-- ITS FALSE NEIGHBOUR: 'it returns false'. Refute it at one input. -/
def arithGcdWrong : ChangeSpec := { name := "arithGcd", fn := fun _ => fun
  | [d1, d2] => { results := [.lit (.bool false)], args := [d1, d2] }
  | _ => none }
def ArithGcdWrongFalsely : Prop := arithGcdRow.holds Try.pinned (OpenSpec.ofChange arithGcdWrong)

/-- 'horariumlaw01.ArithLcm': WHATEVER THE INPUT: true; the input reads as it did. -/
def arithLcmSpec : ChangeSpec := { name := "arithLcm", fn := fun _ => fun
  | [d] => { results := [.lit (.bool true)], args := [d] }
  | _ => none }
def arithLcmRow : OpenClaim := { program := "ytppcooaglkaepaa", sum := "61ebeeab018b52aad92cc803e15b899d5c2adc5efbe071aa0fd6918e78e87c2c", func := "horarium/horariumlaw01.ArithLcm", spec := "arithLcm", apart := false }
def ArithLcmSaid : Prop := arithLcmRow.holds Try.pinned (OpenSpec.ofChange arithLcmSpec)

/-- ITS FALSE NEIGHBOUR: 'it returns false'. Refute it at one input. -/
def arithLcmWrong : ChangeSpec := { name := "arithLcm", fn := fun _ => fun
  | [d] => { results := [.lit (.bool false)], args := [d] }
  | _ => none }
def ArithLcmWrongFalsely : Prop := arithLcmRow.holds Try.pinned (OpenSpec.ofChange arithLcmWrong)

/-- 'horariumlaw01.ArithFloor': WHATEVER THE INPUT: true; the input reads as it did. -/
def arithFloorSpec : ChangeSpec := { name := "arithFloor", fn := fun _ => fun
  | [d1, d2] => { results := [.lit (.bool true)], args := [d1, d2] }
  | _ => none }
def arithFloorRow : OpenClaim := { program := "ytppcooaglkaepaa", sum := "61ebeeab018b52aad92cc803e15b899d5c2adc5efbe071aa0fd6918e78e87c2c", func := "horarium/horariumlaw01.ArithFloor", spec := "arithFloor", apart := false }
def ArithFloorSaid : Prop := arithFloorRow.holds Try.pinned (OpenSpec.ofChange arithFloorSpec)

/-- ITS FALSE NEIGHBOUR: 'it returns false'. Refute it at one input. -/
def arithFloorWrong : ChangeSpec := { name := "arithFloor", fn := fun _ => fun
  | [d1, d2] => { results := [.lit (.bool false)], args := [d1, d2] }
  | _ => none }
def ArithFloorWrongFalsely : Prop := arithFloorRow.holds Try.pinned (OpenSpec.ofChange arithFloorWrong)

/- THE SECOND FORM. 'bulk': how many values and letters a reading holds, each counted each time it is reached (what is shared counts as often as it is met; a slice's spare places count too). A statement '..UptoSaid' is the law's where the arguments, and the package variables that the reading takes, are together of bulk at most 1048576: NARROWER than '..Said'. Prove '..Said' where nothing that the law and all that it calls make is longer than what came in: it says more and counts as full. Else prove '..UptoSaid'. A law counts once. -/
mutual
def uptoBulk {H : Type} : DataW H → Nat
  | .lit (.string bytes) => bytes.length + 1
  | .lit _ => 1
  | .nil => 1
  | .ptr d => uptoBulk d + 1
  | .slice elems spare => uptoBulkAll elems + uptoBulkAll spare + 1
  | .agg parts => uptoBulkAll parts + 1
  | .iface _ d => uptoBulk d + 1
  | .map entries => uptoBulkEntries entries + 1
  | .held _ => 1
def uptoBulkAll {H : Type} : List (DataW H) → Nat
  | [] => 0
  | d :: r => uptoBulk d + uptoBulkAll r
def uptoBulkEntries {H : Type} : List (Lit × DataW H) → Nat
  | [] => 0
  | x :: r => uptoBulkEntry x + uptoBulkEntries r
def uptoBulkEntry {H : Type} : Lit × DataW H → Nat
  | (.string bytes, d) => bytes.length + uptoBulk d + 1
  | (_, d) => uptoBulk d + 1
 end
def uptoSmall : (H : Type) → List (DataW H) → Bool := fun _ ds => decide (uptoBulkAll ds ≤ 1048576)
def OpenSpec.upto (s : _root_.Go.ChangeSpec) : _root_.Go.OpenSpec := { _root_.Go.OpenSpec.ofChange s with cond := some uptoSmall }

/-- 'horariumlaw01.ArithSums', WHERE WHAT IT READS IS OF BULK AT MOST 1048576: true; the input reads as it did. -/
def arithSumsUptoRow : OpenClaim := { program := "ytppcooaglkaepaa", sum := "61ebeeab018b52aad92cc803e15b899d5c2adc5efbe071aa0fd6918e78e87c2c", func := "horarium/horariumlaw01.ArithSums", spec := "arithSums", apart := false, narrowed := true }
def ArithSumsUptoSaid : Prop := arithSumsUptoRow.holds Try.pinned (OpenSpec.upto arithSumsSpec)

/-- 'horariumlaw01.ArithGcd', WHERE WHAT IT READS IS OF BULK AT MOST 1048576: true; the input reads as it did. -/
def arithGcdUptoRow : OpenClaim := { program := "ytppcooaglkaepaa", sum := "61ebeeab018b52aad92cc803e15b899d5c2adc5efbe071aa0fd6918e78e87c2c", func := "horarium/horariumlaw01.ArithGcd", spec := "arithGcd", apart := false, narrowed := true }
def ArithGcdUptoSaid : Prop := arithGcdUptoRow.holds Try.pinned (OpenSpec.upto arithGcdSpec)

/-- 'horariumlaw01.ArithLcm', WHERE WHAT IT READS IS OF BULK AT MOST 1048576: true; the input reads as it did. -/
def arithLcmUptoRow : OpenClaim := { program := "ytppcooaglkaepaa", sum := "61ebeeab018b52aad92cc803e15b899d5c2adc5efbe071aa0fd6918e78e87c2c", func := "horarium/horariumlaw01.ArithLcm", spec := "arithLcm", apart := false, narrowed := true }
def ArithLcmUptoSaid : Prop := arithLcmUptoRow.holds Try.pinned (OpenSpec.upto arithLcmSpec)

/-- 'horariumlaw01.ArithFloor', WHERE WHAT IT READS IS OF BULK AT MOST 1048576: true; the input reads as it did. -/
def arithFloorUptoRow : OpenClaim := { program := "ytppcooaglkaepaa", sum := "61ebeeab018b52aad92cc803e15b899d5c2adc5efbe071aa0fd6918e78e87c2c", func := "horarium/horariumlaw01.ArithFloor", spec := "arithFloor", apart := false, narrowed := true }
def ArithFloorUptoSaid : Prop := arithFloorUptoRow.holds Try.pinned (OpenSpec.upto arithFloorSpec)

end Rows
end Go.Proofs.Ytppcooaglkaepaa
