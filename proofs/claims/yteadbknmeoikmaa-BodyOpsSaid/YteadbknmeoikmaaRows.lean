/-
  NARROWER THAN 'FOR EVERY INPUT', by the rows' own cells (each row's printed sentence says how): BodyValues: loops.
  DERIVED. THE GIVEN ROWS OF THIS SEAT. 2 by the template 'for every input the law returns true; each argument reads behind the call as it read before'; 0 by the template 'total and deterministic' (their statements: YteadbknmeoikmaaTotals.lean).
  GIVEN WITH THE SEED: the statements are not yours to turn. If you find one false, say at which input.
  Laid BY PROGRAM, IN A SANDBOX (cutbox-rows.mjs): the forced cells as the released guide's own fill.sh prints them over the translation 95388a61e5316d00… (all of the seat's roots in one cut). By AI agents, Wed Nov 11 2026. No macro, syntax, notation, axiom, sorry.
-/
import Derived.Test.YteadbknmeoikmaaChecked
import GoSem.Claim
import GoSem.ClaimJoined
import GoSem.ClaimMapViews
import Derived.JoinedTies
import Derived.KernelRfl
namespace Go.Proofs.Yteadbknmeoikmaa
/- THE CELL 'sum', in the pinned program and in every row, IS THE sha256 OF THE DUMP (.gsa) THAT YteadbknmeoikmaaProg.lean LOADS. Nothing in Lean hashes anything: it is a label: what it is worth is what the hold of that sum in a sandbox is worth. -/
noncomputable def Try.pinned : Pinned := { name := "yteadbknmeoikmaa", sum := "95388a61e5316d005f1bfc1f35122144d6cf5a818c4c247db3eb9d3765fad443", checked := Try.checked }
namespace Rows
def none {H : Type} : Left H := { results := [], args := [] }

/-- 'horariumlaw05.BodyOps': WHATEVER THE INPUT: true; the input reads as it did. -/
def bodyOpsSpec : ChangeSpec := { name := "bodyOps", fn := fun _ => fun
  | [d1, d2, d3] => { results := [.lit (.bool true)], args := [d1, d2, d3] }
  | _ => none }
def bodyOpsRow : OpenClaim := { program := "yteadbknmeoikmaa", sum := "95388a61e5316d005f1bfc1f35122144d6cf5a818c4c247db3eb9d3765fad443", func := "horarium/horariumlaw05.BodyOps", spec := "bodyOps", apart := false }
def BodyOpsSaid : Prop := bodyOpsRow.holds Try.pinned (OpenSpec.ofChange bodyOpsSpec)

/-- ITS FALSE NEIGHBOUR: 'it returns false'. Refute it at one input. -/
def bodyOpsWrong : ChangeSpec := { name := "bodyOps", fn := fun _ => fun
  | [d1, d2, d3] => { results := [.lit (.bool false)], args := [d1, d2, d3] }
  | _ => none }
def BodyOpsWrongFalsely : Prop := bodyOpsRow.holds Try.pinned (OpenSpec.ofChange bodyOpsWrong)

/-- 'horariumlaw05.BodyValues': WHATEVER THE INPUT: true; the input reads as it did. -/
def bodyValuesSpec : ChangeSpec := { name := "bodyValues", fn := fun _ => fun
  | [d1, d2, d3] => { results := [.lit (.bool true)], args := [d1, d2, d3] }
  | _ => none }
def bodyValuesRow : OpenClaim := { program := "yteadbknmeoikmaa", sum := "95388a61e5316d005f1bfc1f35122144d6cf5a818c4c247db3eb9d3765fad443", func := "horarium/horariumlaw05.BodyValues", spec := "bodyValues", unfollowed := true, recurses := true, loops := true, apart := false }
def BodyValuesSaid : Prop := bodyValuesRow.holds Try.pinned (OpenSpec.ofChange bodyValuesSpec)

/-- ITS FALSE NEIGHBOUR: 'it returns false'. Refute it at one input. -/
def bodyValuesWrong : ChangeSpec := { name := "bodyValues", fn := fun _ => fun
  | [d1, d2, d3] => { results := [.lit (.bool false)], args := [d1, d2, d3] }
  | _ => none }
def BodyValuesWrongFalsely : Prop := bodyValuesRow.holds Try.pinned (OpenSpec.ofChange bodyValuesWrong)

/- THE SECOND FORM. 'bulk': how many values and letters a reading holds, each counted each time it is reached (what is shared counts as often as it is met; a slice's spare places count too). A statement '..UptoSaid' is the law's where the arguments, and the package variables that the reading takes, are together of bulk at most 1048576: NARROWER than '..Said'. Prove '..Said' where nothing that the law and all that it calls make is longer than what came in: it says more and counts as full. Else prove '..UptoSaid'. A law counts once. -/
mutual
def uptoBulk {H : Type} : DataW H → Nat
  | .lit (.string bytes) => bytes.length + 1
  | .lit _ => 1
  | .nil => 1
  | .ptr d => uptoBulk d + 1
  | .slice elems spare => uptoBulkAll elems + uptoBulkAll spare + 1
  | .agg parts => uptoBulkAll parts + 1
  | .iface _ d => uptoBulk d + 1
  | .map entries => uptoBulkEntries entries + 1
  | .held _ => 1
def uptoBulkAll {H : Type} : List (DataW H) → Nat
  | [] => 0
  | d :: r => uptoBulk d + uptoBulkAll r
def uptoBulkEntries {H : Type} : List (Lit × DataW H) → Nat
  | [] => 0
  | x :: r => uptoBulkEntry x + uptoBulkEntries r
def uptoBulkEntry {H : Type} : Lit × DataW H → Nat
  | (.string bytes, d) => bytes.length + uptoBulk d + 1
  | (_, d) => uptoBulk d + 1
 end
def uptoSmall : (H : Type) → List (DataW H) → Bool := fun _ ds => decide (uptoBulkAll ds ≤ 1048576)
def OpenSpec.upto (s : _root_.Go.ChangeSpec) : _root_.Go.OpenSpec := { _root_.Go.OpenSpec.ofChange s with cond := some uptoSmall }

/-- 'horariumlaw05.BodyOps', WHERE WHAT IT READS IS OF BULK AT MOST 1048576: true; the input reads as it did. -/
def bodyOpsUptoRow : OpenClaim := { program := "yteadbknmeoikmaa", sum := "95388a61e5316d005f1bfc1f35122144d6cf5a818c4c247db3eb9d3765fad443", func := "horarium/horariumlaw05.BodyOps", spec := "bodyOps", apart := false, narrowed := true }
def BodyOpsUptoSaid : Prop := bodyOpsUptoRow.holds Try.pinned (OpenSpec.upto bodyOpsSpec)

/-- 'horariumlaw05.BodyValues', WHERE WHAT IT READS IS OF BULK AT MOST 1048576: true; the input reads as it did. -/
def bodyValuesUptoRow : OpenClaim := { program := "yteadbknmeoikmaa", sum := "95388a61e5316d005f1bfc1f35122144d6cf5a818c4c247db3eb9d3765fad443", func := "horarium/horariumlaw05.BodyValues", spec := "bodyValues", unfollowed := true, recurses := true, loops := true, apart := false, narrowed := true }
def BodyValuesUptoSaid : Prop := bodyValuesUptoRow.holds Try.pinned (OpenSpec.upto bodyValuesSpec)

end Rows
end Go.Proofs.Yteadbknmeoikmaa
