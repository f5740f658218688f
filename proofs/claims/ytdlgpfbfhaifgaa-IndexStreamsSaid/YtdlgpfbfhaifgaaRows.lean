/-
  No cell of these rows narrows 'for every input' (looked for: loops, veiled, ifaces, maps, wideKeys, modest, calm, conditions, laid).
  DERIVED. THE GIVEN ROWS OF THIS SEAT. 4 by the template 'for every input the law returns true; each argument reads behind the call as it read before'; 0 by the template 'total and deterministic' (their statements: YtdlgpfbfhaifgaaTotals.lean).
  GIVEN WITH THE SEED: the statements are not yours to turn. If you find one false, say at which input.
  Laid BY PROGRAM, IN A SANDBOX (cutbox-rows.mjs): the forced cells as the released guide's own fill.sh prints them over the translation 5c58c8ef64e44530… (all of the seat's roots in one cut). By AI agents, Wed Nov 11 2026. No macro, syntax, notation, axiom, sorry.
-/
import Derived.Test.YtdlgpfbfhaifgaaChecked
import GoSem.Claim
import GoSem.ClaimJoined
import GoSem.ClaimMapViews
import Derived.JoinedTies
import Derived.KernelRfl
namespace Go.Proofs.Ytdlgpfbfhaifgaa
/- THE CELL 'sum', in the pinned program and in every row, IS THE sha256 OF THE DUMP (.gsa) THAT YtdlgpfbfhaifgaaProg.lean LOADS. Nothing in Lean hashes anything: it is a label: what it is worth is what the hold of that sum in a sandbox is worth. -/
noncomputable def Try.pinned : Pinned := { name := "ytdlgpfbfhaifgaa", sum := "5c58c8ef64e445301b11d7f5cd37cc2a9d75affa4d62445905a90c535a96ff20", checked := Try.checked }
namespace Rows
def none {H : Type} : Left H := { results := [], args := [] }

/-- 'horariumlaw07.IndexJoins': WHATEVER THE INPUT: true; the input reads as it did. -/
def indexJoinsSpec : ChangeSpec := { name := "indexJoins", fn := fun _ => fun
  | [d1, d2, d3] => { results := [.lit (.bool true)], args := [d1, d2, d3] }
  | _ => none }
def indexJoinsRow : OpenClaim := { program := "ytdlgpfbfhaifgaa", sum := "5c58c8ef64e445301b11d7f5cd37cc2a9d75affa4d62445905a90c535a96ff20", func := "horarium/horariumlaw07.IndexJoins", spec := "indexJoins", unfollowed := true, recurses := true, apart := false }
def IndexJoinsSaid : Prop := indexJoinsRow.holds Try.pinned (OpenSpec.ofChange indexJoinsSpec)

/-- ITS FALSE NEIGHBOUR: 'it returns false'. Refute it at one input. -/
def indexJoinsWrong : ChangeSpec := { name := "indexJoins", fn := fun _ => fun
  | [d1, d2, d3] => { results := [.lit (.bool false)], args := [d1, d2, d3] }
  | _ => none }
def IndexJoinsWrongFalsely : Prop := indexJoinsRow.holds Try.pinned (OpenSpec.ofChange indexJoinsWrong)

/-- 'horariumlaw07.IndexStreams': WHATEVER THE INPUT: true; the input reads as it did. -/
def indexStreamsSpec : ChangeSpec := { name := "indexStreams", fn := fun _ => fun
  | [d] => { results := [.lit (.bool true)], args := [d] }
  | _ => none }
def indexStreamsRow : OpenClaim := { program := "ytdlgpfbfhaifgaa", sum := "5c58c8ef64e445301b11d7f5cd37cc2a9d75affa4d62445905a90c535a96ff20", func := "horarium/horariumlaw07.IndexStreams", spec := "indexStreams", unfollowed := true, recurses := true, apart := false }
def IndexStreamsSaid : Prop := indexStreamsRow.holds Try.pinned (OpenSpec.ofChange indexStreamsSpec)

/-- ITS FALSE NEIGHBOUR: 'it returns false'. Refute it at one input. -/
def indexStreamsWrong : ChangeSpec := { name := "indexStreams", fn := fun _ => fun
  | [d] => { results := [.lit (.bool false)], args := [d] }
  | _ => none }
def IndexStreamsWrongFalsely : Prop := indexStreamsRow.holds Try.pinned (OpenSpec.ofChange indexStreamsWrong)

/-- 'horariumlaw07.IndexBack': WHATEVER THE INPUT: true; the input reads as it did. -/
def indexBackSpec : ChangeSpec := { name := "indexBack", fn := fun _ => fun
  | [d1, d2] => { results := [.lit (.bool true)], args := [d1, d2] }
  | _ => none }
def indexBackRow : OpenClaim := { program := "ytdlgpfbfhaifgaa", sum := "5c58c8ef64e445301b11d7f5cd37cc2a9d75affa4d62445905a90c535a96ff20", func := "horarium/horariumlaw07.IndexBack", spec := "indexBack", unfollowed := true, recurses := true, apart := false }
def IndexBackSaid : Prop := indexBackRow.holds Try.pinned (OpenSpec.ofChange indexBackSpec)

/-- ITS FALSE NEIGHBOUR: 'it returns false'. Refute it at one input. -/
def indexBackWrong : ChangeSpec := { name := "indexBack", fn := fun _ => fun
  | [d1, d2] => { results := [.lit (.bool false)], args := [d1, d2] }
  | _ => none }
def IndexBackWrongFalsely : Prop := indexBackRow.holds Try.pinned (OpenSpec.ofChange indexBackWrong)

/-- 'horariumlaw07.IndexDates': WHATEVER THE INPUT: true; the input reads as it did. -/
def indexDatesSpec : ChangeSpec := { name := "indexDates", fn := fun _ => fun
  | [d1, d2, d3] => { results := [.lit (.bool true)], args := [d1, d2, d3] }
  | _ => none }
def indexDatesRow : OpenClaim := { program := "ytdlgpfbfhaifgaa", sum := "5c58c8ef64e445301b11d7f5cd37cc2a9d75affa4d62445905a90c535a96ff20", func := "horarium/horariumlaw07.IndexDates", spec := "indexDates", unfollowed := true, recurses := true, apart := false }
def IndexDatesSaid : Prop := indexDatesRow.holds Try.pinned (OpenSpec.ofChange indexDatesSpec)

/-- ITS FALSE NEIGHBOUR: 'it returns false'. Refute it at one input. -/
def indexDatesWrong : ChangeSpec := { name := "indexDates", fn := fun _ => fun
  | [d1, d2, d3] => { results := [.lit (.bool false)], args := [d1, d2, d3] }
  | _ => none }
def IndexDatesWrongFalsely : Prop := indexDatesRow.holds Try.pinned (OpenSpec.ofChange indexDatesWrong)

/- THE SECOND FORM. 'bulk': how many values and letters a reading holds, each counted each time it is reached (what is shared counts as often as it is met; a slice's spare places count too). A statement '..UptoSaid' is the law's where the arguments, and the package variables that the reading takes, are together of bulk at most 1048576: NARROWER than '..Said'. Prove '..Said' where nothing that the law and all that it calls make is longer than what came in: it says more and counts as full. Else prove '..UptoSaid'. A law counts once. -/
mutual
def uptoBulk {H : Type} : DataW H → Nat
  | .lit (.string bytes) => bytes.length + 1
  | .lit _ => 1
  | .nil => 1
  | .ptr d => uptoBulk d + 1
  | .slice elems spare => uptoBulkAll elems + uptoBulkAll spare + 1
  | .agg parts => uptoBulkAll parts + 1
  | .iface _ d => uptoBulk d + 1
  | .map entries => uptoBulkEntries entries + 1
  | .held _ => 1
def uptoBulkAll {H : Type} : List (DataW H) → Nat
  | [] => 0
  | d :: r => uptoBulk d + uptoBulkAll r
def uptoBulkEntries {H : Type} : List (Lit × DataW H) → Nat
  | [] => 0
  | x :: r => uptoBulkEntry x + uptoBulkEntries r
def uptoBulkEntry {H : Type} : Lit × DataW H → Nat
  | (.string bytes, d) => bytes.length + uptoBulk d + 1
  | (_, d) => uptoBulk d + 1
 end
def uptoSmall : (H : Type) → List (DataW H) → Bool := fun _ ds => decide (uptoBulkAll ds ≤ 1048576)
def OpenSpec.upto (s : _root_.Go.ChangeSpec) : _root_.Go.OpenSpec := { _root_.Go.OpenSpec.ofChange s with cond := some uptoSmall }

/-- 'horariumlaw07.IndexJoins', WHERE WHAT IT READS IS OF BULK AT MOST 1048576: true; the input reads as it did. -/
def indexJoinsUptoRow : OpenClaim := { program := "ytdlgpfbfhaifgaa", sum := "5c58c8ef64e445301b11d7f5cd37cc2a9d75affa4d62445905a90c535a96ff20", func := "horarium/horariumlaw07.IndexJoins", spec := "indexJoins", unfollowed := true, recurses := true, apart := false, narrowed := true }
def IndexJoinsUptoSaid : Prop := indexJoinsUptoRow.holds Try.pinned (OpenSpec.upto indexJoinsSpec)

/-- 'horariumlaw07.IndexStreams', WHERE WHAT IT READS IS OF BULK AT MOST 1048576: true; the input reads as it did. -/
def indexStreamsUptoRow : OpenClaim := { program := "ytdlgpfbfhaifgaa", sum := "5c58c8ef64e445301b11d7f5cd37cc2a9d75affa4d62445905a90c535a96ff20", func := "horarium/horariumlaw07.IndexStreams", spec := "indexStreams", unfollowed := true, recurses := true, apart := false, narrowed := true }
def IndexStreamsUptoSaid : Prop := indexStreamsUptoRow.holds Try.pinned (OpenSpec.upto indexStreamsSpec)

/-- 'horariumlaw07.IndexBack', WHERE WHAT IT READS IS OF BULK AT MOST 1048576: true; the input reads as it did. -/
def indexBackUptoRow : OpenClaim := { program := "ytdlgpfbfhaifgaa", sum := "5c58c8ef64e445301b11d7f5cd37cc2a9d75affa4d62445905a90c535a96ff20", func := "horarium/horariumlaw07.IndexBack", spec := "indexBack", unfollowed := true, recurses := true, apart := false, narrowed := true }
def IndexBackUptoSaid : Prop := indexBackUptoRow.holds Try.pinned (OpenSpec.upto indexBackSpec)

/-- 'horariumlaw07.IndexDates', WHERE WHAT IT READS IS OF BULK AT MOST 1048576: true; the input reads as it did. -/
def indexDatesUptoRow : OpenClaim := { program := "ytdlgpfbfhaifgaa", sum := "5c58c8ef64e445301b11d7f5cd37cc2a9d75affa4d62445905a90c535a96ff20", func := "horarium/horariumlaw07.IndexDates", spec := "indexDates", unfollowed := true, recurses := true, apart := false, narrowed := true }
def IndexDatesUptoSaid : Prop := indexDatesUptoRow.holds Try.pinned (OpenSpec.upto indexDatesSpec)

end Rows
end Go.Proofs.Ytdlgpfbfhaifgaa
