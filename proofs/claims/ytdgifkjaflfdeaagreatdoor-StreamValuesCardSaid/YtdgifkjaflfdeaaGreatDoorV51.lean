/- Parts of the proof. -/
import Derived.LaidMore
import Derived.Lay
import Derived.Test.YtdgifkjaflfdeaaGreatDoorCards
import Derived.Test.YtdgifkjaflfdeaaGreatDoorTie
import Derived.Test.YtdgifkjaflfdeaaGreatDoorV50
set_option linter.all false
set_option maxRecDepth 100000
set_option maxHeartbeats 16000000
namespace Go.Proofs.YtdgifkjaflfdeaaGreatDoor.streamValues
open Tryz
theorem jf1:(Rows.streamValuesRow.inPlace == Tryz.pinned.checked.prog.inPlace 3)=true:=by kernel_rfl
theorem jf2:(Rows.streamValuesRow.unfollowed == Tryz.pinned.checked.prog.unfollowed 3)=true:=by kernel_rfl
theorem jf3:(Rows.streamValuesRow.recurses == Tryz.pinned.checked.prog.recurses 3)=true:=by kernel_rfl
theorem jf4:(Rows.streamValuesRow.named == Tryz.pinned.checked.prog.varsNamed 3)=true:=by kernel_rfl
theorem jf:joinedFacts Tryz.pinned.checked.prog 3 Tryz.f3 Rows.streamValuesSpec Rows.streamValuesRow=true:=by
 unfold joinedFacts;rw[jf1,jf2,jf3,jf4]
 kernel_rfl
end Go.Proofs.YtdgifkjaflfdeaaGreatDoor.streamValues
