/-
  Parts of the proof: ShelR.
-/
import Derived.Ground.SlgnProg
import Derived.Shelf.SlicesQ.Reverse
import Derived.Test.YtgigilkpndhddaaGreatDoorProg
namespace Go.Proofs
set_option linter.unusedVariables false
set_option linter.unusedSimpArgs false
set_option linter.unnecessarySimpa false
set_option maxRecDepth 100000
set_option maxHeartbeats 16000000
open Go.Shelf
def Tryz.laysSlE035_ren:Go.Shelf.Ren:=⟨fun|35=>134|n=>n,fun|22=>67|23=>156|3=>3|4=>4|0=>0|n=>n,fun|n=>n⟩
theorem Tryz.laysSlE035:Go.Proofs.SlLaysE0.n35 Tryz.prog Tryz.laysSlE035_ren:={
 mixed:=by kernel_rfl
 f35:=⟨Tryz.f134.name,by decide,Tryz.func134.trans (congrArg some (by kernel_rfl))⟩
 t0:=Tryz.underlying0
 a0:=Tryz.isAgg0
 z0:=Tryz.sizeOf0
 v0:=Tryz.zeroValue0
 t3:=Tryz.underlying3
 a3:=Tryz.isAgg3
 z3:=Tryz.sizeOf3
 v3:=Tryz.zeroValue3
 t4:=Tryz.underlying4
 a4:=Tryz.isAgg4
 z4:=Tryz.sizeOf4
 v4:=Tryz.zeroValue4
 t22:=Tryz.underlying67
 a22:=Tryz.isAgg67
 z22:=Tryz.sizeOf67
 v22:=Tryz.zeroValue67 }
open Go.Sort in
theorem Tryz.slices_Reverse {α:Type} [Inhabited α] (k:Nat) (aE:∀w,(isAgg (Tryz.laysSlE035_ren.t 23)).run Tryz.prog w=.ok true w) (zE:∀w,(Go.sizeOf (Tryz.laysSlE035_ren.t 23)).run Tryz.prog w=.ok k w) (enc:α→List Value) (hk:∀x,(enc x).length=k) (h1:∀x,∀v∈enc x,v.oneCell'=true) (blk off cap:Nat) (d:Array α) (w:World) (hH:HoldsK enc k w blk off d) (hsz:d.size≤9223372036854775807) :
  Calls Tryz.prog 134 #[.slice (some ⟨blk,off,none⟩) d.size cap] w fun e w'=>e=.returned (.tuple #[])∧∃n,w'=putRowK enc k (Sort.ahead w n) blk off d.reverse:=AnyQ.slices_Reverse Tryz.laysSlE035 k aE zE enc hk h1 blk off cap d w hH hsz
end Go.Proofs
