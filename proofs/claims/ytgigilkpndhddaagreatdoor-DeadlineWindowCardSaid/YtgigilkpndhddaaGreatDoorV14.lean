/- Parts of the proof. -/
import Derived.Shelf.SlicesQ.Reverse
import Derived.Test.YtgigilkpndhddaaGreatDoorProg
set_option linter.all false
set_option maxRecDepth 100000
set_option maxHeartbeats 16000000
namespace Go.Proofs
open Tryz
open Go.Shelf
def Tryz.laysSlE035_ren:Go.Shelf.Ren:=⟨fun|35=>134|n=>n,fun|22=>67|23=>156|3=>3|4=>4|0=>0|n=>n,fun|n=>n⟩
theorem Tryz.laysSlE035:Go.Proofs.SlLaysE0.n35 prog Tryz.laysSlE035_ren:={
 mixed:=by kernel_rfl
 f35:=⟨Tryz.f134.name,by decide,func134.trans (congrArg some (by kernel_rfl))⟩
 t0:=underlying0
 a0:=isAgg0
 z0:=sizeOf0
 v0:=zeroValue0
 t3:=underlying3
 a3:=isAgg3
 z3:=sizeOf3
 v3:=zeroValue3
 t4:=underlying4
 a4:=isAgg4
 z4:=sizeOf4
 v4:=zeroValue4
 t22:=underlying67
 a22:=isAgg67
 z22:=sizeOf67
 v22:=zeroValue67 }
open Go.Sort in
theorem Tryz.slices_Reverse{α:Type}[Inhabited α](k:Nat)(aE:∀w,(isAgg (Tryz.laysSlE035_ren.t 23)).run prog w=.ok true w)(zE:∀w,(Go.sizeOf (Tryz.laysSlE035_ren.t 23)).run prog w=.ok k w)(enc:α→List Value)(hk:∀x,(enc x).length=k)(h1:∀x,∀v∈enc x,v.oneCell'=true)(blk off cap:Nat)(d:Array α)(w:World)(hH:HoldsK enc k w blk off d)(hsz:d.size≤9223372036854775807) :
  Calls prog 134 #[.slice (some ⟨blk,off,none⟩) d.size cap] w fun e w'=>e=.returned (.tuple #[])∧∃n,w'=putRowK enc k (Sort.ahead w n) blk off d.reverse:=AnyQ.slices_Reverse Tryz.laysSlE035 k aE zE enc hk h1 blk off cap d w hH hsz
end Go.Proofs
