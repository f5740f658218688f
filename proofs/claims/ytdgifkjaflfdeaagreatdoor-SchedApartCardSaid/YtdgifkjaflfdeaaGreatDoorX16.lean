/- Parts of the proof. -/
import Derived.Shelf.Slices.Cells
import Derived.Shelf.Slices.Clone
import Derived.Shelf.Slices.In.SortNone
import Derived.Shelf.SlicesQ.Reverse
import Derived.Shelf.Small.Bits
import Derived.Shelf.Sort.Plain
import Derived.Shelf.Strconv.Itoa3
import Derived.Test.YtdgifkjaflfdeaaGreatDoorProg
set_option linter.all false
set_option maxRecDepth 100000
set_option maxHeartbeats 16000000
namespace Go.Proofs
open Tryz
open Go.Shelf
open Go.Lib in
open Go.Lib in
open Go.Lib in
open Go.Lib in
open Go.RowKit Go.Sort Go.Lib in
open Go.RowKit Go.Sort Go.Lib in
open Go.RowKit Go.Sort Go.Lib in
open Go.RowKit Go.Sort Go.Lib in
open Go.RowKit Go.Sort Go.Lib in
open Go.RowKit Go.Sort Go.Lib in
def Tryz.lays171_ren:Go.Shelf.Ren:=⟨fun|171=>194|243=>237|246=>255|283=>263|284=>264|285=>265|286=>266|129=>164|317=>267|318=>268|319=>269|320=>270|337=>271|338=>272|n=>n,fun|3=>3|9=>9|2=>2|4=>4|171=>391|0=>0|53=>282|37=>393|5=>5|173=>394|212=>405|51=>280|20=>20|213=>406|46=>178|232=>407|233=>408|n=>n,fun|17=>0|18=>1|19=>2|n=>n⟩
theorem Tryz.lays171:Go.Proofs.Lays.n171 prog Tryz.lays171_ren:={
 mixed:=by kernel_rfl
 f129:=func164.trans (congrArg some (by kernel_rfl))
 f171:=func194.trans (congrArg some (by kernel_rfl))
 f243:=func237.trans (congrArg some (by kernel_rfl))
 f246:=func255.trans (congrArg some (by kernel_rfl))
 f283:=func263.trans (congrArg some (by kernel_rfl))
 f284:=func264.trans (congrArg some (by kernel_rfl))
 f285:=func265.trans (congrArg some (by kernel_rfl))
 f286:=func266.trans (congrArg some (by kernel_rfl))
 f317:=func267.trans (congrArg some (by kernel_rfl))
 f318:=func268.trans (congrArg some (by kernel_rfl))
 f319:=func269.trans (congrArg some (by kernel_rfl))
 f320:=func270.trans (congrArg some (by kernel_rfl))
 f337:=func271.trans (congrArg some (by kernel_rfl))
 f338:=func272.trans (congrArg some (by kernel_rfl))
 t0:=underlying0
 a0:=isAgg0
 z0:=sizeOf0
 v0:=zeroValue0
 t2:=underlying2
 a2:=isAgg2
 z2:=sizeOf2
 v2:=zeroValue2
 t3:=underlying3
 a3:=isAgg3
 z3:=sizeOf3
 v3:=zeroValue3
 t4:=underlying4
 a4:=isAgg4
 z4:=sizeOf4
 v4:=zeroValue4
 t5:=underlying5
 a5:=isAgg5
 z5:=sizeOf5
 v5:=zeroValue5
 t9:=underlying9
 a9:=isAgg9
 z9:=sizeOf9
 v9:=zeroValue9
 t20:=underlying20
 a20:=isAgg20
 z20:=sizeOf20
 v20:=zeroValue20
 t37:=underlying393
 a37:=isAgg393
 z37:=sizeOf393
 v37:=zeroValue393
 t46:=underlying178
 a46:=isAgg178
 z46:=sizeOf178
 v46:=zeroValue178
 t51:=underlying280
 a51:=isAgg280
 z51:=sizeOf280
 v51:=zeroValue280
 t53:=underlying282
 a53:=isAgg282
 z53:=sizeOf282
 v53:=zeroValue282
 t171:=underlying391
 a171:=isAgg391
 z171:=sizeOf391
 v171:=zeroValue391
 t173:=underlying394
 a173:=isAgg394
 z173:=sizeOf394
 v173:=zeroValue394
 t212:=underlying405
 a212:=isAgg405
 z212:=sizeOf405
 v212:=zeroValue405
 t213:=underlying406
 a213:=isAgg406
 z213:=sizeOf406
 t232:=underlying407
 a232:=isAgg407
 z232:=sizeOf407
 v232:=zeroValue407
 t233:=underlying408
 a233:=isAgg408
 z233:=sizeOf408
 v233:=zeroValue408
 g17:=by kernel_rfl
 g18:=by kernel_rfl
 g19:=by kernel_rfl }
open Go.RowKit Go.Sort Go.Lib in
theorem Tryz.strconv_Itoa_small(i:Nat)(hi:i<100)(w:World) :
  Calls prog 194 #[.int .i64 i] w fun e w'=>e=.returned (.string ⟨(Lib.decDigits i).toArray⟩)/\w'=w:=Any.strconv_Itoa_small Tryz.lays171 i hi w
def Tryz.lays189_ren:Go.Shelf.Ren:=⟨fun|189=>111|125=>91|257=>176|128=>163|129=>164|294=>216|295=>217|296=>218|297=>219|298=>220|299=>221|216=>222|300=>223|301=>224|328=>243|329=>203|330=>204|331=>244|332=>245|215=>166|343=>258|n=>n,fun|28=>44|3=>3|46=>178|0=>0|51=>280|53=>282|4=>4|183=>274|182=>273|131=>210|5=>5|9=>9|218=>335|222=>339|228=>369|229=>305|n=>n,fun|n=>n⟩
theorem Tryz.lays189:Go.Proofs.Lays.n189 prog Tryz.lays189_ren:={
 mixed:=by kernel_rfl
 f125:=func91.trans (congrArg some (by kernel_rfl))
 f128:=func163.trans (congrArg some (by kernel_rfl))
 f129:=func164.trans (congrArg some (by kernel_rfl))
 f189:=func111.trans (congrArg some (by kernel_rfl))
 f215:=func166.trans (congrArg some (by kernel_rfl))
 f216:=func222.trans (congrArg some (by kernel_rfl))
 f257:=func176.trans (congrArg some (by kernel_rfl))
 f294:=func216.trans (congrArg some (by kernel_rfl))
 f295:=func217.trans (congrArg some (by kernel_rfl))
 f296:=func218.trans (congrArg some (by kernel_rfl))
 f297:=func219.trans (congrArg some (by kernel_rfl))
 f298:=func220.trans (congrArg some (by kernel_rfl))
 f299:=func221.trans (congrArg some (by kernel_rfl))
 f300:=func223.trans (congrArg some (by kernel_rfl))
 f301:=func224.trans (congrArg some (by kernel_rfl))
 f328:=func243.trans (congrArg some (by kernel_rfl))
 f329:=func203.trans (congrArg some (by kernel_rfl))
 f330:=func204.trans (congrArg some (by kernel_rfl))
 f331:=func244.trans (congrArg some (by kernel_rfl))
 f332:=func245.trans (congrArg some (by kernel_rfl))
 f343:=func258.trans (congrArg some (by kernel_rfl))
 t0:=underlying0
 a0:=isAgg0
 z0:=sizeOf0
 v0:=zeroValue0
 t3:=underlying3
 a3:=isAgg3
 z3:=sizeOf3
 v3:=zeroValue3
 t4:=underlying4
 a4:=isAgg4
 z4:=sizeOf4
 v4:=zeroValue4
 t5:=underlying5
 a5:=isAgg5
 z5:=sizeOf5
 v5:=zeroValue5
 t9:=underlying9
 a9:=isAgg9
 z9:=sizeOf9
 v9:=zeroValue9
 t28:=underlying44
 a28:=isAgg44
 z28:=sizeOf44
 v28:=zeroValue44
 t46:=underlying178
 a46:=isAgg178
 z46:=sizeOf178
 v46:=zeroValue178
 t51:=underlying280
 a51:=isAgg280
 z51:=sizeOf280
 v51:=zeroValue280
 t53:=underlying282
 a53:=isAgg282
 z53:=sizeOf282
 v53:=zeroValue282
 t131:=underlying210
 a131:=isAgg210
 z131:=sizeOf210
 v131:=zeroValue210
 t182:=underlying273
 a182:=isAgg273
 z182:=sizeOf273
 v182:=zeroValue273
 t183:=underlying274
 a183:=isAgg274
 z183:=sizeOf274
 v183:=zeroValue274
 t218:=underlying335
 a218:=isAgg335
 z218:=sizeOf335
 v218:=zeroValue335
 t222:=underlying339
 a222:=isAgg339
 z222:=sizeOf339
 v222:=zeroValue339
 t228:=underlying369
 a228:=isAgg369
 z228:=sizeOf369
 v228:=zeroValue369
 t229:=underlying305
 a229:=isAgg305
 z229:=sizeOf305
 v229:=zeroValue305 }
open Go.Sort Go.RowKit in
theorem Tryz.slices_Sort_int(blk off cap:Nat)(zs:List Int)(w:World)(hH:Holds (Value.int .i64) w blk off zs.toArray)(hblk:blk<w.1.size)(hsz:zs.length<4611686018427387904) :
  Calls prog 111 #[.slice (some ⟨blk,off,none⟩) zs.length cap] w fun e w' =>
   e=.returned (.tuple #[])/\∃n os,w'=grow (putRow (Value.int .i64) (Sort.ahead w n) blk off (zs.mergeSort fun x y=>decide (x<=y)).toArray) os:=Any.slices_Sort_int Tryz.lays189 blk off cap zs w hH hblk hsz
def Tryz.laysNm216_ren:Go.Shelf.Ren:=⟨fun|16=>145|n=>n,fun|24=>108|9=>9|4=>4|n=>n,fun|n=>n⟩
theorem Tryz.laysNm216:Go.Proofs.Lays2.n16 prog Tryz.laysNm216_ren:={
 mixed:=by kernel_rfl
 f16:=func145.trans (congrArg some (by kernel_rfl))
 t4:=underlying4
 a4:=isAgg4
 z4:=sizeOf4
 v4:=zeroValue4
 t9:=underlying9
 a9:=isAgg9
 z9:=sizeOf9
 v9:=zeroValue9
 t24:=underlying108
 a24:=isAgg108
 z24:=sizeOf108
 v24:=zeroValue108
 i9:=by kernel_rfl }
open Go.RowKit Go.Lib in
theorem Tryz.slices_Clone_string(b off n c:Nat)(zs:List ByteArray)(w:World)(hz:n<=zs.length)(hbig:n*16<=140737488355328)(hc:∀j,j<zs.length->w.cell? ⟨b,off+j,none⟩=some (.string (zs.getD j ByteArray.empty))) :
  Calls prog 145 #[.slice (some ⟨b,off,none⟩) n c] w fun e w'=>∃v',e=.returned v'/\w'.ownsRow w.1.size 9 1 v' n ((zs.take n).map (Value.string))/\v'≠.slice none 0 0/\Below w.1.size w w':=Any.slices_Clone_string Tryz.laysNm216 b off n c zs w hz hbig hc
open Go.RowKit Go.Lib in
theorem Tryz.slices_Clone_string_nil(n c:Nat)(w:World) :
  Calls prog 145 #[.slice none n c] w fun e w'=>e=.returned (.slice none 0 0)/\w'=w:=Any.slices_Clone_string_nil Tryz.laysNm216 n c w
open Go.RowKit Go.Lib in
theorem Tryz.slices_Clone_string_zero(a:Addr)(c:Nat)(w:World) :
  Calls prog 145 #[.slice (some a) 0 c] w fun e w'=>∃v',e=.returned v'/\w'.ownsRow w.1.size 9 1 v' 0 []/\v'≠.slice none 0 0/\Below w.1.size w w':=Any.slices_Clone_string_zero Tryz.laysNm216 a c w
def Tryz.laysNm220_ren:Go.Shelf.Ren:=⟨fun|20=>112|n=>n,fun|22=>44|3=>3|4=>4|0=>0|n=>n,fun|n=>n⟩
theorem Tryz.laysNm220:Go.Proofs.Lays2.n20 prog Tryz.laysNm220_ren:={
 mixed:=by kernel_rfl
 f20:=func112.trans (congrArg some (by kernel_rfl))
 t0:=underlying0
 a0:=isAgg0
 z0:=sizeOf0
 v0:=zeroValue0
 t3:=underlying3
 a3:=isAgg3
 z3:=sizeOf3
 v3:=zeroValue3
 t4:=underlying4
 a4:=isAgg4
 z4:=sizeOf4
 v4:=zeroValue4
 t22:=underlying44
 a22:=isAgg44
 z22:=sizeOf44
 v22:=zeroValue44
 i3:=by kernel_rfl }
open Go.RowKit Go.Lib Go.Sort in
open Go.RowKit Go.Lib Go.Sort in
theorem Tryz.slices_Compact_int(blk off cap:Nat)(zs:List Int)(w:World)(hH:Holds (Value.int .i64) w blk off zs.toArray)(hsz:zs.length<=9223372036854775807)(hcap:zs.length<=cap) :
  Calls prog 112 #[.slice (some ⟨blk,off,none⟩) zs.length cap] w fun e w'=>e=.returned (.slice (some ⟨blk,off,none⟩) (Lib.compact zs).length cap)/\∃q,w'=putRow (Value.int .i64) (Sort.ahead w q) blk off (Lib.compact zs++List.replicate (zs.length-(Lib.compact zs).length) 0).toArray:=Any.slices_Compact_int Tryz.laysNm220 blk off cap zs w hH hsz hcap
open Go.RowKit Go.Lib Go.Sort in
theorem Tryz.slices_Compact_int_empty(a:Option Addr)(cap:Nat)(w:World) :
  Calls prog 112 #[.slice a 0 cap] w fun e w'=>e=.returned (.slice a 0 cap)/\w'=w:=Any.slices_Compact_int_empty Tryz.laysNm220 a cap w
open Go.RowKit Go.Lib Go.Sort in
open Go.RowKit Go.Sort in
theorem Tryz.slices_Sort_int_none(p:Option Addr)(cap:Nat)(w:World) :
  Calls prog 111 #[.slice p 0 cap] w fun e w'=>e=.returned (.tuple #[])/\w'=w:=Any.slices_Sort_int_none Tryz.lays189 p cap w
def Tryz.laysSlE035_ren:Go.Shelf.Ren:=⟨fun|35=>199|n=>n,fun|22=>90|23=>183|3=>3|4=>4|0=>0|n=>n,fun|n=>n⟩
theorem Tryz.laysSlE035:Go.Proofs.SlLaysE0.n35 prog Tryz.laysSlE035_ren:={
 mixed:=by kernel_rfl
 f35:=⟨Tryz.f199.name,by decide,func199.trans (congrArg some (by kernel_rfl))⟩
 t0:=underlying0
 a0:=isAgg0
 z0:=sizeOf0
 v0:=zeroValue0
 t3:=underlying3
 a3:=isAgg3
 z3:=sizeOf3
 v3:=zeroValue3
 t4:=underlying4
 a4:=isAgg4
 z4:=sizeOf4
 v4:=zeroValue4
 t22:=underlying90
 a22:=isAgg90
 z22:=sizeOf90
 v22:=zeroValue90 }
open Go.Sort in
theorem Tryz.slices_Reverse{α:Type}[Inhabited α](k:Nat)(aE:∀w,(isAgg (Tryz.laysSlE035_ren.t 23)).run prog w=.ok true w)(zE:∀w,(Go.sizeOf (Tryz.laysSlE035_ren.t 23)).run prog w=.ok k w)(enc:α->List Value)(hk:∀x,(enc x).length=k)(h1:∀x,∀v∈enc x,v.oneCell'=true)(blk off cap:Nat)(d:Array α)(w:World)(hH:HoldsK enc k w blk off d)(hsz:d.size<=9223372036854775807) :
  Calls prog 199 #[.slice (some ⟨blk,off,none⟩) d.size cap] w fun e w'=>e=.returned (.tuple #[])/\∃n,w'=putRowK enc k (Sort.ahead w n) blk off d.reverse:=AnyQ.slices_Reverse Tryz.laysSlE035 k aE zE enc hk h1 blk off cap d w hH hsz
