/-
  Parts of the proof: Shelf, Heap0, Heap1, Heap2, Heap3.
-/
import Derived.ChangeKeysEq
import Derived.Deep.AppendLies
import Derived.Deep.CutBlock
import Derived.Deep.DeepCutAuto
import Derived.Deep.RegionHeld3
import Derived.Deep.RegionLaw
import Derived.Ground.Names2Prog
import Derived.Shelf.LaysM
import Derived.Shelf.Slices.Cells
import Derived.Shelf.Slices.Clone
import Derived.Shelf.Slices.CompactI
import Derived.Shelf.Slices.In.SortNone
import Derived.Shelf.Small.Bits
import Derived.Shelf.Sort.Plain
import Derived.Shelf.Strconv.Itoa0
import Derived.Shelf.Strconv.Itoa1
import Derived.Shelf.Strconv.Itoa2
import Derived.Shelf.Strconv.Itoa3
import Derived.StillTailTactics
import Derived.Test.YtgigilkpndhddaaGreatDoorProg
import Derived.Test.YtgigilkpndhddaaGreatDoorQ05
import Derived.Test.YtgigilkpndhddaaGreatDoorQ06
namespace Go.Proofs
set_option linter.unusedVariables false
set_option linter.unusedSimpArgs false
set_option linter.unnecessarySimpa false
set_option maxRecDepth 100000
set_option maxHeartbeats 16000000
open Go.Shelf
open Go.Lib in
open Go.Lib in
open Go.Lib in
open Go.Lib in
open Go.RowKit Go.Sort Go.Lib in
open Go.RowKit Go.Sort Go.Lib in
open Go.RowKit Go.Sort Go.Lib in
open Go.RowKit Go.Sort Go.Lib in
open Go.RowKit Go.Sort Go.Lib in
open Go.RowKit Go.Sort Go.Lib in
def Tryz.lays171_ren:Go.Shelf.Ren:=⟨fun|171=>129|243=>161|246=>177|283=>182|284=>183|285=>184|286=>185|129=>154|317=>186|318=>187|319=>188|320=>189|337=>190|338=>191|n=>n,fun|3=>3|9=>9|2=>2|4=>4|171=>279|0=>0|53=>251|37=>281|5=>5|173=>282|212=>293|51=>249|20=>20|213=>294|46=>208|232=>295|233=>296|n=>n,fun|17=>0|18=>1|19=>2|n=>n⟩
theorem Tryz.lays171:Go.Proofs.Lays.n171 Tryz.prog Tryz.lays171_ren:={
 mixed:=by kernel_rfl
 f129:=Tryz.func154.trans (congrArg some (by kernel_rfl))
 f171:=Tryz.func129.trans (congrArg some (by kernel_rfl))
 f243:=Tryz.func161.trans (congrArg some (by kernel_rfl))
 f246:=Tryz.func177.trans (congrArg some (by kernel_rfl))
 f283:=Tryz.func182.trans (congrArg some (by kernel_rfl))
 f284:=Tryz.func183.trans (congrArg some (by kernel_rfl))
 f285:=Tryz.func184.trans (congrArg some (by kernel_rfl))
 f286:=Tryz.func185.trans (congrArg some (by kernel_rfl))
 f317:=Tryz.func186.trans (congrArg some (by kernel_rfl))
 f318:=Tryz.func187.trans (congrArg some (by kernel_rfl))
 f319:=Tryz.func188.trans (congrArg some (by kernel_rfl))
 f320:=Tryz.func189.trans (congrArg some (by kernel_rfl))
 f337:=Tryz.func190.trans (congrArg some (by kernel_rfl))
 f338:=Tryz.func191.trans (congrArg some (by kernel_rfl))
 t0:=Tryz.underlying0
 a0:=Tryz.isAgg0
 z0:=Tryz.sizeOf0
 v0:=Tryz.zeroValue0
 t2:=Tryz.underlying2
 a2:=Tryz.isAgg2
 z2:=Tryz.sizeOf2
 v2:=Tryz.zeroValue2
 t3:=Tryz.underlying3
 a3:=Tryz.isAgg3
 z3:=Tryz.sizeOf3
 v3:=Tryz.zeroValue3
 t4:=Tryz.underlying4
 a4:=Tryz.isAgg4
 z4:=Tryz.sizeOf4
 v4:=Tryz.zeroValue4
 t5:=Tryz.underlying5
 a5:=Tryz.isAgg5
 z5:=Tryz.sizeOf5
 v5:=Tryz.zeroValue5
 t9:=Tryz.underlying9
 a9:=Tryz.isAgg9
 z9:=Tryz.sizeOf9
 v9:=Tryz.zeroValue9
 t20:=Tryz.underlying20
 a20:=Tryz.isAgg20
 z20:=Tryz.sizeOf20
 v20:=Tryz.zeroValue20
 t37:=Tryz.underlying281
 a37:=Tryz.isAgg281
 z37:=Tryz.sizeOf281
 v37:=Tryz.zeroValue281
 t46:=Tryz.underlying208
 a46:=Tryz.isAgg208
 z46:=Tryz.sizeOf208
 v46:=Tryz.zeroValue208
 t51:=Tryz.underlying249
 a51:=Tryz.isAgg249
 z51:=Tryz.sizeOf249
 v51:=Tryz.zeroValue249
 t53:=Tryz.underlying251
 a53:=Tryz.isAgg251
 z53:=Tryz.sizeOf251
 v53:=Tryz.zeroValue251
 t171:=Tryz.underlying279
 a171:=Tryz.isAgg279
 z171:=Tryz.sizeOf279
 v171:=Tryz.zeroValue279
 t173:=Tryz.underlying282
 a173:=Tryz.isAgg282
 z173:=Tryz.sizeOf282
 v173:=Tryz.zeroValue282
 t212:=Tryz.underlying293
 a212:=Tryz.isAgg293
 z212:=Tryz.sizeOf293
 v212:=Tryz.zeroValue293
 t213:=Tryz.underlying294
 a213:=Tryz.isAgg294
 z213:=Tryz.sizeOf294
 t232:=Tryz.underlying295
 a232:=Tryz.isAgg295
 z232:=Tryz.sizeOf295
 v232:=Tryz.zeroValue295
 t233:=Tryz.underlying296
 a233:=Tryz.isAgg296
 z233:=Tryz.sizeOf296
 v233:=Tryz.zeroValue296
 g17:=by kernel_rfl
 g18:=by kernel_rfl
 g19:=by kernel_rfl }
open Go.RowKit Go.Sort Go.Lib in
theorem Tryz.strconv_Itoa_small (i:Nat) (hi:i<100) (w:World) :
  Calls Tryz.prog 129 #[.int .i64 i] w fun e w'=>e=.returned (.string ⟨(Lib.decDigits i).toArray⟩)∧w'=w:=Any.strconv_Itoa_small Tryz.lays171 i hi w
def Tryz.lays189_ren:Go.Shelf.Ren:=⟨fun|189=>70|125=>114|257=>113|128=>153|129=>154|294=>144|295=>145|296=>146|297=>147|298=>148|299=>149|216=>150|300=>151|301=>152|328=>166|329=>167|330=>168|331=>169|332=>170|215=>171|343=>179|n=>n,fun|28=>41|3=>3|46=>208|0=>0|51=>249|53=>251|4=>4|183=>242|182=>241|131=>145|5=>5|9=>9|218=>257|222=>261|228=>270|229=>271|n=>n,fun|n=>n⟩
theorem Tryz.lays189:Go.Proofs.Lays.n189 Tryz.prog Tryz.lays189_ren:={
 mixed:=by kernel_rfl
 f125:=Tryz.func114.trans (congrArg some (by kernel_rfl))
 f128:=Tryz.func153.trans (congrArg some (by kernel_rfl))
 f129:=Tryz.func154.trans (congrArg some (by kernel_rfl))
 f189:=Tryz.func70.trans (congrArg some (by kernel_rfl))
 f215:=Tryz.func171.trans (congrArg some (by kernel_rfl))
 f216:=Tryz.func150.trans (congrArg some (by kernel_rfl))
 f257:=Tryz.func113.trans (congrArg some (by kernel_rfl))
 f294:=Tryz.func144.trans (congrArg some (by kernel_rfl))
 f295:=Tryz.func145.trans (congrArg some (by kernel_rfl))
 f296:=Tryz.func146.trans (congrArg some (by kernel_rfl))
 f297:=Tryz.func147.trans (congrArg some (by kernel_rfl))
 f298:=Tryz.func148.trans (congrArg some (by kernel_rfl))
 f299:=Tryz.func149.trans (congrArg some (by kernel_rfl))
 f300:=Tryz.func151.trans (congrArg some (by kernel_rfl))
 f301:=Tryz.func152.trans (congrArg some (by kernel_rfl))
 f328:=Tryz.func166.trans (congrArg some (by kernel_rfl))
 f329:=Tryz.func167.trans (congrArg some (by kernel_rfl))
 f330:=Tryz.func168.trans (congrArg some (by kernel_rfl))
 f331:=Tryz.func169.trans (congrArg some (by kernel_rfl))
 f332:=Tryz.func170.trans (congrArg some (by kernel_rfl))
 f343:=Tryz.func179.trans (congrArg some (by kernel_rfl))
 t0:=Tryz.underlying0
 a0:=Tryz.isAgg0
 z0:=Tryz.sizeOf0
 v0:=Tryz.zeroValue0
 t3:=Tryz.underlying3
 a3:=Tryz.isAgg3
 z3:=Tryz.sizeOf3
 v3:=Tryz.zeroValue3
 t4:=Tryz.underlying4
 a4:=Tryz.isAgg4
 z4:=Tryz.sizeOf4
 v4:=Tryz.zeroValue4
 t5:=Tryz.underlying5
 a5:=Tryz.isAgg5
 z5:=Tryz.sizeOf5
 v5:=Tryz.zeroValue5
 t9:=Tryz.underlying9
 a9:=Tryz.isAgg9
 z9:=Tryz.sizeOf9
 v9:=Tryz.zeroValue9
 t28:=Tryz.underlying41
 a28:=Tryz.isAgg41
 z28:=Tryz.sizeOf41
 v28:=Tryz.zeroValue41
 t46:=Tryz.underlying208
 a46:=Tryz.isAgg208
 z46:=Tryz.sizeOf208
 v46:=Tryz.zeroValue208
 t51:=Tryz.underlying249
 a51:=Tryz.isAgg249
 z51:=Tryz.sizeOf249
 v51:=Tryz.zeroValue249
 t53:=Tryz.underlying251
 a53:=Tryz.isAgg251
 z53:=Tryz.sizeOf251
 v53:=Tryz.zeroValue251
 t131:=Tryz.underlying145
 a131:=Tryz.isAgg145
 z131:=Tryz.sizeOf145
 v131:=Tryz.zeroValue145
 t182:=Tryz.underlying241
 a182:=Tryz.isAgg241
 z182:=Tryz.sizeOf241
 v182:=Tryz.zeroValue241
 t183:=Tryz.underlying242
 a183:=Tryz.isAgg242
 z183:=Tryz.sizeOf242
 v183:=Tryz.zeroValue242
 t218:=Tryz.underlying257
 a218:=Tryz.isAgg257
 z218:=Tryz.sizeOf257
 v218:=Tryz.zeroValue257
 t222:=Tryz.underlying261
 a222:=Tryz.isAgg261
 z222:=Tryz.sizeOf261
 v222:=Tryz.zeroValue261
 t228:=Tryz.underlying270
 a228:=Tryz.isAgg270
 z228:=Tryz.sizeOf270
 v228:=Tryz.zeroValue270
 t229:=Tryz.underlying271
 a229:=Tryz.isAgg271
 z229:=Tryz.sizeOf271
 v229:=Tryz.zeroValue271 }
open Go.Sort Go.RowKit in
theorem Tryz.slices_Sort_int (blk off cap:Nat) (zs:List Int) (w:World) (hH:Holds (Value.int .i64) w blk off zs.toArray) (hblk:blk<w.heap.size) (hsz:zs.length<4611686018427387904) :
  Calls Tryz.prog 70 #[.slice (some ⟨blk,off,none⟩) zs.length cap] w fun e w' =>
   e=.returned (.tuple #[])∧∃n os,w'=grow (putRow (Value.int .i64) (Sort.ahead w n) blk off (zs.mergeSort fun x y=>decide (x≤y)).toArray) os:=Any.slices_Sort_int Tryz.lays189 blk off cap zs w hH hblk hsz
def Tryz.laysNm216_ren:Go.Shelf.Ren:=⟨fun|16=>101|n=>n,fun|24=>85|9=>9|4=>4|n=>n,fun|n=>n⟩
theorem Tryz.laysNm216:Go.Proofs.Lays2.n16 Tryz.prog Tryz.laysNm216_ren:={
 mixed:=by kernel_rfl
 f16:=Tryz.func101.trans (congrArg some (by kernel_rfl))
 t4:=Tryz.underlying4
 a4:=Tryz.isAgg4
 z4:=Tryz.sizeOf4
 v4:=Tryz.zeroValue4
 t9:=Tryz.underlying9
 a9:=Tryz.isAgg9
 z9:=Tryz.sizeOf9
 v9:=Tryz.zeroValue9
 t24:=Tryz.underlying85
 a24:=Tryz.isAgg85
 z24:=Tryz.sizeOf85
 v24:=Tryz.zeroValue85
 i9:=by kernel_rfl }
open Go.RowKit Go.Lib in
theorem Tryz.slices_Clone_string (b off n c:Nat) (zs:List ByteArray) (w:World) (hz:n≤zs.length) (hbig:n*16≤140737488355328) (hc:∀j,j<zs.length→w.cell? ⟨b,off+j,none⟩=some (.string (zs.getD j ByteArray.empty))) :
  Calls Tryz.prog 101 #[.slice (some ⟨b,off,none⟩) n c] w fun e w'=>∃v',e=.returned v'∧w'.ownsRow w.heap.size 9 1 v' n ((zs.take n).map (Value.string))∧v'≠.slice none 0 0∧Below w.heap.size w w':=Any.slices_Clone_string Tryz.laysNm216 b off n c zs w hz hbig hc
open Go.RowKit Go.Lib in
theorem Tryz.slices_Clone_string_nil (n c:Nat) (w:World) :
  Calls Tryz.prog 101 #[.slice none n c] w fun e w'=>e=.returned (.slice none 0 0)∧w'=w:=Any.slices_Clone_string_nil Tryz.laysNm216 n c w
open Go.RowKit Go.Lib in
theorem Tryz.slices_Clone_string_zero (a:Addr) (c:Nat) (w:World) :
  Calls Tryz.prog 101 #[.slice (some a) 0 c] w fun e w'=>∃v',e=.returned v'∧w'.ownsRow w.heap.size 9 1 v' 0 []∧v'≠.slice none 0 0∧Below w.heap.size w w':=Any.slices_Clone_string_zero Tryz.laysNm216 a c w
def Tryz.laysNm220_ren:Go.Shelf.Ren:=⟨fun|20=>71|n=>n,fun|22=>41|3=>3|4=>4|0=>0|n=>n,fun|n=>n⟩
theorem Tryz.laysNm220:Go.Proofs.Lays2.n20 Tryz.prog Tryz.laysNm220_ren:={
 mixed:=by kernel_rfl
 f20:=Tryz.func71.trans (congrArg some (by kernel_rfl))
 t0:=Tryz.underlying0
 a0:=Tryz.isAgg0
 z0:=Tryz.sizeOf0
 v0:=Tryz.zeroValue0
 t3:=Tryz.underlying3
 a3:=Tryz.isAgg3
 z3:=Tryz.sizeOf3
 v3:=Tryz.zeroValue3
 t4:=Tryz.underlying4
 a4:=Tryz.isAgg4
 z4:=Tryz.sizeOf4
 v4:=Tryz.zeroValue4
 t22:=Tryz.underlying41
 a22:=Tryz.isAgg41
 z22:=Tryz.sizeOf41
 v22:=Tryz.zeroValue41
 i3:=by kernel_rfl }
open Go.RowKit Go.Lib Go.Sort in
open Go.RowKit Go.Lib Go.Sort in
theorem Tryz.slices_Compact_int (blk off cap:Nat) (zs:List Int) (w:World) (hH:Holds (Value.int .i64) w blk off zs.toArray) (hsz:zs.length≤9223372036854775807) (hcap:zs.length≤cap) :
  Calls Tryz.prog 71 #[.slice (some ⟨blk,off,none⟩) zs.length cap] w fun e w'=>e=.returned (.slice (some ⟨blk,off,none⟩) (Lib.compact zs).length cap)∧∃q,w'=putRow (Value.int .i64) (Sort.ahead w q) blk off (Lib.compact zs++List.replicate (zs.length-(Lib.compact zs).length) 0).toArray:=Any.slices_Compact_int Tryz.laysNm220 blk off cap zs w hH hsz hcap
open Go.RowKit Go.Lib Go.Sort in
theorem Tryz.slices_Compact_int_empty (a:Option Addr) (cap:Nat) (w:World) :
  Calls Tryz.prog 71 #[.slice a 0 cap] w fun e w'=>e=.returned (.slice a 0 cap)∧w'=w:=Any.slices_Compact_int_empty Tryz.laysNm220 a cap w
open Go.RowKit Go.Lib Go.Sort in
open Go.RowKit Go.Sort in
theorem Tryz.slices_Sort_int_none (p:Option Addr) (cap:Nat) (w:World) :
  Calls Tryz.prog 70 #[.slice p 0 cap] w fun e w'=>e=.returned (.tuple #[])∧w'=w:=Any.slices_Sort_int_none Tryz.lays189 p cap w
end Go.Proofs
namespace Go.Proofs.YtgigilkpndhddaaGreatDoor.syn
set_option linter.unusedVariables false
set_option linter.unusedSimpArgs false
set_option linter.unnecessarySimpa false
set_option maxRecDepth 100000
set_option maxHeartbeats 16000000
open Go.RowKit
theorem JG {P:Program} {T S I e:TypeId} {fld:Field} {nm:String} {sig:TypeId} {f n:Nat} (h:(P.info? T).bind (fun i=>i.methods.find? (·.name == nm))=some ⟨nm,sig,#[⟨S,0,true⟩],some (f,false)⟩)
  (hS:P.underlying S=some (.struct #[fld])) (hf:fld.type=I∧fld.offset=0) (hI:P.underlying I=some (.slice e)) (hz:(P.info? I).map (·.size)=some 1) {w:World} {b o:Nat} {v:Value} (hc:w.cell? ⟨b,o,none⟩=some v) :
  Sem.run P (method (n+1) T (.pointer (some ⟨b,o,none⟩)) nm) w=.ok (f,v) w:=by
 obtain⟨h1,h2⟩:=hf
 cases hq:P.info? T with
 | none=>rw[hq] at h;cases h
 | some i =>
  rw[hq] at h
  simp only[Option.bind_some] at h
  cases hj:P.info? I with
  | none=>rw[hj] at hz;cases hz
  | some j =>
   rw[hj] at hz
   have hs:j.size=1:=by simpa using hz
   have hadd:(⟨b,o,none⟩:Addr).add 0=⟨b,o,none⟩:=by unfold Addr.add;simp
   simp[method,typeInfo,hq,h,follow,receiverAt,Place.get,run_underlying hS,run_underlying hI,fieldPlace,sizeOf,hj,h1,h2,hs,asAddr,loadVar,isAgg,hadd,hc]
theorem jW {P:Program} {T X:TypeId} {nm:String} {sig:TypeId} {f n:Nat} (h:(P.info? T).bind (fun i=>i.methods.find? (·.name == nm))=some ⟨nm,sig,#[],some (f,true)⟩) (hT:P.underlying T=some (.pointer X)) (w:World) (a:Addr) :
  Sem.run P (method (n+1) T (.pointer (some a)) nm) w=.ok (f,.pointer (some a)) w:=by
 cases hq:P.info? T with
 | none=>rw[hq] at h;cases h
 | some i =>
  rw[hq] at h
  simp only[Option.bind_some] at h
  simp[method,typeInfo,hq,h,follow,receiverAt,Place.get,run_underlying hT]
theorem q_len : (Tryz.prog.info? 200).bind (fun i => i.methods.find? (·.name == "Len")) = some ⟨"Len", 138, #[⟨135, 0, true⟩], some (63, false)⟩ := by kernel_rfl
theorem Zcf : (Tryz.prog.info? 200).bind (fun i => i.methods.find? (·.name == "Less")) = some ⟨"Less", 245, #[⟨135, 0, true⟩], some (209, false)⟩ := by kernel_rfl
theorem Zb6 : (Tryz.prog.info? 200).bind (fun i => i.methods.find? (·.name == "Swap")) = some ⟨"Swap", 219, #[⟨135, 0, true⟩], some (211, false)⟩ := by kernel_rfl
theorem Zdo : (Tryz.prog.info? 200).bind (fun i => i.methods.find? (·.name == "Pop")) = some ⟨"Pop", 221, #[], some (218, true)⟩ := by kernel_rfl
theorem Zci : (Tryz.prog.info? 200).bind (fun i => i.methods.find? (·.name == "Push")) = some ⟨"Push", 217, #[], some (219, true)⟩ := by kernel_rfl
theorem ZbZ:(match Tryz.prog.underlying 135 with|some (.struct fs)=>some (fs.toList.map (fun f=>(f.type,f.offset)))|_=>none)=some [(133,0)]:=by kernel_rfl
theorem zi:∃fld,Tryz.prog.underlying 135=some (.struct #[fld])∧fld.type=133∧fld.offset=0:=by
 have h:=ZbZ
 split at h
 ·rename_i fs hfs
  simp only[Option.some.injEq] at h
  obtain⟨l⟩:=fs
  cases l with
  | nil=>simp at h
  | cons f l =>
   cases l with
   | nil =>
    simp at h
    exact⟨f,hfs,h.1,h.2⟩
   | cons g l=>simp at h
 cases h
theorem Uv:Tryz.prog.underlying 133=some (.slice 3):=by kernel_rfl
theorem KW:(Tryz.prog.info? 133).map (·.size)=some 1:=by kernel_rfl
theorem yy:Tryz.prog.underlying 200=some (.pointer 135):=by kernel_rfl
theorem Zbz (n : Nat) {w : World} {b o : Nat} {v : Value} (hc : w.cell? ⟨b, o, none⟩ = some v) : Sem.run Tryz.prog (method (n + 1) 200 (.pointer (some ⟨b, o, none⟩)) "Len") w = .ok (63, v) w := by
 obtain⟨fld,h1,h2⟩:=zi
 exact JG (n:=n) q_len h1 h2 Uv KW hc
theorem UD (n : Nat) {w : World} {b o : Nat} {v : Value} (hc : w.cell? ⟨b, o, none⟩ = some v) : Sem.run Tryz.prog (method (n + 1) 200 (.pointer (some ⟨b, o, none⟩)) "Less") w = .ok (209, v) w := by
 obtain⟨fld,h1,h2⟩:=zi
 exact JG (n:=n) Zcf h1 h2 Uv KW hc
theorem KH (n : Nat) {w : World} {b o : Nat} {v : Value} (hc : w.cell? ⟨b, o, none⟩ = some v) : Sem.run Tryz.prog (method (n + 1) 200 (.pointer (some ⟨b, o, none⟩)) "Swap") w = .ok (211, v) w := by
 obtain⟨fld,h1,h2⟩:=zi
 exact JG (n:=n) Zb6 h1 h2 Uv KW hc
theorem ZcR (n : Nat) (w : World) (a : Addr) : Sem.run Tryz.prog (method (n + 1) 200 (.pointer (some a)) "Pop") w = .ok (218, .pointer (some a)) w := jW (n := n) Zdo yy w a
theorem ZbW (n : Nat) (w : World) (a : Addr) : Sem.run Tryz.prog (method (n + 1) 200 (.pointer (some a)) "Push") w = .ok (219, .pointer (some a)) w := jW (n := n) Zci yy w a
def QV (w:World) (B:Nat) (v:Value) (q:List Int):Prop:=w.ownsRow B 3 1 v q.length (ints q)
theorem QV.form {w:World} {B:Nat} {v:Value} {q:List Int} (h:QV w B v q) (hq:q≠[]):∃g cap,v=.slice (some ⟨g,0,none⟩) q.length cap∧B≤g∧g<w.heap.size∧(∀i,i<q.length→w.cell? ⟨g,i,none⟩=some (.int .i64 (q.getD i 0)))∧∀i,w.frozen? ⟨g,i,none⟩=false:=by
 have h0:0<q.length:=by cases q with
  | nil=>exact absurd rfl hq
  | cons _ _=>simp
 have h2:=h
 rcases h.2 with ⟨_,h1⟩|⟨g,cap,cur,rfl,hb,hg,_⟩
 ·omega
 exact⟨g,cap,rfl,hb,Zb hg,fun i hi=>(World.ownsRow.cellAt h2 i oq).trans (ints_at hi),World.ownsRow.frozenAt h2⟩
theorem Kq {w:World} (v:Value) (q:List Int) {B:Nat} (h:QV w B v q):Calls Tryz.prog 63 #[v] w fun x w'=>x=.returned (.int .i64 (q.length:Int))∧w'=w:=by
 obtain⟨ad,cap,rfl⟩:=Yy h
 clear h
 go_enter Tryz.func63,Tryz.ntmps63
 go_wp2
 go_ret
 exact⟨rfl,rfl⟩
theorem J7 {w:World} (v:Value) (q:List Int) {B:Nat} (h:QV w B v q) (i j:Nat) (hi:i<q.length) (hj:j<q.length) :
  Calls Tryz.prog 209 #[v,.int .i64 (i:Int),.int .i64 (j:Int)] w fun x w'=>x=.returned (.bool (decide (q.getD i 0<q.getD j 0)))∧∃m,w'=w.drewN m:=by
 obtain⟨g,cap,rfl,hB,hg,hc,hf⟩:=h.form (by intro e;rw[e] at hi;simp at hi)
 have c1:=hc i hi
 have c2:=hc j hj
 have i0:(0:Int)≤(i:Int):=oq
 have j0:(0:Int)≤(j:Int):=oq
 have i1:(i:Int)<(q.length:Int):=oq
 have j1:(j:Int)<(q.length:Int):=oq
 generalize q.getD i 0=x at c1 ⊢
 generalize q.getD j 0=y at c2 ⊢
 clear hc h
 go_enter Tryz.func209,Tryz.ntmps209
 go_upto_region 1 with fail
 go_still kq
 change Exit.then _ _ Exit.normal _ w.drew
 go_wp2
 go_ret
 exact⟨rfl,1,rfl⟩
theorem JX {w:World} (v:Value) (q:List Int) {B:Nat} (h:QV w B v q) (i j:Nat) (hi:i<q.length) (hj:j<q.length) :
  Calls Tryz.prog 211 #[v,.int .i64 (i:Int),.int .i64 (j:Int)] w fun x w'=>x=.returned (.tuple #[])∧QV w' B v (swp q i j)∧But (fun k=>v.ownBlock=some k) w w':=by
 obtain⟨g,cap,rfl,hB,hg,hc,hf⟩:=h.form (by intro e;rw[e] at hi;simp at hi)
 have c1:=hc i hi
 have c2:=hc j hj
 have f1:=hf i
 have f2:=hf j
 have i0:(0:Int)≤(i:Int):=oq
 have j0:(0:Int)≤(j:Int):=oq
 have i1:(i:Int)<(q.length:Int):=oq
 have j1:(j:Int)<(q.length:Int):=oq
 obtain⟨x,hx⟩:∃x,q.getD i 0=x:=⟨_,rfl⟩
 obtain⟨y,hy⟩:∃y,q.getD j 0=y:=⟨_,rfl⟩
 rw[hx] at c1
 rw[hy] at c2
 have main:∀W:World,W.heap=((w.setCell ⟨g,i,none⟩ (.int .i64 y)).setCell ⟨g,j,none⟩ (.int .i64 x)).heap→W.os=w.os→W.tape=w.tape→W.output=w.output→QV W B (.slice (some ⟨g,0,none⟩) q.length cap) (swp q i j)∧But (fun k=>(Value.slice (some ⟨g,0,none⟩) q.length cap).ownBlock=some k) w W:=by
  intro W h1 h2 h3 h4
  have o1:=E5 (E5 h i (.int .i64 y) hi) j (.int .i64 x) hj
  have b1:But (fun k=>(Value.slice (some ⟨g,0,none⟩) q.length cap).ownBlock=some k) w ((w.setCell ⟨g,i,none⟩ (.int .i64 y)).setCell ⟨g,j,none⟩ (.int .i64 x)):=(But.set (S:=fun k=>(Value.slice (some ⟨g,0,none⟩) q.length cap).ownBlock=some k) (b:=g) (o:=i) rfl _).trans (But.set (S:=fun k=>(Value.slice (some ⟨g,0,none⟩) q.length cap).ownBlock=some k) (b:=g) (o:=j) rfl _)
  have b2:But (fun k=>False) ((w.setCell ⟨g,i,none⟩ (.int .i64 y)).setCell ⟨g,j,none⟩ (.int .i64 x)) W:=⟨h2.trans b1.os.symm,h3.trans b1.tape.symm,h4.trans b1.output.symm,by rw[h1];exact Zc _,fun k _ _=>by rw[h1]⟩
  refine⟨?_,b1.then b2 (fun _ _ e=>e.elim)⟩
  have o2:=b2.own o1 (fun _ _ e=>e)
  rw[ints_set,ints_set] at o2
  unfold QV
  rw[Xl]
  unfold swp
  rw[hx,hy]
  exact o2
 have HM:=hid main
 obtain⟨u,hu⟩:∃u,(w.setCell ⟨g,i,none⟩ (.int .i64 y)).cell? ⟨g,j,none⟩=some u:=by
  have:=World.ownsRow.cellAt (E5 h i (.int .i64 y) hi) j oq
  rw[this]
  exact⟨_,Ze (by simp[Ja];omega)⟩
 clear main hc hf h hx hy
 go_enter Tryz.func211,Tryz.ntmps211
 go_region
 all_goals go_wp2
 all_goals (go_end0;exact⟨rfl,HM.out _ rfl rfl rfl rfl⟩)
theorem uo (x:Int) (w:World):(Instr.typeAssert (.iface 3 (.int .i64 x)) 20 3 false).run Tryz.prog w=.ok (.int .i64 x) w:=by kernel_rfl
theorem JK:(Tryz.prog.info? 3).map (fun i=>(i.zero,i.size,i.bytes))=some (some (.int .i64 0),1,8):=by kernel_rfl
structure QM (w:World) (b o B:Nat) (v:Value) (q:List Int):Prop where
 cell:w.cell? ⟨b,o,none⟩=some v
 fz:w.frozen? ⟨b,o,none⟩=false
 own:QV w B v q
 lt:b<B
 hi:B≤w.heap.size
def JS (w:World) (b o B:Nat) (v:Value) (q':List Int) (w':World):Prop:=∃v' arr t arr',QM w' b o B v' q'∧(∀k,v'.ownBlock=some k→v.ownBlock=some k∨w.heap.size≤k)∧But (fun k=>k=b∨v.ownBlock=some k) w w' ∧
 w.heap[b]?=some (.cells arr t (0,0))∧w'.heap[b]?=some (.cells arr' t (0,0))∧arr'=arr.setIfInBounds o v'
theorem QM.but {w w':World} {b o B:Nat} {v:Value} {q:List Int} (h:QM w b o B v q) {S:Nat→Prop} (hb:But S w w') (h1:¬S b) (h2:∀k,v.ownBlock=some k→¬S k):QM w' b o B v q:=by
 have hlt:b<w.heap.size:=Zd h.lt h.hi
 exact⟨(Zn (w:=w) (hb.block b hlt h1)).trans h.cell,(Z6 (w:=w) (hb.block b hlt h1)).trans h.fz,hb.own h.own h2,h.lt,Zm h.hi hb.size⟩
theorem QM.keep {w w':World} {b o B:Nat} {v:Value} {q:List Int} (h:QM w b o B v q) (hb:Below w.heap.size w w'):QM w' b o B v q:=h.but (But.of_below (S:=fun _=>False) hb) (fun h=>h) (fun _ _ h=>h)
theorem JQ {w:World} {B:Nat} {v:Value} {q:List Int} (h:QV w B v q):∀k,v.ownBlock=some k→B≤k∧k<w.heap.size:=World.ownsRow.lt h
theorem uj {w:World} {b o B:Nat} {v:Value} {q:List Int} {arr:Array Value} {t:TypeId} (h:QM w b o B v q) (ha:w.heap[b]?=some (.cells arr t (0,0))) (hq:q.length≤100000) (x:Int) :
  Calls Tryz.prog 219 #[.pointer (some ⟨b,o,none⟩),.iface 3 (.int .i64 x)] w fun y w'=>y=.returned (.tuple #[])∧JS w b o B v (q++[x]) w':=by
 obtain⟨i0,hi0,hi1,hi2,hi3⟩:=info_parts JK
 have HI:=hid (Zh hi0 (Zh hi1 (Zh hi2 hi3)))
 have c0:=h.cell
 have f0:=h.fz
 have hbB:=h.lt
 have hBw:=h.hi
 have HM:=hid h
 obtain⟨ad,cap,rfl⟩:=Yy h.own
 have main:∀(w4 W:World) (gg cap4:Nat),w4.ownsRow B 3 1 (.slice (some ⟨gg,0,none⟩) (q.length+1) cap4) (q.length+1) (ints q++[.int .i64 x])→But (fun k=>(Value.slice ad q.length cap).ownBlock=some k) w w4→((Value.slice ad q.length cap).ownBlock=some gg∨w.heap.size≤gg) →
   W=(w4.setCell ⟨b,o,none⟩ (.slice (some ⟨gg,0,none⟩) (q.length+1) cap4))→JS w b o B (.slice ad q.length cap) (q++[x]) W:=by
  intro w4 W gg cap4 ho hbt hgg hW
  subst hW
  have hob:=JQ HM.out.own
  have hblt:b<w.heap.size:=Zd hbB hBw
  have hb4:=hbt.block b hblt (fun e=>by have:=(hob b e).1;omega)
  have hs:=But.set (S:=fun k=>k=b) (w:=w4) (o:=o) rfl (.slice (some ⟨gg,0,none⟩) (q.length+1) cap4)
  have hc4:(w4.setCell ⟨b,o,none⟩ (.slice (some ⟨gg,0,none⟩) (q.length+1) cap4)).heap[b]?=some (.cells (arr.setIfInBounds o (.slice (some ⟨gg,0,none⟩) (q.length+1) cap4)) t (0,0)):=Zj w4 b o arr t _ (hb4.trans ha)
  have hoa:o<arr.size:=by
   have:=HM.out.cell
   rw[Z7 w b o arr t (0,0) ha] at this
   exact(Zq.1 this).1
  refine⟨_,arr,t,_,⟨?_,?_,?_,hbB,Zm hBw (Zm hbt.size hs.size)⟩,?_,(hbt.imp (fun i _ e=>.inr e)).then hs (fun i _ e=>.inl e),ha,hc4,rfl⟩
  ·rw[Z7 _ b o _ t (0,0) hc4];simp[hoa]
  ·simp[World.frozen?,hc4]
  ·have:=hs.own ho (fun k hk e=>by have:=(World.ownsRow.lt ho k hk).1;omega)
   unfold QV
   rw[←Jq]
   simpa using this
  intro k hk
  cases hk
  exact hgg
 have HMN:=hid main
 have hta:=uo x
 have hblt:b<w.heap.size:=oq
 have hbne:¬b=w.heap.size:=oq
 clear main h hi0 hi1 hi2 hi3
 go_enter Tryz.func219,Tryz.ntmps219
 go_region_law (refine step_append_lies _ (by rfl) _ _ _ (by rfl) B 3 i0 _ 1 8 Tryz.underlying133 HI.out.1 HI.out.2.1 HI.out.2.2.1 HI.out.2.2.2 rfl oq (.slice ad q.length cap) q.length (ints q) (by rfl) ((HM.out.keep bq).own) ⟨w.heap.size,0,none⟩ 1 1 [.int .i64 x] (by rfl) (by rfl) (World.news_of_block (Zz _ _)) (by simp[Value.oneCell']) oq (by unfold maxLen;omega) oq (by simp;omega) (w.heap.size+1) (by simp) ?_;intro gg cap4 w4 hown4 hgrow4 hat4 hlt4;have hbt4:But (fun k=>(Value.slice ad q.length cap).ownBlock=some k) w w4:=(But.of_below (bq:Below w.heap.size w _)).then (But.of_grown hgrow4) (fun i _ e=>e);have hnb:¬(Value.slice ad q.length cap).ownBlock=some b:=(fun e=>by have:=(JQ HM.out.own b e).1;omega);have c4:=(Zn (a:=⟨b,o,none⟩) (hbt4.block b oq hnb)).trans c0;have f4:=(Z6 (a:=⟨b,o,none⟩) (hbt4.block b oq hnb)).trans f0;have HO4:=hid hown4;have HBT4:=hid hbt4;have HG4:=hid (show(Value.slice ad q.length cap).ownBlock=some gg∨w.heap.size≤gg from hat4.elim .inl (fun e=>.inr oq));clear hown4 hgrow4 hat4 hbt4)
 all_goals (go_wp2;go_end0;exact⟨rfl,HMN.out _ _ gg cap4 HO4.out HBT4.out HG4.out rfl⟩)
theorem gX {w:World} {b o B:Nat} {v:Value} {q:List Int} {arr:Array Value} {t:TypeId} (h:QM w b o B v q) (ha:w.heap[b]?=some (.cells arr t (0,0))) (hq:q≠[]) (hql:q.length≤100000) :
  Calls Tryz.prog 218 #[.pointer (some ⟨b,o,none⟩)] w fun y w'=>y=.returned (.iface 3 (.int .i64 (q.getD (q.length-1) 0)))∧JS w b o B v (q.take (q.length-1)) w':=by
 obtain⟨g,cap,rfl,hBg,hg,hc,hf⟩:=h.own.form hq
 have h0:0<q.length:=by cases q with
  | nil=>exact absurd rfl hq
  | cons _ _=>simp
 have c0:=h.cell
 have f0:=h.fz
 have hbB:=h.lt
 have hBw:=h.hi
 obtain⟨n,hn⟩:∃n,q.length=n+1:=⟨q.length-1,oq⟩
 have c1:=hc n oq
 have main:JS w b o B (.slice (some ⟨g,0,none⟩) q.length cap) (q.take (q.length-1)) (w.setCell ⟨b,o,none⟩ (.slice (some ⟨g,0,none⟩) n cap)):=by
  have hs:=But.set (S:=fun k=>k=b) (w:=w) (o:=o) rfl (.slice (some ⟨g,0,none⟩) n cap)
  have hc4:(w.setCell ⟨b,o,none⟩ (.slice (some ⟨g,0,none⟩) n cap)).heap[b]?=some (.cells (arr.setIfInBounds o (.slice (some ⟨g,0,none⟩) n cap)) t (0,0)):=Zj w b o arr t _ ha
  have hoa:o<arr.size:=by
   rw[Z7 w b o arr t (0,0) ha] at c0
   exact(Zq.1 c0).1
  refine⟨.slice (some ⟨g,0,none⟩) n cap,arr,t,_,⟨?_,?_,?_,hbB,Zm hBw hs.size⟩,fun k hk=>.inl hk,hs.imp (fun i _ e=>.inl e),ha,hc4,rfl⟩
  ·rw[Z7 _ b o _ t (0,0) hc4];simp[hoa]
  ·simp[World.frozen?,hc4]
  have h1:=gw (m:=n) h.own oq
  have h2:=hs.own h1 (fun k hk e=>by have hk2:g=k:=(by simpa [Value.ownBlock] using hk);subst hk2;omega)
  unfold QV
  rw[hn,Nat.add_sub_cancel,Yb,show min n q.length=n by omega,show ints (q.take n)=(ints q).take n by unfold ints;rw[List.map_take]]
  exact h2
 have HMN:=hid main
 obtain⟨x,hx⟩:∃x,q.getD n 0=x:=⟨_,rfl⟩
 have HX:=hid (show q.getD (q.length-1) 0=x by rw[hn,Nat.add_sub_cancel];exact hx)
 rw[HX.out]
 rw[hx] at c1
 rw[hn] at HMN c0
 rw[hn]
 have hw1:IntKind.i64.wrap (((n+1:Nat):Int)-1)=(n:Int):=by rw[show((n+1:Nat):Int)-1=(n:Int) by omega];exact ZK _ oq
 have HLEN:=hid (fun(W:World) (hb:Below w.heap.size w W)=>Kq (w:=W) _ q (B:=B) ((h.keep hb).own))
 rw[hn] at HLEN
 have n0:(0:Int)≤(n:Int):=oq
 have n1:(n:Int)<((n+1:Nat):Int):=oq
 have n2:(n:Int)≤((n+1:Nat):Int):=oq
 have hcap:n+1≤cap:=by
  rcases h.own.2 with ⟨e,_⟩|⟨_,_,_,e,_,_,e2,_⟩
  ·cases e
  injection e with _ _ e3;rw[e3];omega
 have n3:(n:Int)≤(cap:Int):=oq
 clear main hc hf h hx HX
 go_enter Tryz.func218,Tryz.ntmps218
 go_wp2_with (go_at_call 63;refine(HLEN.out _ bq).mono ?_;rintro y w2 ⟨rfl,rfl⟩)
 go_ret
 exact⟨rfl,HMN.out⟩
structure ZcK (w:World) (b o B:Nat) (v:Value) (ans:List Int) (n:Nat) (q:List Int) (j:Nat) (wr:World):Prop where
 go:upP n q j=ans
 fuel:j<n
 lt:j<q.length
 len:q.length≤100000
 qm:QM wr b o B v q
 but:But (fun k=>v.ownBlock=some k) w wr
theorem Zbg (j:Nat):((j:Int)-1).tdiv 2=(((j-1)/2:Nat):Int):=by
 cases j with
 | zero=>decide
 | succ j =>
  rw[show((j+1:Nat):Int)-1=(j:Int) by omega,Nat.add_sub_cancel]
  rfl
theorem Zca {w:World} {b o B:Nat} {v:Value} {q:List Int} (h:QM w b o B v q) (n j:Nat) (hn:j<n) (hj:j<q.length) (hq:q.length≤100000) :
  Calls Tryz.prog 121 #[.iface 200 (.pointer (some ⟨b,o,none⟩)),.int .i64 (j:Int)] w fun y w'=>y=.returned (.tuple #[])∧QM w' b o B v (upP n q j)∧But (fun k=>v.ownBlock=some k) w w':=by
 obtain⟨ans,hans⟩:∃ans,upP n q j=ans:=⟨_,rfl⟩
 rw[hans]
 have HST:=hid (show ZcK w b o B v ans n q j w from ⟨hans,hn,hj,hq,h,But.refl _ _⟩)
 clear h hn hj hq hans
 go_enter Tryz.func121,Tryz.ntmps121
 go_wp2
 go_loopw [1] (fun s1 wr=>Hid (∃n q j,s1=.int .i64 ((j:Nat):Int)∧ZcK w b o B v ans n q j wr)) (fun s _=>(intOf s).toNat)
 case atStart=>exact⟨n,q,j,rfl,HST.out⟩
 clear HST
 obtain⟨n,q,j,rfl,hat⟩:=hrel.out
 clear hrel
 have hlen:=hat.len
 have hjl:=hat.lt
 have hfu:=hat.fuel
 have c0:=hat.qm.cell
 have HA:=hid hat
 have mL:=fun n=>UD n c0
 have hhf:=Zbg j
 obtain⟨i,hi⟩:∃i,(j-1)/2=i:=⟨_,rfl⟩
 rw[hi] at hhf
 obtain⟨m,rfl⟩:∃m,n=m+1:=⟨n-1,oq⟩
 have hgo:=hat.go
 rw[upP,hi] at hgo
 clear hat
 by_cases hij:i=j
 ·rw[Z2 hij] at hgo
  subst hgo
  have hie:((i:Int) == (j:Int))=true:=by rw[beq_iff_eq];omega
  go_wp2
  go_end0
  exact⟨rfl,HA.out.qm,HA.out.but⟩
 rw[Z1 hij] at hgo
 have hie:((i:Int) == (j:Int))=false:=by rw[ZY];omega
 have hlt:i<j:=oq
 have HLS:=hid (J7 (w:=wr) v q HA.out.qm.own j i hjl oq)
 by_cases hl:q.getD j 0<q.getD i 0
 ·rw[Z2 hl] at hgo
  rw[Z0 hl] at HLS
  have HGO:=hid hgo
  clear hgo hi
  go_wp2_with (first|(go_at_call 209;refine HLS.out.mono ?_;rintro y w2 ⟨rfl,m2,rfl⟩;have mS:=fun n=>KH n (w:=wr.drewN m2) (b:=b) (o:=o) (v:=v) c0;have HSW:=hid (JX (w:=wr.drewN m2) v q (show QV (wr.drewN m2) B v q from HA.out.qm.own) i j oq hjl))|(go_at_call 211;refine HSW.out.mono ?_;rintro y w3 ⟨rfl,hq3,hb3⟩;have HQ3:=hid hq3;have HB3:=hid hb3;clear hq3 hb3))
  have hb:But (fun k=>v.ownBlock=some k) wr w3:=((But.refl _ wr).drewN m2).trans HB3.out
  have hvb:¬v.ownBlock=some b:=fun e=>by have:=(JQ HA.out.qm.own b e).1;have:=HA.out.qm.lt;omega
  have hbl:b<wr.heap.size:=Zd HA.out.qm.lt HA.out.qm.hi
  exact⟨hid ⟨m,swp q i j,i,rfl,HGO.out,oq,by rw[Xl];omega,by rw[Xl];exact hlen,⟨(Zn (w:=wr) (hb.block b hbl hvb)).trans HA.out.qm.cell,(Z6 (w:=wr) (hb.block b hbl hvb)).trans HA.out.qm.fz,HQ3.out,HA.out.qm.lt,Zm HA.out.qm.hi hb.size⟩,HA.out.but.trans hb⟩,by simp[intOf];omega⟩
 rw[Z1 hl] at hgo
 subst hgo
 rw[ZZ hl] at HLS
 clear hi
 go_wp2_with (go_at_call 209;refine HLS.out.mono ?_;rintro y w2 ⟨rfl,m2,rfl⟩)
 go_end0
 have hb:But (fun k=>v.ownBlock=some k) wr (wr.drewN m2):=(But.refl _ wr).drewN m2
 exact⟨rfl,⟨HA.out.qm.cell,HA.out.qm.fz,HA.out.qm.own,HA.out.qm.lt,HA.out.qm.hi⟩,HA.out.but.trans hb⟩
structure Gi (w:World) (b o B:Nat) (v:Value) (ans:List Int) (n:Nat) (k:Nat) (q:List Int) (i:Nat) (wr:World):Prop where
 go:Qi k q i n=ans
 fuel:n-i≤k
 le:n≤q.length
 lt:i<n∨n=0∧i=0
 len:q.length≤100000
 qm:QM wr b o B v q
 but:But (fun k=>v.ownBlock=some k) w wr
theorem Gi.next {w:World} {b o B:Nat} {v:Value} {ans:List Int} {n k i kd:Nat} {q:List Int} {wr:World} (h:Gi w b o B v ans n (k+1) q i wr) (hk:kd<n∧i<kd) (hgo:Qi k (swp q i kd) kd n=ans) {w3:World} {m2:Nat}
  (hq3:QV w3 B v (swp q i kd)) (hb3:But (fun k=>v.ownBlock=some k) (wr.drewN m2) w3):Gi w b o B v ans n k (swp q i kd) kd w3:=by
 have hb:But (fun k=>v.ownBlock=some k) wr w3:=((But.refl _ wr).drewN m2).trans hb3
 have hvb:¬v.ownBlock=some b:=fun e=>by have:=(JQ h.qm.own b e).1;have:=h.qm.lt;omega
 have hbl:b<wr.heap.size:=Zd h.qm.lt h.qm.hi
 have hf:=h.fuel
 have hl:=h.lt
 exact⟨hgo,oq,by rw[Xl];exact h.le,.inl hk.1,by rw[Xl];exact h.len,⟨(Zn (w:=wr) (hb.block b hbl hvb)).trans h.qm.cell,(Z6 (w:=wr) (hb.block b hbl hvb)).trans h.qm.fz,hq3,h.qm.lt,Zm h.qm.hi hb.size⟩,h.but.trans hb⟩
def Zc0 (y:Ending):Prop:=∃c:Bool,y=.returned (.bool c)
theorem Zad {w:World} {b o B:Nat} {v:Value} {q:List Int} (h:QM w b o B v q) (k n:Nat) (hn:n≤q.length) (hk:n≤k) (hq:q.length≤100000) :
  Calls Tryz.prog 122 #[.iface 200 (.pointer (some ⟨b,o,none⟩)),.int .i64 0,.int .i64 (n:Int)] w fun y w'=>Zc0 y∧QM w' b o B v (Qi k q 0 n)∧But (fun k=>v.ownBlock=some k) w w':=by
 obtain⟨ans,hans⟩:∃ans,Qi k q 0 n=ans:=⟨_,rfl⟩
 rw[hans]
 have HST:=hid (show Gi w b o B v ans n k q 0 w from ⟨hans,oq,hn,oq,hq,h,But.refl _ _⟩)
 clear h hk hn hq hans
 go_enter Tryz.func122,Tryz.ntmps122
 go_wp2
 go_loopw [7] (fun s7 wr=>Hid (∃k q i,s7=.int .i64 ((i:Nat):Int)∧Gi w b o B v ans n k q i wr)) (fun s _=>n-(intOf s).toNat)
 case atStart=>exact⟨k,q,0,rfl,HST.out⟩
 clear HST
 obtain⟨k,q,i,rfl,hat⟩:=hrel.out
 clear hrel
 have hlen:=hat.len
 have hnl:=hat.le
 have hfu:=hat.fuel
 have hil:=hat.lt
 have c0:=hat.qm.cell
 have HA:=hid hat
 have hgo:=hat.go
 have mL:=fun n=>UD n c0
 obtain⟨j1,hj1⟩:∃j1,2*i+1=j1:=⟨_,rfl⟩
 obtain⟨j2,hj2⟩:∃j2,2*i+2=j2:=⟨_,rfl⟩
 have e1:2*(i:Int)+1=(j1:Int):=oq
 have e2:(j1:Int)+1=(j2:Int):=oq
 have n1:¬(j1:Int)<0:=oq
 have hib:i≤100000:=oq
 have hj1b:j1≤200001:=oq
 clear hat
 by_cases hn1:n≤j1
 ·have hans:q=ans:=by
   cases k with
   | zero=>exact hgo
   | succ k=>rw[Qi,Z2 oq] at hgo;exact hgo
  subst hans
  have hge:(n:Int)≤(j1:Int):=oq
  clear hgo hil hj1 hj2
  go_wp2
  all_goals (go_ret;exact⟨⟨_,rfl⟩,HA.out.qm,HA.out.but⟩)
 obtain⟨k,rfl⟩:∃m,k=m+1:=⟨k-1,oq⟩
 rw[Qi,Z1 oq] at hgo
 have hge:¬(n:Int)≤(j1:Int):=oq
 have hge2:(j1:Int)<(n:Int):=oq
 have hkd0:=jj (l:=q) (i:=i) (n:=n) oq
 have hKD:za q i n=if j2<n∧q.getD j2 0<q.getD j1 0 then j2 else j1:=by unfold za;rw[hj1,hj2]
 obtain⟨kd,hkd⟩:∃kd,za q i n=kd:=⟨_,rfl⟩
 rw[hkd] at hgo hkd0 hKD
 have HGO:=hid hgo
 have HKD:=hid hkd0
 have hkl:=hkd0.1
 have hik:=hkd0.2
 clear hgo hkd hkd0 hj1 hil
 by_cases hn2:j2<n
 ·have hlt2:(j2:Int)<(n:Int):=oq
  have HLS:=hid (J7 (w:=wr) v q HA.out.qm.own j2 j1 oq oq)
  by_cases hl:q.getD j2 0<q.getD j1 0
  ·rw[Z2 ⟨hn2,hl⟩] at hKD
   subst hKD
   rw[Z0 hl] at HLS
   have HLS2:=hid (fun m=>J7 (w:=wr.drewN m) v q HA.out.qm.own kd i oq oq)
   by_cases hl2:q.getD kd 0<q.getD i 0
   ·have HG:=hid (show Qi k (swp q i kd) kd n=ans by have:=HGO.out;rw[Z2 hl2] at this;exact this)
    rw[Z0 hl2] at HLS2
    clear hl hl2 HGO hj2
    go_wp2_with (first|(go_at_call 209;refine HLS.out.mono ?_;rintro y w2 ⟨rfl,m1,rfl⟩;have mL2:=fun n=>UD n (w:=wr.drewN m1) (b:=b) (o:=o) (v:=v) c0;have HL2:=hid (HLS2.out m1);clear HLS)|(go_at_call 209;refine HL2.out.mono ?_;rintro y w2 ⟨rfl,m2,rfl⟩;have mS:=fun n=>KH n (w:=wr.drewN (m1+m2)) (b:=b) (o:=o) (v:=v) c0;have HSW:=hid (JX (w:=wr.drewN (m1+m2)) v q (show QV _ B v q from HA.out.qm.own) i kd oq oq))|(go_at_call 211;refine HSW.out.mono ?_;rintro y w3 ⟨rfl,hq3,hb3⟩;have HQ3:=hid hq3;have HB3:=hid hb3;clear hq3 hb3))
    exact⟨hid ⟨k,swp q i kd,kd,rfl,HA.out.next HKD.out HG.out (m2:=m1+m2) HQ3.out HB3.out⟩,by simp[intOf];omega⟩
   have hans:q=ans:=by have:=HGO.out;rw[Z1 hl2] at this;exact this
   rw[ZZ hl2] at HLS2
   subst hans
   clear hl hl2 HGO hj2
   go_wp2_with (first|(go_at_call 209;refine HLS.out.mono ?_;rintro y w2 ⟨rfl,m1,rfl⟩;have mL2:=fun n=>UD n (w:=wr.drewN m1) (b:=b) (o:=o) (v:=v) c0;have HL2:=hid (HLS2.out m1);clear HLS)|(go_at_call 209;refine HL2.out.mono ?_;rintro y w2 ⟨rfl,m2,rfl⟩))
   all_goals (go_ret;exact⟨⟨_,rfl⟩,⟨HA.out.qm.cell,HA.out.qm.fz,HA.out.qm.own,HA.out.qm.lt,HA.out.qm.hi⟩,HA.out.but.trans ((But.refl _ wr).drewN (m1+m2))⟩)
  rw[Z1 (fun e=>hl e.2)] at hKD
  subst hKD
  rw[ZZ hl] at HLS
  have HLS2:=hid (fun m=>J7 (w:=wr.drewN m) v q HA.out.qm.own kd i oq oq)
  by_cases hl2:q.getD kd 0<q.getD i 0
  ·have HG:=hid (show Qi k (swp q i kd) kd n=ans by have:=HGO.out;rw[Z2 hl2] at this;exact this)
   rw[Z0 hl2] at HLS2
   clear hl hl2 HGO hj2
   go_wp2_with (first|(go_at_call 209;refine HLS.out.mono ?_;rintro y w2 ⟨rfl,m1,rfl⟩;have mL2:=fun n=>UD n (w:=wr.drewN m1) (b:=b) (o:=o) (v:=v) c0;have HL2:=hid (HLS2.out m1);clear HLS)|(go_at_call 209;refine HL2.out.mono ?_;rintro y w2 ⟨rfl,m2,rfl⟩;have mS:=fun n=>KH n (w:=wr.drewN (m1+m2)) (b:=b) (o:=o) (v:=v) c0;have HSW:=hid (JX (w:=wr.drewN (m1+m2)) v q (show QV _ B v q from HA.out.qm.own) i kd oq oq))|(go_at_call 211;refine HSW.out.mono ?_;rintro y w3 ⟨rfl,hq3,hb3⟩;have HQ3:=hid hq3;have HB3:=hid hb3;clear hq3 hb3))
   exact⟨hid ⟨k,swp q i kd,kd,rfl,HA.out.next HKD.out HG.out (m2:=m1+m2) HQ3.out HB3.out⟩,by simp[intOf];omega⟩
  have hans:q=ans:=by have:=HGO.out;rw[Z1 hl2] at this;exact this
  rw[ZZ hl2] at HLS2
  subst hans
  clear hl hl2 HGO hj2
  go_wp2_with (first|(go_at_call 209;refine HLS.out.mono ?_;rintro y w2 ⟨rfl,m1,rfl⟩;have mL2:=fun n=>UD n (w:=wr.drewN m1) (b:=b) (o:=o) (v:=v) c0;have HL2:=hid (HLS2.out m1);clear HLS)|(go_at_call 209;refine HL2.out.mono ?_;rintro y w2 ⟨rfl,m2,rfl⟩))
  all_goals (go_ret;exact⟨⟨_,rfl⟩,⟨HA.out.qm.cell,HA.out.qm.fz,HA.out.qm.own,HA.out.qm.lt,HA.out.qm.hi⟩,HA.out.but.trans ((But.refl _ wr).drewN (m1+m2))⟩)
 have hlt2:¬(j2:Int)<(n:Int):=oq
 rw[Z1 (fun e=>hn2 e.1)] at hKD
 subst hKD
 have HLS2:=hid (J7 (w:=wr) v q HA.out.qm.own kd i oq oq)
 by_cases hl2:q.getD kd 0<q.getD i 0
 ·have HG:=hid (show Qi k (swp q i kd) kd n=ans by have:=HGO.out;rw[Z2 hl2] at this;exact this)
  rw[Z0 hl2] at HLS2
  clear hl2 HGO hj2
  go_wp2_with (first|(go_at_call 209;refine HLS2.out.mono ?_;rintro y w2 ⟨rfl,m2,rfl⟩;have mS:=fun n=>KH n (w:=wr.drewN m2) (b:=b) (o:=o) (v:=v) c0;have HSW:=hid (JX (w:=wr.drewN m2) v q (show QV _ B v q from HA.out.qm.own) i kd oq oq))|(go_at_call 211;refine HSW.out.mono ?_;rintro y w3 ⟨rfl,hq3,hb3⟩;have HQ3:=hid hq3;have HB3:=hid hb3;clear hq3 hb3))
  exact⟨hid ⟨k,swp q i kd,kd,rfl,HA.out.next HKD.out HG.out (m2:=m2) HQ3.out HB3.out⟩,by simp[intOf];omega⟩
 have hans:q=ans:=by have:=HGO.out;rw[Z1 hl2] at this;exact this
 rw[ZZ hl2] at HLS2
 subst hans
 clear hl2 HGO hj2
 go_wp2_with (go_at_call 209;refine HLS2.out.mono ?_;rintro y w2 ⟨rfl,m2,rfl⟩)
 all_goals (go_ret;exact⟨⟨_,rfl⟩,⟨HA.out.qm.cell,HA.out.qm.fz,HA.out.qm.own,HA.out.qm.lt,HA.out.qm.hi⟩,HA.out.but.trans ((But.refl _ wr).drewN m2)⟩)
end Go.Proofs.YtgigilkpndhddaaGreatDoor.syn
