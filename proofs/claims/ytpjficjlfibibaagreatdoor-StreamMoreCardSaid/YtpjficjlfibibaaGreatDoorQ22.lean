/-
  Parts of the proof: Nam4, Shelf, Flt1, Flt2.
-/
import Derived.Test.YtpjficjlfibibaaGreatDoorQ20
import Derived.Test.YtpjficjlfibibaaGreatDoorQ21
import Derived.Shelf.Strconv.Itoa0
import Derived.Shelf.Strconv.Itoa1
import Derived.Shelf.LaysM
import Derived.Shelf.Strconv.Itoa2
import Derived.Shelf.Strconv.Itoa3
import Derived.Shelf.Sort.Plain
import Derived.Ground.Names2Prog
import Derived.Shelf.Slices.Clone
import Derived.Shelf.Slices.CompactI
import Derived.Shelf.Slices.Cells
import Derived.Shelf.Slices.In.SortNone
import Derived.Test.YtpjficjlfibibaaGreatDoorProg
import Derived.Deep.RegionHeld3
namespace Go.Proofs.YtpjficjlfibibaaGreatDoor.syn
open Go.RowKit
set_option linter.unusedVariables false
set_option linter.unusedSimpArgs false
theorem sumN_le {c:Nat}:∀ l:List ND,(∀ x ∈ l,x.body.sz ≤ c) → sumN l ≤ l.length * c:=by
 intro l
 induction l with
 | nil => intro _;simp [sumN]
 | cons x l ih =>
  intro h
  have h1:=h x (by simp)
  have h2:=ih (fun y hy => h y (by simp [hy]))
  unfold PE.sz at h1
  simp only [sumN,List.length_cons,Nat.succ_mul]
  omega
theorem sumF_le {c:Nat}:∀ l:List FL,(∀ x ∈ l,x.e.sz ≤ c) → sumF l ≤ l.length * c:=by
 intro l
 induction l with
 | nil => intro _;simp [sumF]
 | cons x l ih =>
  intro h
  have h1:=h x (by simp)
  have h2:=ih (fun y hy => h y (by simp [hy]))
  unfold PE.sz at h1
  simp only [sumF,List.length_cons,Nat.succ_mul]
  omega
theorem sz_of_szL {l:PL} (h:szL l 1 100 ≤ 100):l.sz + 1 ≤ 100:=by
 have:=szL_sz l 1 100 oq oq h
 omega
structure PgOK (p:PG):Prop where
 nodes:∀ x ∈ p.nodes,Ar2E x.body ∧ x.body.sz ≤ 100
 flows:∀ x ∈ p.flows,x.e.sz ≤ 100 ∧ exprOK x.e = true
 lens:p.nodes.length ≤ 40 ∧ p.ins.length ≤ 40 ∧ p.flows.length ≤ 40 ∧ p.outs.length ≤ 40
 sums:sumN p.nodes + sumF p.flows ≤ 8000
 ins:∀ x ∈ p.ins,clock.rightB x.per x.ph = true
theorem RightF.ok {p:PG} (h:RightF p):PgOK p:=by
 have hl:=h.lens
 have h1:∀ x ∈ p.nodes,Ar2E x.body ∧ x.body.sz ≤ 100:=fun x hx => ⟨bodyB_ar2 (h.nodes x hx).2.2.2.2,sz_of_szL (h.nodes x hx).1⟩
 have h2:∀ x ∈ p.flows,x.e.sz ≤ 100 ∧ exprOK x.e = true:=fun x hx => ⟨sz_of_szL (h.flows x hx).1,(h.flows x hx).2⟩
 refine ⟨h1,h2,by omega,?_,fun x hx => ?_⟩
 ·have h3:=sumN_le p.nodes (fun x hx => (h1 x hx).2)
  have h4:=sumF_le p.flows (fun x hx => (h2 x hx).1)
  omega
 ·obtain ⟨h5,h6⟩:=h.ins x hx
  simp only [inB,Bool.and_eq_true,decide_eq_true_eq] at h5 h6
  exact clock.right_yes ⟨by omega,by omega,by omega,by omega⟩
def Nms2 (W2:World) (v:Value) (wr:World):Prop:=∃ j:Nat,v = .int .i64 (j:Int) ∧ j ≤ 4 ∧ Below W2.heap.size W2 wr
set_option maxRecDepth 100000 in
set_option maxHeartbeats 4000000 in
theorem names_gen {w:World} (p:PG) (an ai af ao:Option Addr) (cn ci cf co:Nat) (hp:AP w p an ai af ao cn ci cf co) (hz:NZ w p.nodes an) (hok:PgOK p) :
  Calls Tryz.prog 137 #[pv p an ai af ao cn ci cf co] w fun x w' => PairAns x ∧ Below w.heap.size w w':=by
 obtain ⟨nodes,ins,flows,outs⟩:=p
 have hnz:∀ w',Below w.heap.size w w' → NZ w' nodes an:=fun w' hb => hz.below hp.nodes hb
 have HFT:=hid (fun (w':World) (hb:Below w.heap.size w w') => fits_any ⟨nodes,ins,flows,outs⟩ an ai af ao cn ci cf co (hp.below hb) hok.sums)
 have H0:=hid (fun (w':World) (hb:Below w.heap.size w w') => askNodes_gen (w:=w') nodes ins flows outs an ai af ao cn ci cf co (hp.below hb) (hnz w' hb) hok.nodes)
 have H1:=hid (fun (w':World) (hb:Below w.heap.size w w') => askSources_gen (w:=w') nodes ins flows outs an ai af ao cn ci cf co (hp.below hb))
 have H2:=hid (fun (w':World) (hb:Below w.heap.size w w') => askExprs_gen (w:=w') nodes ins flows outs an ai af ao cn ci cf co (hp.below hb))
 have H3:=hid (fun (w':World) (hb:Below w.heap.size w w') => askOutputs_gen (w:=w') nodes ins flows outs an ai af ao cn ci cf co (hp.below hb))
 clear hp hok hz hnz
 unfold pv PairAns at *
 simp only at HFT H0 H1 H2 H3 ⊢
 go_enter Tryz.func137,Tryz.ntmps137
 go_wp2_with (go_at_call 44;refine (HFT.out _ bq).mono ?_;rintro x w1 ⟨rfl,hb1⟩;obtain ⟨hc1,hf1⟩:=bcell hb1;have b1:w.heap.size < w1.heap.size:=sz_of hb1 oq)
 obtain ⟨W2,hW2⟩:∃ W2,w1.alloc (Obj.cells #[.func (.func 173) #[] #[],.func (.func 174) #[] #[],.func (.func 175) #[] #[],.func (.func 176) #[] #[]] 234) = W2:=⟨_,rfl⟩
 obtain ⟨fb,hfb⟩:∃ fb,w1.heap.size = fb:=⟨_,rfl⟩
 have HPB:=hid (show W2.heap[w.heap.size]? = some (.cells #[.slice an nodes.length cn,.slice ai ins.length ci,.slice af flows.length cf,.slice ao outs.length co] 27 (0,0)) from by rw [← hW2];exact (Below.heap_alloc _ _ _ b1).trans ((hb1.block _ oq).trans (heap_new w _)))
 have HFB:=hid (show W2.heap[fb]? = some _ from by rw [← hW2,← hfb];exact heap_new w1 _)
 have HB2:=hid (show Below w.heap.size w W2 from by rw [← hW2];exact bq)
 have hsz2:W2.heap.size = fb + 1:=by rw [← hW2,← hfb];simp
 rw [hfb] at b1
 try rw [hW2]
 try rw [hfb]
 clear hW2 hfb hb1 hc1 hf1
 go_loopw [13] (fun v wr => Hid (Nms2 W2 v wr)) (fun i _ => 4 - (intOf i).toNat)
 case atStart => exact ⟨0,rfl,by omega,Below.refl _ _⟩
 case round =>
  obtain ⟨j,rfl,hj,hbel⟩:=hrel.out
  clear hrel
  have hszr:=hbel.size
  have hpb:=(hbel.block _ oq).trans HPB.out
  have hfbk:=(hbel.block _ oq).trans HFB.out
  obtain ⟨⟨p0,p1,p2,p3⟩,pf⟩:=cells4 hpb
  obtain ⟨⟨q0,q1,q2,q3⟩,qf⟩:=cells4 hfbk
  have HBW:=hid (HB2.out.trans (hbel.mono oq))
  have HB:=hid hbel
  clear hpb hfbk hbel
  match j,hj with
  | 0,_ =>
   go_wp2_with (go_at_call 173;refine (H0.out _ HBW.out).mono ?_;rintro x w3 ⟨⟨ea,ee,rfl⟩,hb3⟩;have HB3:=hid hb3;clear hb3)
   ·go_ret2
    exact ⟨⟨_,_,rfl⟩,HBW.out.trans (HB3.out.mono (by have:=HBW.out.size;omega))⟩
   ·refine ⟨⟨1,by go_num,by omega,HB.out.trans (HB3.out.mono hszr)⟩,by simp [intOf]⟩
  | 1,_ =>
   go_wp2_with (go_at_call 174;refine (H1.out _ HBW.out).mono ?_;rintro x w3 ⟨⟨ea,ee,rfl⟩,hb3⟩;have HB3:=hid hb3;clear hb3)
   ·go_ret2
    exact ⟨⟨_,_,rfl⟩,HBW.out.trans (HB3.out.mono (by have:=HBW.out.size;omega))⟩
   ·refine ⟨⟨2,by go_num,by omega,HB.out.trans (HB3.out.mono hszr)⟩,by simp [intOf]⟩
  | 2,_ =>
   go_wp2_with (go_at_call 175;refine (H2.out _ HBW.out).mono ?_;rintro x w3 ⟨⟨ea,ee,rfl⟩,hb3⟩;have HB3:=hid hb3;clear hb3)
   ·go_ret2
    exact ⟨⟨_,_,rfl⟩,HBW.out.trans (HB3.out.mono (by have:=HBW.out.size;omega))⟩
   ·refine ⟨⟨3,by go_num,by omega,HB.out.trans (HB3.out.mono hszr)⟩,by simp [intOf]⟩
  | 3,_ =>
   go_wp2_with (go_at_call 176;refine (H3.out _ HBW.out).mono ?_;rintro x w3 ⟨⟨ea,ee,rfl⟩,hb3⟩;have HB3:=hid hb3;clear hb3)
   ·go_ret2
    exact ⟨⟨_,_,rfl⟩,HBW.out.trans (HB3.out.mono (by have:=HBW.out.size;omega))⟩
   ·refine ⟨⟨4,by go_num,by omega,HB.out.trans (HB3.out.mono hszr)⟩,by simp [intOf]⟩
  | 4,_ =>
   go_wp2
   go_ret2
   exact ⟨⟨_,_,rfl⟩,HBW.out⟩
  | j + 5,h => exact absurd h oq
set_option maxRecDepth 100000 in
set_option maxHeartbeats 4000000 in
theorem check_gen {w:World} (p:PG) (an ai af ao:Option Addr) (cn ci cf co:Nat) (hp:AP w p an ai af ao cn ci cf co) (hz:NZ w p.nodes an) (hok:PgOK p) :
  Calls Tryz.prog 91 #[pv p an ai af ao cn ci cf co] w (ClkG w p):=by
 have HNM:=hid (fun (w':World) (hb:Below w.heap.size w w') => names_gen (w:=w') p an ai af ao cn ci cf co (hp.below hb) (hz.below hp.nodes hb) hok)
 have HCL:=hid (fun (w':World) (hb:Below w.heap.size w w') => clocks_gen (w:=w') p an ai af ao cn ci cf co (hp.below hb) hok.sums (by have:=hok.lens;omega) hok.ins)
 obtain ⟨nodes,ins,flows,outs⟩:=p
 clear hp hz hok
 unfold pv at *
 unfold PairAns at HNM
 unfold ClkG at HCL ⊢
 simp only at HNM HCL ⊢
 go_enter Tryz.func91,Tryz.ntmps91
 go_wp2_with (first | (go_at_call 137;refine (HNM.out _ bq).mono ?_;rintro x w1 ⟨⟨ea,ee,rfl⟩,hb1⟩;obtain ⟨hc1,hf1⟩:=bcell hb1;have b1:w.heap.size < w1.heap.size:=sz_of hb1 oq) | (go_at_call 17;refine (HCL.out _ bq).mono ?_;rintro x w2 ⟨hx2,hb2⟩;rcases hx2 with ⟨a2,e2,he2,rfl⟩ | ⟨v,env,rfl,hcf,hrow⟩))
 ·have hne:ee ≠ 0:=by rename_i hq;simpa using hq
  go_ret3
  exact ⟨.inl ⟨ea,ee,hne,rfl⟩,bq⟩
 ·go_ret3
  exact ⟨.inl ⟨a2,e2,he2,rfl⟩,bq⟩
 ·go_ret3
  exact ⟨.inr ⟨v,env,rfl,hcf,hrow⟩,bq⟩
end Go.Proofs.YtpjficjlfibibaaGreatDoor.syn
namespace Go.Proofs
open Go.Shelf
open Go.Lib in
open Go.Lib in
open Go.Lib in
open Go.Lib in
open Go.RowKit Go.Sort Go.Lib in
open Go.RowKit Go.Sort Go.Lib in
open Go.RowKit Go.Sort Go.Lib in
open Go.RowKit Go.Sort Go.Lib in
open Go.RowKit Go.Sort Go.Lib in
open Go.RowKit Go.Sort Go.Lib in
def Tryz.lays171_ren:Go.Shelf.Ren:=⟨fun | 171 => 140 | 243 => 177 | 246 => 192 | 283 => 200 | 284 => 201 | 285 => 202 | 286 => 203 | 129 => 119 | 317 => 207 | 318 => 208 | 319 => 209 | 320 => 210 | 337 => 212 | 338 => 213 | n => n,fun | 3 => 3 | 9 => 9 | 2 => 2 | 4 => 4 | 171 => 302 | 0 => 0 | 53 => 216 | 37 => 304 | 5 => 5 | 173 => 305 | 212 => 318 | 51 => 214 | 20 => 20 | 213 => 319 | 46 => 131 | 232 => 321 | 233 => 322 | n => n,fun | 17 => 0 | 18 => 1 | 19 => 2 | n => n⟩
theorem Tryz.lays171:Go.Proofs.Lays.n171 Tryz.prog Tryz.lays171_ren:={
 mixed:=by kernel_rfl
 f129:=Tryz.func119.trans (congrArg some (by kernel_rfl))
 f171:=Tryz.func140.trans (congrArg some (by kernel_rfl))
 f243:=Tryz.func177.trans (congrArg some (by kernel_rfl))
 f246:=Tryz.func192.trans (congrArg some (by kernel_rfl))
 f283:=Tryz.func200.trans (congrArg some (by kernel_rfl))
 f284:=Tryz.func201.trans (congrArg some (by kernel_rfl))
 f285:=Tryz.func202.trans (congrArg some (by kernel_rfl))
 f286:=Tryz.func203.trans (congrArg some (by kernel_rfl))
 f317:=Tryz.func207.trans (congrArg some (by kernel_rfl))
 f318:=Tryz.func208.trans (congrArg some (by kernel_rfl))
 f319:=Tryz.func209.trans (congrArg some (by kernel_rfl))
 f320:=Tryz.func210.trans (congrArg some (by kernel_rfl))
 f337:=Tryz.func212.trans (congrArg some (by kernel_rfl))
 f338:=Tryz.func213.trans (congrArg some (by kernel_rfl))
 t0:=Tryz.underlying0
 a0:=Tryz.isAgg0
 z0:=Tryz.sizeOf0
 v0:=Tryz.zeroValue0
 t2:=Tryz.underlying2
 a2:=Tryz.isAgg2
 z2:=Tryz.sizeOf2
 v2:=Tryz.zeroValue2
 t3:=Tryz.underlying3
 a3:=Tryz.isAgg3
 z3:=Tryz.sizeOf3
 v3:=Tryz.zeroValue3
 t4:=Tryz.underlying4
 a4:=Tryz.isAgg4
 z4:=Tryz.sizeOf4
 v4:=Tryz.zeroValue4
 t5:=Tryz.underlying5
 a5:=Tryz.isAgg5
 z5:=Tryz.sizeOf5
 v5:=Tryz.zeroValue5
 t9:=Tryz.underlying9
 a9:=Tryz.isAgg9
 z9:=Tryz.sizeOf9
 v9:=Tryz.zeroValue9
 t20:=Tryz.underlying20
 a20:=Tryz.isAgg20
 z20:=Tryz.sizeOf20
 v20:=Tryz.zeroValue20
 t37:=Tryz.underlying304
 a37:=Tryz.isAgg304
 z37:=Tryz.sizeOf304
 v37:=Tryz.zeroValue304
 t46:=Tryz.underlying131
 a46:=Tryz.isAgg131
 z46:=Tryz.sizeOf131
 v46:=Tryz.zeroValue131
 t51:=Tryz.underlying214
 a51:=Tryz.isAgg214
 z51:=Tryz.sizeOf214
 v51:=Tryz.zeroValue214
 t53:=Tryz.underlying216
 a53:=Tryz.isAgg216
 z53:=Tryz.sizeOf216
 v53:=Tryz.zeroValue216
 t171:=Tryz.underlying302
 a171:=Tryz.isAgg302
 z171:=Tryz.sizeOf302
 v171:=Tryz.zeroValue302
 t173:=Tryz.underlying305
 a173:=Tryz.isAgg305
 z173:=Tryz.sizeOf305
 v173:=Tryz.zeroValue305
 t212:=Tryz.underlying318
 a212:=Tryz.isAgg318
 z212:=Tryz.sizeOf318
 v212:=Tryz.zeroValue318
 t213:=Tryz.underlying319
 a213:=Tryz.isAgg319
 z213:=Tryz.sizeOf319
 t232:=Tryz.underlying321
 a232:=Tryz.isAgg321
 z232:=Tryz.sizeOf321
 v232:=Tryz.zeroValue321
 t233:=Tryz.underlying322
 a233:=Tryz.isAgg322
 z233:=Tryz.sizeOf322
 v233:=Tryz.zeroValue322
 g17:=by kernel_rfl
 g18:=by kernel_rfl
 g19:=by kernel_rfl }
open Go.RowKit Go.Sort Go.Lib in
theorem Tryz.strconv_Itoa_small (i:Nat) (hi:i < 100) (w:World) :
  Calls Tryz.prog 140 #[.int .i64 i] w fun e w' => e = .returned (.string ⟨(Lib.decDigits i).toArray⟩) ∧ w' = w:=Any.strconv_Itoa_small Tryz.lays171 i hi w
def Tryz.lays189_ren:Go.Shelf.Ren:=⟨fun | 189 => 78 | 125 => 60 | 257 => 132 | 128 => 118 | 129 => 119 | 294 => 164 | 295 => 165 | 296 => 166 | 297 => 167 | 298 => 168 | 299 => 169 | 216 => 170 | 300 => 171 | 301 => 172 | 328 => 185 | 329 => 150 | 330 => 151 | 331 => 186 | 332 => 187 | 215 => 121 | 343 => 197 | n => n,fun | 28 => 56 | 3 => 3 | 46 => 131 | 0 => 0 | 51 => 214 | 53 => 216 | 4 => 4 | 183 => 208 | 182 => 207 | 131 => 157 | 5 => 5 | 9 => 9 | 218 => 244 | 222 => 248 | 228 => 278 | 229 => 279 | n => n,fun | n => n⟩
theorem Tryz.lays189:Go.Proofs.Lays.n189 Tryz.prog Tryz.lays189_ren:={
 mixed:=by kernel_rfl
 f125:=Tryz.func60.trans (congrArg some (by kernel_rfl))
 f128:=Tryz.func118.trans (congrArg some (by kernel_rfl))
 f129:=Tryz.func119.trans (congrArg some (by kernel_rfl))
 f189:=Tryz.func78.trans (congrArg some (by kernel_rfl))
 f215:=Tryz.func121.trans (congrArg some (by kernel_rfl))
 f216:=Tryz.func170.trans (congrArg some (by kernel_rfl))
 f257:=Tryz.func132.trans (congrArg some (by kernel_rfl))
 f294:=Tryz.func164.trans (congrArg some (by kernel_rfl))
 f295:=Tryz.func165.trans (congrArg some (by kernel_rfl))
 f296:=Tryz.func166.trans (congrArg some (by kernel_rfl))
 f297:=Tryz.func167.trans (congrArg some (by kernel_rfl))
 f298:=Tryz.func168.trans (congrArg some (by kernel_rfl))
 f299:=Tryz.func169.trans (congrArg some (by kernel_rfl))
 f300:=Tryz.func171.trans (congrArg some (by kernel_rfl))
 f301:=Tryz.func172.trans (congrArg some (by kernel_rfl))
 f328:=Tryz.func185.trans (congrArg some (by kernel_rfl))
 f329:=Tryz.func150.trans (congrArg some (by kernel_rfl))
 f330:=Tryz.func151.trans (congrArg some (by kernel_rfl))
 f331:=Tryz.func186.trans (congrArg some (by kernel_rfl))
 f332:=Tryz.func187.trans (congrArg some (by kernel_rfl))
 f343:=Tryz.func197.trans (congrArg some (by kernel_rfl))
 t0:=Tryz.underlying0
 a0:=Tryz.isAgg0
 z0:=Tryz.sizeOf0
 v0:=Tryz.zeroValue0
 t3:=Tryz.underlying3
 a3:=Tryz.isAgg3
 z3:=Tryz.sizeOf3
 v3:=Tryz.zeroValue3
 t4:=Tryz.underlying4
 a4:=Tryz.isAgg4
 z4:=Tryz.sizeOf4
 v4:=Tryz.zeroValue4
 t5:=Tryz.underlying5
 a5:=Tryz.isAgg5
 z5:=Tryz.sizeOf5
 v5:=Tryz.zeroValue5
 t9:=Tryz.underlying9
 a9:=Tryz.isAgg9
 z9:=Tryz.sizeOf9
 v9:=Tryz.zeroValue9
 t28:=Tryz.underlying56
 a28:=Tryz.isAgg56
 z28:=Tryz.sizeOf56
 v28:=Tryz.zeroValue56
 t46:=Tryz.underlying131
 a46:=Tryz.isAgg131
 z46:=Tryz.sizeOf131
 v46:=Tryz.zeroValue131
 t51:=Tryz.underlying214
 a51:=Tryz.isAgg214
 z51:=Tryz.sizeOf214
 v51:=Tryz.zeroValue214
 t53:=Tryz.underlying216
 a53:=Tryz.isAgg216
 z53:=Tryz.sizeOf216
 v53:=Tryz.zeroValue216
 t131:=Tryz.underlying157
 a131:=Tryz.isAgg157
 z131:=Tryz.sizeOf157
 v131:=Tryz.zeroValue157
 t182:=Tryz.underlying207
 a182:=Tryz.isAgg207
 z182:=Tryz.sizeOf207
 v182:=Tryz.zeroValue207
 t183:=Tryz.underlying208
 a183:=Tryz.isAgg208
 z183:=Tryz.sizeOf208
 v183:=Tryz.zeroValue208
 t218:=Tryz.underlying244
 a218:=Tryz.isAgg244
 z218:=Tryz.sizeOf244
 v218:=Tryz.zeroValue244
 t222:=Tryz.underlying248
 a222:=Tryz.isAgg248
 z222:=Tryz.sizeOf248
 v222:=Tryz.zeroValue248
 t228:=Tryz.underlying278
 a228:=Tryz.isAgg278
 z228:=Tryz.sizeOf278
 v228:=Tryz.zeroValue278
 t229:=Tryz.underlying279
 a229:=Tryz.isAgg279
 z229:=Tryz.sizeOf279
 v229:=Tryz.zeroValue279 }
open Go.Sort Go.RowKit in
theorem Tryz.slices_Sort_int (blk off cap:Nat) (zs:List Int) (w:World) (hH:Holds (Value.int .i64) w blk off zs.toArray) (hblk:blk < w.heap.size) (hsz:zs.length < 4611686018427387904) :
  Calls Tryz.prog 78 #[.slice (some ⟨blk,off,none⟩) zs.length cap] w fun e w' =>
   e = .returned (.tuple #[]) ∧ ∃ n os,w' = grow (putRow (Value.int .i64) (Sort.ahead w n) blk off (zs.mergeSort fun x y => decide (x ≤ y)).toArray) os:=Any.slices_Sort_int Tryz.lays189 blk off cap zs w hH hblk hsz
def Tryz.laysNm216_ren:Go.Shelf.Ren:=⟨fun | 16 => 100 | n => n,fun | 24 => 92 | 9 => 9 | 4 => 4 | n => n,fun | n => n⟩
theorem Tryz.laysNm216:Go.Proofs.Lays2.n16 Tryz.prog Tryz.laysNm216_ren:={
 mixed:=by kernel_rfl
 f16:=Tryz.func100.trans (congrArg some (by kernel_rfl))
 t4:=Tryz.underlying4
 a4:=Tryz.isAgg4
 z4:=Tryz.sizeOf4
 v4:=Tryz.zeroValue4
 t9:=Tryz.underlying9
 a9:=Tryz.isAgg9
 z9:=Tryz.sizeOf9
 v9:=Tryz.zeroValue9
 t24:=Tryz.underlying92
 a24:=Tryz.isAgg92
 z24:=Tryz.sizeOf92
 v24:=Tryz.zeroValue92
 i9:=by kernel_rfl }
open Go.RowKit Go.Lib in
theorem Tryz.slices_Clone_string (b off n c:Nat) (zs:List ByteArray) (w:World) (hz:n ≤ zs.length) (hbig:n * 16 ≤ 140737488355328) (hc:∀ j,j < zs.length → w.cell? ⟨b,off + j,none⟩ = some (.string (zs.getD j ByteArray.empty))) :
  Calls Tryz.prog 100 #[.slice (some ⟨b,off,none⟩) n c] w fun e w' => ∃ v',e = .returned v' ∧ w'.ownsRow w.heap.size 9 1 v' n ((zs.take n).map (Value.string)) ∧ v' ≠ .slice none 0 0 ∧ Below w.heap.size w w':=Any.slices_Clone_string Tryz.laysNm216 b off n c zs w hz hbig hc
open Go.RowKit Go.Lib in
theorem Tryz.slices_Clone_string_nil (n c:Nat) (w:World) :
  Calls Tryz.prog 100 #[.slice none n c] w fun e w' => e = .returned (.slice none 0 0) ∧ w' = w:=Any.slices_Clone_string_nil Tryz.laysNm216 n c w
open Go.RowKit Go.Lib in
theorem Tryz.slices_Clone_string_zero (a:Addr) (c:Nat) (w:World) :
  Calls Tryz.prog 100 #[.slice (some a) 0 c] w fun e w' => ∃ v',e = .returned v' ∧ w'.ownsRow w.heap.size 9 1 v' 0 [] ∧ v' ≠ .slice none 0 0 ∧ Below w.heap.size w w':=Any.slices_Clone_string_zero Tryz.laysNm216 a c w
def Tryz.laysNm220_ren:Go.Shelf.Ren:=⟨fun | 20 => 79 | n => n,fun | 22 => 56 | 3 => 3 | 4 => 4 | 0 => 0 | n => n,fun | n => n⟩
theorem Tryz.laysNm220:Go.Proofs.Lays2.n20 Tryz.prog Tryz.laysNm220_ren:={
 mixed:=by kernel_rfl
 f20:=Tryz.func79.trans (congrArg some (by kernel_rfl))
 t0:=Tryz.underlying0
 a0:=Tryz.isAgg0
 z0:=Tryz.sizeOf0
 v0:=Tryz.zeroValue0
 t3:=Tryz.underlying3
 a3:=Tryz.isAgg3
 z3:=Tryz.sizeOf3
 v3:=Tryz.zeroValue3
 t4:=Tryz.underlying4
 a4:=Tryz.isAgg4
 z4:=Tryz.sizeOf4
 v4:=Tryz.zeroValue4
 t22:=Tryz.underlying56
 a22:=Tryz.isAgg56
 z22:=Tryz.sizeOf56
 v22:=Tryz.zeroValue56
 i3:=by kernel_rfl }
open Go.RowKit Go.Lib Go.Sort in
open Go.RowKit Go.Lib Go.Sort in
theorem Tryz.slices_Compact_int (blk off cap:Nat) (zs:List Int) (w:World) (hH:Holds (Value.int .i64) w blk off zs.toArray) (hsz:zs.length ≤ 9223372036854775807) (hcap:zs.length ≤ cap) :
  Calls Tryz.prog 79 #[.slice (some ⟨blk,off,none⟩) zs.length cap] w fun e w' => e = .returned (.slice (some ⟨blk,off,none⟩) (Lib.compact zs).length cap) ∧ ∃ q,w' = putRow (Value.int .i64) (Sort.ahead w q) blk off (Lib.compact zs ++ List.replicate (zs.length - (Lib.compact zs).length) 0).toArray:=Any.slices_Compact_int Tryz.laysNm220 blk off cap zs w hH hsz hcap
open Go.RowKit Go.Lib Go.Sort in
theorem Tryz.slices_Compact_int_empty (a:Option Addr) (cap:Nat) (w:World) :
  Calls Tryz.prog 79 #[.slice a 0 cap] w fun e w' => e = .returned (.slice a 0 cap) ∧ w' = w:=Any.slices_Compact_int_empty Tryz.laysNm220 a cap w
open Go.RowKit Go.Lib Go.Sort in
open Go.RowKit Go.Sort in
theorem Tryz.slices_Sort_int_none (p:Option Addr) (cap:Nat) (w:World) :
  Calls Tryz.prog 78 #[.slice p 0 cap] w fun e w' => e = .returned (.tuple #[]) ∧ w' = w:=Any.slices_Sort_int_none Tryz.lays189 p cap w
end Go.Proofs
namespace Go.Proofs.YtpjficjlfibibaaGreatDoor.syn
open Go.RowKit
set_option linter.unusedVariables false
set_option linter.unusedSimpArgs false
def dg (i:Nat):ByteArray:=⟨(Lib.decDigits i).toArray⟩
theorem dg_size {i:Nat} (h:i < 100):(dg i).size ≤ 2:=by
 unfold dg
 show ((Lib.decDigits i).toArray).size ≤ 2
 by_cases h1:i < 10
 ·rw [Lib.decDigits_one h1];simp
 ·rw [Lib.decDigits_two h1 h];simp
theorem itoa_any {i:Nat} (h:i < 100) (w:World):Calls Tryz.prog 140 #[.int .i64 i] w fun e w' => e = .returned (.string (dg i)) ∧ w' = w:=Tryz.strconv_Itoa_small i h w
def spv (e:PE) (ad:Option Addr) (cap:Nat) (way:ByteArray):Value:=.agg #[.int .i64 e.k,.string e.nm,.int .i64 e.n,.int .i64 e.d,.slice ad e.args.len cap,.int .i64 e.a,.string way]
theorem exE_call {k n d:Int} {nm:ByteArray} {len:Nat} (h:exE k n d nm len = true):(k = 1 → len = 0) ∧ (k = 2 → 1 ≤ len) ∧ (k ≠ 1 → k ≠ 2 → len = 1):=by
 unfold exE at h
 refine ⟨fun hk => ?_,fun hk => ?_,fun h1 h2 => ?_⟩
 ·rw [if_pos hk] at h;simp at h;omega
 ·rw [if_neg oq,if_pos hk] at h;simp at h;omega
 ·rw [if_neg h1,if_neg h2] at h
  split at h
  ·cases h
  ·rename_i hn
   have:=not_or.1 hn
   omega
theorem ex_call {e:PE} (h:exprOK e = true):(e.k = 1 → e.args.len = 0) ∧ (e.k = 2 → 1 ≤ e.args.len) ∧ (e.k ≠ 1 → e.k ≠ 2 → e.args.len = 1):=by
 unfold exprOK at h
 rw [Bool.and_eq_true] at h
 exact exE_call h.2
theorem exR_at:∀ (l:PL) (i:Nat) (e:PE),exR l = true → l.at i = some e → exprOK e = true
 | .cons k nm n d args a tl,0,e,h,he => by
  injection he with he;subst he
  rw [exR,Bool.and_eq_true,Bool.and_eq_true] at h
  unfold exprOK
  rw [Bool.and_eq_true]
  exact h.1
 | .cons _ _ _ _ _ _ tl,i + 1,e,h,he => by
  rw [exR,Bool.and_eq_true] at h
  exact exR_at tl i e h.2 he
theorem ex_child {e c:PE} {i:Nat} (h:exprOK e = true) (hc:e.args.at i = some c):exprOK c = true:=by
 unfold exprOK at h
 rw [Bool.and_eq_true] at h
 exact exR_at _ _ _ h.1 hc
theorem ac_at:∀ (l:PL) {W:World} {b o:Nat},AC W l b o → ∀ i e,l.at i = some e → ∃ ad cap,W.cell? ⟨b,o + i * 6,none⟩ = some (.int .i64 e.k) ∧ W.cell? ⟨b,o + i * 6 + 1,none⟩ = some (.string e.nm) ∧ W.cell? ⟨b,o + i * 6 + 2,none⟩ = some (.int .i64 e.n) ∧ W.cell? ⟨b,o + i * 6 + 3,none⟩ = some (.int .i64 e.d) ∧
  W.cell? ⟨b,o + i * 6 + 4,none⟩ = some (.slice ad e.args.len cap) ∧ W.cell? ⟨b,o + i * 6 + 5,none⟩ = some (.int .i64 e.a) ∧ AE W e ad cap
 | .cons k nm n d args a tl,W,b,o,hac,0,e,he => by
  injection he with he
  subst he
  obtain ⟨h0,h1,h2,h3,h5,hn,⟨ad,cap,h4,hcap,hm,hd⟩,ht⟩:=hac
  rw [Nat.zero_mul,Nat.add_zero]
  exact ⟨ad,cap,h0,h1,h2,h3,h4,h5,⟨hn,⟨hcap,hm⟩,hd⟩⟩
 | .cons _ _ _ _ _ _ tl,W,b,o,hac,i + 1,e,he => by
  have:=ac_at tl hac.2.2.2.2.2.2.2 i e he
  rw [show o + (i + 1) * 6 = o + 6 + i * 6 by omega]
  exact this
theorem cells7s {w:World} {b:Nat} {v0 v1 v2 v3 v4 v5 v6:Value} {t:TypeId} (h:w.heap[b]? = some (.cells #[v0,v1,v2,v3,v4,v5,v6] t (0,0))) :
  (w.cell? ⟨b,0,none⟩ = some v0 ∧ w.cell? ⟨b,1,none⟩ = some v1 ∧ w.cell? ⟨b,2,none⟩ = some v2 ∧ w.cell? ⟨b,3,none⟩ = some v3 ∧ w.cell? ⟨b,4,none⟩ = some v4 ∧ w.cell? ⟨b,5,none⟩ = some v5 ∧ w.cell? ⟨b,6,none⟩ = some v6) ∧ ∀ o,w.frozen? ⟨b,o,none⟩ = false:=by
 refine ⟨⟨?_,?_,?_,?_,?_,?_,?_⟩,?_⟩
 all_goals first | (intro o;simp [World.frozen?,h]) | simp [World.cell?,h]
def SA (sb b o len cap:Nat) (ad:Option Addr) (way:ByteArray) (k2:Int) (nm2:ByteArray) (n2 d2:Int) (len2 cap2:Nat) (ad2:Option Addr) (a2:Int) (w':World):Prop :=
 w'.cell? ⟨sb,4,none⟩ = some (.slice ad len cap) ∧ w'.cell? ⟨sb,6,none⟩ = some (.string way) ∧ w'.cell? ⟨b,o,none⟩ = some (.int .i64 k2) ∧ w'.cell? ⟨b,o + 1,none⟩ = some (.string nm2) ∧ w'.cell? ⟨b,o + 2,none⟩ = some (.int .i64 n2) ∧ w'.cell? ⟨b,o + 3,none⟩ = some (.int .i64 d2) ∧ w'.cell? ⟨b,o + 4,none⟩ = some (.slice ad2 len2 cap2) ∧ w'.cell? ⟨b,o + 5,none⟩ = some (.int .i64 a2)
section
variable {sb b o len cap:Nat} {ad:Option Addr} {way:ByteArray} {k2:Int} {nm2:ByteArray} {n2 d2:Int} {len2 cap2:Nat} {ad2:Option Addr} {a2:Int} {w':World}
theorem SA.drew (h:SA sb b o len cap ad way k2 nm2 n2 d2 len2 cap2 ad2 a2 w'):SA sb b o len cap ad way k2 nm2 n2 d2 len2 cap2 ad2 a2 w'.drew:=h
theorem SA.set (h:SA sb b o len cap ad way k2 nm2 n2 d2 len2 cap2 ad2 a2 w') {g j:Nat} (h1:¬ sb = g) (h2:¬ b = g) (u:Value):SA sb b o len cap ad way k2 nm2 n2 d2 len2 cap2 ad2 a2 (w'.setCell ⟨g,j,none⟩ u):=by
 have hc:∀ o,(w'.setCell ⟨g,j,none⟩ u).cell? ⟨b,o,none⟩ = w'.cell? ⟨b,o,none⟩:=fun o => World.cell?_setCell_far _ _ _ _ (fun e => h2 e.symm)
 have hd:∀ o,(w'.setCell ⟨g,j,none⟩ u).cell? ⟨sb,o,none⟩ = w'.cell? ⟨sb,o,none⟩:=fun o => World.cell?_setCell_far _ _ _ _ (fun e => h1 e.symm)
 obtain ⟨x0,x1,x2,x3,x4,x5,x6,x7⟩:=h
 exact ⟨(hd _).trans x0,(hd _).trans x1,(hc _).trans x2,(hc _).trans x3,(hc _).trans x4,(hc _).trans x5,(hc _).trans x6,(hc _).trans x7⟩
end
set_option maxRecDepth 100000 in
set_option maxHeartbeats 2000000 in
theorem arg_any {W0 w:World} (hl:Below W0.heap.size W0 w) (e c:PE) (ad:Option Addr) (cap:Nat) (way:ByteArray) (i:Nat) (h:AE W0 e ad cap) (hc:e.args.at i = some c) (hi:i < e.args.len) (hi2:i < 100) (hw:way.size ≤ 1000) :
  Calls Tryz.prog 99 #[spv e ad cap way,.int .i64 (i:Int)] w fun x w' => (∃ ad2 cap2,x = .returned (spv c ad2 cap2 (way ++ ⟨#[47]⟩ ++ dg i)) ∧ AE W0 c ad2 cap2) ∧ Below w.heap.size w w':=by
 obtain ⟨b,o,rfl,hb,hac⟩:∃ b o,ad = some ⟨b,o,none⟩ ∧ b < W0.heap.size ∧ AC W0 e.args b o:=by
  rcases h.args with h0 | h0
  ·rw [h0] at hc;cases hc
  ·exact h0
 obtain ⟨ad2,cap2,y0,y1,y2,y3,y4,y5,hae⟩:=ac_at _ hac i c hc
 have HAE:=hid hae
 have hi0:(0:Int) ≤ (i:Int):=by omega
 have hi1:(i:Int) < (e.args.len:Int):=by omega
 have hds:=dg_size hi2
 have hsl:=hl.size
 have HI2:=hid hi2
 obtain ⟨k,nm,n,d,args,a⟩:=e
 obtain ⟨k2,nm2,n2,d2,args2,a2⟩:=c
 unfold spv
 simp only at *
 clear h hac hae hc hi2
 have HL:=hid hl
 clear hl
 go_enter Tryz.func99,Tryz.ntmps99
 go_wp2
 obtain ⟨W2,hW2⟩:∃ W2,(w.alloc (.cells #[.int .i64 k,.string nm,.int .i64 n,.int .i64 d,.slice (some ⟨b,o,none⟩) args.len cap,.int .i64 a,.string way] 182)).alloc (.cells #[.int .i64 0,.string ⟨#[]⟩,.int .i64 0,.int .i64 0,.slice none 0 0,.int .i64 0,.string ⟨#[]⟩] 182) = W2:=⟨_,rfl⟩
 rw [hW2]
 have hB:Below w.heap.size w W2:=by rw [← hW2];exact bq
 have hb0:W2.heap[w.heap.size]? = some (.cells #[.int .i64 k,.string nm,.int .i64 n,.int .i64 d,.slice (some ⟨b,o,none⟩) args.len cap,.int .i64 a,.string way] 182 (0,0)):=by rw [← hW2];exact (Below.heap_alloc _ _ _ (by simp)).trans (heap_new w _)
 have hb1:W2.heap[w.heap.size + 1]? = some (.cells #[.int .i64 0,.string ⟨#[]⟩,.int .i64 0,.int .i64 0,.slice none 0 0,.int .i64 0,.string ⟨#[]⟩] 182 (0,0)):=by rw [← hW2];simpa using heap_new (w.alloc _) _
 obtain ⟨⟨_,_,_,_,s4,_,s6⟩,_⟩:=cells7s hb0
 obtain ⟨⟨z0,z1,z2,z3,z4,z5,z6⟩,zf⟩:=cells7s hb1
 have hcb:=fun o => (hB.cell (p:=⟨b,o,none⟩) (Nat.lt_of_lt_of_le hb hsl)).trans (HL.out.cell (p:=⟨b,o,none⟩) hb)
 have HB:=hid hB
 have HB1:=hid hb1
 have KA:=hid (show SA w.heap.size b (o + i * 6) args.len cap (some ⟨b,o,none⟩) way k2 nm2 n2 d2 args2.len cap2 ad2 a2 W2 from ⟨s4,s6,(hcb _).trans y0,(hcb _).trans y1,(hcb _).trans y2,(hcb _).trans y3,(hcb _).trans y4,(hcb _).trans y5⟩)
 have hne:¬ w.heap.size = w.heap.size + 1:=by omega
 have hq1:¬ 9223372036854775807 < way.size + 1:=by omega
 have hq2:¬ 9223372036854775807 < way.size + 1 + (dg i).size:=by omega
 have hne2:¬ b = w.heap.size + 1:=by omega
 clear hW2 hB hb0 hb1 s4 s6 y0 y1 y2 y3 y4 y5 hcb
 go_region_held3 (fun w' => w'.cell? ⟨w.heap.size,4,none⟩ = some (.slice (some ⟨b,o,none⟩) args.len cap) ∧ w'.cell? ⟨w.heap.size,6,none⟩ = some (.string way) ∧ w'.cell? ⟨b,o + i * 6,none⟩ = some (.int .i64 k2) ∧ w'.cell? ⟨b,o + i * 6 + 1,none⟩ = some (.string nm2) ∧ w'.cell? ⟨b,o + i * 6 + 2,none⟩ = some (.int .i64 n2) ∧ w'.cell? ⟨b,o + i * 6 + 3,none⟩ = some (.int .i64 d2) ∧ w'.cell? ⟨b,o + i * 6 + 4,none⟩ = some (.slice ad2 args2.len cap2) ∧ w'.cell? ⟨b,o + i * 6 + 5,none⟩ = some (.int .i64 a2)) ((show SA w.heap.size b (o + i * 6) args.len cap (some ⟨b,o,none⟩) way k2 nm2 n2 d2 args2.len cap2 ad2 a2 _;repeat (first | with_reducible exact KA.out | with_reducible refine SA.drew ?_ | (with_reducible refine SA.set ?_ hne hne2 _)))) (first | (go_at_call 140;refine (itoa_any HI2.out _).mono ?_;rintro x w1 ⟨rfl,rfl⟩))
 all_goals
  go_wp2
  refine bodyPost_ret (v:=spv ⟨k2,nm2,n2,d2,args2,a2⟩ ad2 cap2 (way ++ ⟨#[47]⟩ ++ dg i)) ?_ rfl ?_
  ·simp only [results,Tryz.results99,spv]
   go_simp
  ·exact ⟨⟨ad2,cap2,rfl,HAE.out⟩,bq⟩
def SF (pb b o:Nat) (v:Value) (k2:Int) (nm2:ByteArray) (n2 d2:Int) (len2 cap2:Nat) (ad2:Option Addr) (a2:Int) (w':World):Prop :=
 w'.cell? ⟨pb,2,none⟩ = some v ∧ w'.cell? ⟨b,o + 1,none⟩ = some (.int .i64 k2) ∧ w'.cell? ⟨b,o + 2,none⟩ = some (.string nm2) ∧ w'.cell? ⟨b,o + 3,none⟩ = some (.int .i64 n2) ∧ w'.cell? ⟨b,o + 4,none⟩ = some (.int .i64 d2) ∧ w'.cell? ⟨b,o + 5,none⟩ = some (.slice ad2 len2 cap2) ∧ w'.cell? ⟨b,o + 6,none⟩ = some (.int .i64 a2)
section
variable {pb b o:Nat} {v:Value} {k2:Int} {nm2:ByteArray} {n2 d2:Int} {len2 cap2:Nat} {ad2:Option Addr} {a2:Int} {w':World}
theorem SF.drew (h:SF pb b o v k2 nm2 n2 d2 len2 cap2 ad2 a2 w'):SF pb b o v k2 nm2 n2 d2 len2 cap2 ad2 a2 w'.drew:=h
theorem SF.set (h:SF pb b o v k2 nm2 n2 d2 len2 cap2 ad2 a2 w') {g j:Nat} (h1:¬ pb = g) (h2:¬ b = g) (u:Value):SF pb b o v k2 nm2 n2 d2 len2 cap2 ad2 a2 (w'.setCell ⟨g,j,none⟩ u):=by
 have hc:∀ o,(w'.setCell ⟨g,j,none⟩ u).cell? ⟨b,o,none⟩ = w'.cell? ⟨b,o,none⟩:=fun o => World.cell?_setCell_far _ _ _ _ (fun e => h2 e.symm)
 have hd:∀ o,(w'.setCell ⟨g,j,none⟩ u).cell? ⟨pb,o,none⟩ = w'.cell? ⟨pb,o,none⟩:=fun o => World.cell?_setCell_far _ _ _ _ (fun e => h1 e.symm)
 obtain ⟨x0,x1,x2,x3,x4,x5,x6⟩:=h
 exact ⟨(hd _).trans x0,(hc _).trans x1,(hc _).trans x2,(hc _).trans x3,(hc _).trans x4,(hc _).trans x5,(hc _).trans x6⟩
end
set_option maxRecDepth 100000 in
set_option maxHeartbeats 2000000 in
theorem flowSpot_any {W0 w:World} (hl:Below W0.heap.size W0 w) (p:PG) (an ai af ao:Option Addr) (cn ci cf co:Nat) (hp:AP W0 p an ai af ao cn ci cf co) (i:Nat) (hi:i < p.flows.length) (hi2:i < 100) :
  Calls Tryz.prog 94 #[pv p an ai af ao cn ci cf co,.int .i64 (i:Int)] w fun x w' => (∃ ad2 cap2,x = .returned (spv p.flows[i].e ad2 cap2 (dg i)) ∧ AE W0 p.flows[i].e ad2 cap2) ∧ Below w.heap.size w w':=by
 obtain ⟨nodes,ins,flows,outs⟩:=p
 obtain ⟨b,o,rfl,hb,hfl⟩:=hp.flows.at hi
 simp only at hi hfl ⊢
 obtain ⟨f,hf⟩:∃ f,flows[i] = f:=⟨_,rfl⟩
 rw [hf] at hfl ⊢
 obtain ⟨nm,⟨k2,nm2,n2,d2,args2,a2⟩,fa⟩:=f
 obtain ⟨ad2,cap2,y0,y1,y2,y3,y4,y5,y6,y7,hae,hfn⟩:=hfl.cells
 have HAE:=hid hae
 have hi0:(0:Int) ≤ (i:Int):=by omega
 have hi1:(i:Int) < (flows.length:Int):=by omega
 have HI2:=hid hi2
 unfold pv spv
 simp only
 clear hp hfl hae hf hi2 hfn y0 y7
 have hsl:=hl.size
 have HL:=hid hl
 clear hl
 go_enter Tryz.func94,Tryz.ntmps94
 go_wp2
 obtain ⟨W2,hW2⟩:∃ W2,(w.alloc (.cells #[.slice an nodes.length cn,.slice ai ins.length ci,.slice (some ⟨b,o,none⟩) flows.length cf,.slice ao outs.length co] 27)).alloc (.cells #[.int .i64 0,.string ⟨#[]⟩,.int .i64 0,.int .i64 0,.slice none 0 0,.int .i64 0,.string ⟨#[]⟩] 182) = W2:=⟨_,rfl⟩
 rw [hW2]
 have hB:Below w.heap.size w W2:=by rw [← hW2];exact bq
 have hb0:W2.heap[w.heap.size]? = some (.cells #[.slice an nodes.length cn,.slice ai ins.length ci,.slice (some ⟨b,o,none⟩) flows.length cf,.slice ao outs.length co] 27 (0,0)):=by rw [← hW2];exact (Below.heap_alloc _ _ _ (by simp)).trans (heap_new w _)
 have hb1:W2.heap[w.heap.size + 1]? = some (.cells #[.int .i64 0,.string ⟨#[]⟩,.int .i64 0,.int .i64 0,.slice none 0 0,.int .i64 0,.string ⟨#[]⟩] 182 (0,0)):=by rw [← hW2];simpa using heap_new (w.alloc _) _
 obtain ⟨⟨_,_,s2,_⟩,_⟩:=cells4 hb0
 obtain ⟨⟨z0,z1,z2,z3,z4,z5,z6⟩,zf⟩:=cells7s hb1
 have hcb:=fun o => (hB.cell (p:=⟨b,o,none⟩) (Nat.lt_of_lt_of_le hb hsl)).trans (HL.out.cell (p:=⟨b,o,none⟩) hb)
 have HB:=hid hB
 have KA:=hid (show SF w.heap.size b (o + i * 8) (.slice (some ⟨b,o,none⟩) flows.length cf) k2 nm2 n2 d2 args2.len cap2 ad2 a2 W2 from ⟨s2,(hcb _).trans y1,(hcb _).trans y2,(hcb _).trans y3,(hcb _).trans y4,(hcb _).trans y5,(hcb _).trans y6⟩)
 have hne:¬ w.heap.size = w.heap.size + 1:=by omega
 have hne2:¬ b = w.heap.size + 1:=by omega
 clear hW2 hB hb0 hb1 s2 y1 y2 y3 y4 y5 y6 hcb
 go_region_held3 (fun w' => w'.cell? ⟨w.heap.size,2,none⟩ = some (.slice (some ⟨b,o,none⟩) flows.length cf) ∧ w'.cell? ⟨b,o + i * 8 + 1,none⟩ = some (.int .i64 k2) ∧ w'.cell? ⟨b,o + i * 8 + 2,none⟩ = some (.string nm2) ∧ w'.cell? ⟨b,o + i * 8 + 3,none⟩ = some (.int .i64 n2) ∧ w'.cell? ⟨b,o + i * 8 + 4,none⟩ = some (.int .i64 d2) ∧ w'.cell? ⟨b,o + i * 8 + 5,none⟩ = some (.slice ad2 args2.len cap2) ∧ w'.cell? ⟨b,o + i * 8 + 6,none⟩ = some (.int .i64 a2)) ((show SF w.heap.size b (o + i * 8) (.slice (some ⟨b,o,none⟩) flows.length cf) k2 nm2 n2 d2 args2.len cap2 ad2 a2 _;repeat (first | with_reducible exact KA.out | with_reducible refine SF.drew ?_ | (with_reducible refine SF.set ?_ hne hne2 _)))) (first | (go_at_call 140;refine (itoa_any HI2.out _).mono ?_;rintro x w1 ⟨rfl,rfl⟩))
 all_goals
  go_wp2
  refine bodyPost_ret (v:=spv ⟨k2,nm2,n2,d2,args2,a2⟩ ad2 cap2 (dg i)) ?_ rfl ?_
  ·simp only [results,Tryz.results94,spv]
   go_simp
  ·exact ⟨⟨ad2,cap2,rfl,HAE.out⟩,bq⟩
theorem shaped_any {w:World} (e:PE) (ad:Option Addr) (cap:Nat) (h:exprOK e = true):Calls Tryz.prog 95 #[ev e ad cap] w fun x w' => x = .returned (.bool true) ∧ Below w.heap.size w w':=by
 obtain ⟨h1,h2,h3⟩:=ex_call h
 obtain ⟨k,nm,n,d,args,a⟩:=e
 unfold ev
 simp only at h1 h2 h3 ⊢
 clear h
 by_cases hk:k = 1
 ·subst hk
  have h1:=h1 rfl
  clear h2 h3
  rw [h1]
  go_enter Tryz.func95,Tryz.ntmps95
  go_wp2
  go_ret
  exact ⟨rfl,bq⟩
 ·have hk1:(k == 1) = false:=beq_eq_false_iff_ne.2 hk
  by_cases hk2:k = 2
  ·subst hk2
   have h2:decide (0 < args.len) = true:=decide_eq_true (by have:=h2 rfl;omega)
   clear h1 h3
   go_enter Tryz.func95,Tryz.ntmps95
   go_wp2
   go_ret
   exact ⟨rfl,bq⟩
  ·have hk3:(k == 2) = false:=beq_eq_false_iff_ne.2 hk2
   have h3:=h3 hk hk2
   clear h1 h2 hk hk2
   rw [h3]
   go_enter Tryz.func95,Tryz.ntmps95
   go_wp2
   go_ret
   exact ⟨rfl,bq⟩
theorem fwithin_any {w:World} (e:PE) (ad:Option Addr) (cap:Nat) (way:ByteArray):Calls Tryz.prog 93 #[spv e ad cap way] w fun x w' => x = .returned (.func (.func 138) #[] #[.pointer (some ⟨w.heap.size,0,none⟩)]) ∧ w' = w.alloc (.cells #[.int .i64 e.k,.string e.nm,.int .i64 e.n,.int .i64 e.d,.slice ad e.args.len cap,.int .i64 e.a,.string way] 182):=by
 unfold spv
 go_enter Tryz.func93,Tryz.ntmps93
 go_wp2
 go_ret
 exact ⟨rfl,rfl⟩
theorem inputClock_any {w:World} (nm:ByteArray) (per ph a:Int):Calls Tryz.prog 96 #[.agg #[.string nm,.int .i64 per,.int .i64 ph,.int .i64 a]] w fun x w' => x = .returned (.agg #[.int .i64 per,.int .i64 ph]) ∧ Below w.heap.size w w':=by
 go_enter Tryz.func96,Tryz.ntmps96
 go_wp2
 refine bodyPost_ret (v:=.agg #[.int .i64 per,.int .i64 ph]) ?_ rfl ?_
 ·simp only [results,Tryz.results96]
  go_simp
 ·exact ⟨rfl,bq⟩
theorem operator_any {w:World} (e:PE) (ad:Option Addr) (cap:Nat):Calls Tryz.prog 144 #[ev e ad cap] w fun x w' => x = .returned (.agg #[.int .i64 e.k,.int .i64 e.n,.int .i64 e.d]) ∧ Below w.heap.size w w':=by
 unfold ev
 go_enter Tryz.func144,Tryz.ntmps144
 go_wp2
 refine bodyPost_ret (v:=.agg #[.int .i64 e.k,.int .i64 e.n,.int .i64 e.d]) ?_ rfl ?_
 ·simp only [results,Tryz.results144]
  go_simp
 ·exact ⟨rfl,bq⟩
end Go.Proofs.YtpjficjlfibibaaGreatDoor.syn
