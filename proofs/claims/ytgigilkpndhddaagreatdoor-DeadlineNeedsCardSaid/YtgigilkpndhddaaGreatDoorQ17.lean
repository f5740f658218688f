/-
  Parts of the proof: Chk10, Chk11, Chk12, Ref4c, ChkP.
-/
import Derived.Deep.CutBlock
import Derived.Deep.DeepCutAuto
import Derived.Deep.OwnRows
import Derived.Shelf.Abstract
import Derived.Test.YtgigilkpndhddaaGreatDoorQ12
import Derived.Test.YtgigilkpndhddaaGreatDoorQ16
namespace Go.Proofs.YtgigilkpndhddaaGreatDoor.syn
set_option linter.unusedVariables false
set_option linter.unusedSimpArgs false
set_option linter.unnecessarySimpa false
set_option maxRecDepth 100000
set_option maxHeartbeats 16000000
open Go.RowKit Go.Shelf
attribute [local go_sem] ZT
def okE (env:Env) (e:PE):Bool:=decide (e.k≠2)||ckA env e.args
def Je (env:Env) (flows:List FL):Bool:=(XG flows).all (okE env)
theorem zD {w:World} (flows:List FL) (af:Option Addr) (cf mb:Nat) (L:List (ByteArray × Value)) (env:Env) (hr:Row FlC 8 w flows af) (hc1:flows.length≤cf) (hc2:cf≤9223372036854775807)
  (hM:YG w mb L) (hE:Xy L env) :
  Calls Tryz.prog 51 #[.map (some mb),.slice af flows.length cf] w fun x w'=>zJ (Je env flows) x∧Below w.heap.size w w':=by
 have HR:=hid hr
 have HM:=hid hM
 clear hr hM
 have HWI:=hid (fun w=>XW (w:=w) af flows.length cf)
 refine(Zt (n:=6)).1 ?_
 refine callsIn_of_wp_marks Tryz.func51 rfl trivial ?_ rfl
 simp only[Tryz.ntmps51,ZI,Zp,Zw,Nat.reduceAdd,Nat.reduceSub,ZF,ZE,ZL,ZJ,ZM,ZC]
 gi_wp2_with (refine⟨trivial,?_⟩;gi_at_call 90;refine(Zt.2 (HWI.out _)).mono ?_;rintro e w' ⟨rfl,rfl⟩)
 have bM:=(((Boxed.new w 118 (.map (some mb))).alloc (.cells #[.int .i64 0] 3)).alloc (.cells #[.int .i64 0] 38)).alloc (.cells #[.slice af flows.length cf] 24)
 have bA:=((Boxed.new (w.alloc (.cells #[.map (some mb)] 118)) 3 (.int .i64 0)).alloc (.cells #[.int .i64 0] 38)).alloc (.cells #[.slice af flows.length cf] 24)
 have bE:=(Boxed.new ((w.alloc (.cells #[.map (some mb)] 118)).alloc (.cells #[.int .i64 0] 3)) 38 (.int .i64 0)).alloc (.cells #[.slice af flows.length cf] 24)
 have bS:=Boxed.new (((w.alloc (.cells #[.map (some mb)] 118)).alloc (.cells #[.int .i64 0] 3)).alloc (.cells #[.int .i64 0] 38)) 24 (.slice af flows.length cf)
 simp only[Zu] at bA bE bS
 have hB0:Below w.heap.size w ((((w.alloc (.cells #[.map (some mb)] 118)).alloc (.cells #[.int .i64 0] 3)).alloc (.cells #[.int .i64 0] 38)).alloc (.cells #[.slice af flows.length cf] 24)):=bq
 have hsz:((((w.alloc (.cells #[.map (some mb)] 118)).alloc (.cells #[.int .i64 0] 3)).alloc (.cells #[.int .i64 0] 38)).alloc (.cells #[.slice af flows.length cf] 24)).heap.size=w.heap.size+4:=by simp
 obtain⟨W0,hW0⟩:∃W0,(((w.alloc (.cells #[.map (some mb)] 118)).alloc (.cells #[.int .i64 0] 3)).alloc (.cells #[.int .i64 0] 38)).alloc (.cells #[.slice af flows.length cf] 24)=W0:=⟨_,rfl⟩
 try simp only[Zu]
 rw[hW0] at bM bA bE bS hB0 hsz ⊢
 clear hW0
 have hszw:w.heap.size≤W0.heap.size:=oq
 refine wpIn_rangeFunc_ownH (encs:=fun x:VX w=>#[.agg #[.int .i64 x.e.k,.string x.e.nm,.int .i64 x.e.n,.int .i64 x.e.d,.slice x.ad x.e.args.len x.cap,.int .i64 x.e.a]]) rfl oq (gf:=125) (lb:=#[.pointer (some ⟨w.heap.size+1+1+1,0,none⟩)]) rfl trivial (enters_of Tryz.func125 kq rfl)
  (Uo (W0:=w) Fence.wide rfl trivial trivial rfl _ (w.heap.size+1+1+1) flows af cf HR.out hc1 hc2 W0 oq hB0 bS.cell) (fun h k=>h.trans k) (fun W l o o' hl h hc _=>KC.putObj W l o o' oq h hc) (Zg _ _) (fun _=>rfl)
  (fun pre W=>((Boxed W w.heap.size 118 (.map (some mb))∧Boxed W (w.heap.size+1) 3 (.int .i64 0))∧Boxed W (w.heap.size+1+1) 38 (.int .i64 0))∧Below w.heap.size w W∧(pre.map (·.e)).all (okE env)=true)
  (fun c pre W=>∃a er,((Boxed W (w.heap.size+1) 3 (.int .i64 a)∧Boxed W (w.heap.size+1+1) 38 (.int .i64 er))∧Below w.heap.size w W)∧(c=.ret∧er≠0∧(pre.map (·.e)).all (okE env)=false))
  (OwnFrom.and (OwnFrom.and (OwnFrom.and (Own.from (boxed_own _ _ _) _) (Own.from (boxed_own _ _ _) _)) (Own.from (boxed_own _ _ _) _)) (OwnFrom.and (ownFrom_below (Zc _) hszw) (ownFrom_pure _ _)))
  (fun c s X Y row hs hg hrw=>by
   obtain⟨a,er,⟨⟨h1,h2⟩,h3⟩,h4⟩:=hs
   exact⟨a,er,⟨⟨boxed_own _ _ (fun(_:Unit)=>Value.int .i64 a) () X Y row h1 hg (fun r e=>(hrw r e).2),boxed_own _ _ (fun(_:Unit)=>Value.int .i64 er) () X Y row h2 hg (fun r e=>(hrw r e).2)⟩,ownFrom_below (β:=Unit) (Zc _) hszw () X Y row h3 hg hrw⟩,h4⟩)
  ⟨⟨⟨bM,bA⟩,bE⟩,hB0,rfl⟩
  (fun x a' W=>∃Bx,w.heap.size+1+1<Bx∧W.heap[Bx]?=some (.cells #[.int .i64 x.e.k,.string x.e.nm,.int .i64 x.e.n,.int .i64 x.e.d,.slice x.ad x.e.args.len x.cap,.int .i64 x.e.a] 88 (0,0)) ∧
   a'={ tmps:=#[.map (some mb),.slice af flows.length cf,.pointer (some ⟨w.heap.size,0,none⟩),undef,.pointer (some ⟨w.heap.size+1,0,none⟩),.pointer (some ⟨w.heap.size+1+1,0,none⟩),.pointer (some ⟨Bx,0,none⟩),undef,undef,.slice af flows.length cf,
    .func (.func 125) #[] #[.pointer (some ⟨w.heap.size+1+1+1,0,none⟩)],.agg #[.int .i64 x.e.k,.string x.e.nm,.int .i64 x.e.n,.int .i64 x.e.d,.slice x.ad x.e.args.len x.cap,.int .i64 x.e.a],undef,undef,undef,undef,undef,undef,undef,undef,undef,undef,undef,undef,undef],defers:=[] })
  (fun x a' _ X Y row hs hg hrw=>by
   obtain⟨Bx,h1,h2,h3⟩:=hs
   refine⟨Bx,h1,(hg.block Bx (Zq.1 h2).1 (fun e=>?_)).trans h2,h3⟩
   obtain⟨_,o,ho,hc⟩:=hrw Bx e.symm
   rw[h2] at ho;cases ho;cases hc)
  ?assign ?body ?done ?stop
 case assign =>
  rintro l pre x W K ⟨⟨⟨bM1,bA1⟩,bE1⟩,hB1,hall⟩ hK
  gi_wp2
  exact hK _ _ ((KeepsOthers.alloc _ _).from _) ((KC.refl _ W).alloc hB1.size _) ⟨⟨⟨bM1.alloc _,bA1.alloc _⟩,bE1.alloc _⟩,hB1.alloc hB1.size _,hall⟩ ⟨W.heap.size,bE1.lt,Yp W _,rfl⟩
 case body =>
  rintro l pre ⟨⟨k1,nm1,n1,d1,args1,a1⟩,ad1,cap1,hok⟩ a' W hl ⟨r,hr⟩ ⟨⟨⟨bM1,bA1⟩,bE1⟩,hB1,hall⟩ ⟨Bx,hBx,hxb,rfl⟩ hlt
  simp only at hxb
  have cM:=bM1.cell
  obtain⟨⟨x0,x1,x2,x3,x4,x5⟩,xf⟩:=YZ hxb
  have hsW:=hB1.size
  by_cases hk2:k1=2
  ·subst hk2
   have HC:=hid (yI (w:=W) ⟨2,nm1,n1,d1,args1,a1⟩ ad1 cap1 mb L env (hok.below hB1) (HM.out.below hB1) hE)
   simp only at HC
   cases hck:ckA env args1 with
   | true =>
    rw[hck] at HC
    have hall2:((pre++[(⟨⟨2,nm1,n1,d1,args1,a1⟩,ad1,cap1,hok⟩:VX w)]).map (·.e)).all (okE env)=true:=by
     rw[ZU,List.all_append,hall];simp[okE,hck]
    gi_wp2_with (refine⟨trivial,?_⟩;gi_at_call 91;refine(CallsIn.inRound l (Zt.2 HC.out)).mono ?_;rintro e w2 ⟨he,hb2⟩;obtain rfl:e=.returned (.tuple #[.int .i64 0,.int .i64 0]):=he)
    exact⟨⟨hb2.size,fun k o _ hk _=>(hb2.block k (Zb hk)).trans hk⟩,(KC.refl _ W).of_below hb2 hsW,⟨⟨⟨(hb2.block _ bM1.lt).trans bM1,(hb2.block _ bA1.lt).trans bA1⟩,(hb2.block _ bE1.lt).trans bE1⟩,hB1.trans (hb2.mono hsW),hall2⟩⟩
   | false =>
    rw[hck] at HC
    have hall2:((pre++[(⟨⟨2,nm1,n1,d1,args1,a1⟩,ad1,cap1,hok⟩:VX w)]).map (·.e)).all (okE env)=false:=by
     rw[ZU,List.all_append];simp[okE,hck]
    gi_wp2_with (refine⟨trivial,?_⟩;gi_at_call 91;refine(CallsIn.inRound l (Zt.2 HC.out)).mono ?_;rintro e w2 ⟨⟨ab,eb,heb,rfl⟩,hb2⟩;have heb':(eb == 0)=false:=ZY.2 heb;have bA2:Boxed w2 (w.heap.size+1) 3 (.int .i64 0):=(hb2.block _ bA1.lt).trans bA1;have bE2:Boxed w2 (w.heap.size+1+1) 38 (.int .i64 0):=(hb2.block _ bE1.lt).trans bE1;have cA:=bA2.cell;have fA:=bA2.frozen;have cE:=bE2.cell;have fE:=bE2.frozen)
    exact⟨(show KeepsFrom W0.heap.size W w2 from ⟨hb2.size,fun k o _ hk _=>(hb2.block k (Zb hk)).trans hk⟩).trans (((KeepsOthers.setCell _ _ _).trans (KeepsOthers.setCell _ _ _)).from _),ab,eb,⟨⟨(bA2.set _).other oq _,(bE2.other oq _).set _⟩,((hB1.trans (hb2.mono hsW)).setCell (p:=⟨w.heap.size+1,0,none⟩) (by simp) _).setCell (p:=⟨w.heap.size+1+1,0,none⟩) (by simp;omega) _⟩,rfl,heb,hall2⟩
  have hk2':(k1 == 2)=false:=ZY.2 hk2
  have hall2:((pre++[(⟨⟨k1,nm1,n1,d1,args1,a1⟩,ad1,cap1,hok⟩:VX w)]).map (·.e)).all (okE env)=true:=by
   rw[ZU,List.all_append,hall];simp[okE,hk2]
  gi_wp2
  exact⟨KeepsFrom.refl _ _,KC.refl _ _,⟨⟨⟨bM1,bA1⟩,bE1⟩,hB1,hall2⟩⟩
 case done =>
  rintro D zs W hD hzs ⟨⟨⟨bM1,bA1⟩,bE1⟩,hB1,hall⟩ hK
  have h1:Je env flows=true:=by unfold Je;rw[←hzs];exact hall
  have cA:=bA1.cell
  have fA:=bA1.frozen
  have cE:=bE1.cell
  have fE:=bE1.frozen
  gi_wp2
  have hK2:((W.setCell ⟨w.heap.size+1,0,none⟩ (.int .i64 0)).setCell ⟨w.heap.size+1+1,0,none⟩ (.int .i64 0)).heap[D]?=some (.deferred (some [])):=((KeepsOthers.setCell _ _ _).trans (KeepsOthers.setCell _ _ _)).same D _ hK rfl
  refine⟨by simp,.inl ⟨_,_,rfl,run_takeDeferred hK2,?_⟩⟩
  have bA3:=(((bA1.set (.int .i64 0)).other (show w.heap.size+1≠w.heap.size+1+1 by omega) (.int .i64 0)).kept (grownBy_putObj' _ D (.deferred none)) (by intro e;injection e with e;omega)).cell
  have bE3:=(((bE1.other (show w.heap.size+1+1≠w.heap.size+1 by omega) (.int .i64 0)).set (.int .i64 0)).kept (grownBy_putObj' _ D (.deferred none)) (by intro e;injection e with e;omega)).cell
  refine⟨.tuple #[.int .i64 0,.int .i64 0],?_,?_,?_⟩
  ·simp only[results,Tryz.results51];go_simp
  ·unfold zJ;rw[Z2 h1];rfl
  exact((hB1.setCell (p:=⟨w.heap.size+1,0,none⟩) (by simp) _).setCell (p:=⟨w.heap.size+1+1,0,none⟩) (by simp;omega) _).trans (KC.putObj (n₀:=w.heap.size) _ D _ _ oq hK2 rfl).below
 rintro D c pre W hD hpre ⟨a,er,⟨⟨bA1,bE1⟩,hB1⟩,rfl,her,hall⟩ hK
 have h1:Je env flows=false:=by
  unfold Je
  obtain⟨t,ht⟩:=hpre
  rw[←ht,List.all_append,hall];rfl
 have cA:=bA1.cell
 have fA:=bA1.frozen
 have cE:=bE1.cell
 have fE:=bE1.frozen
 gi_wp2
 refine⟨by simp,.inl ⟨_,_,rfl,run_takeDeferred hK,?_⟩⟩
 have bA3:=(bA1.kept (grownBy_putObj' _ D (.deferred none)) (by intro e;injection e with e;omega)).cell
 have bE3:=(bE1.kept (grownBy_putObj' _ D (.deferred none)) (by intro e;injection e with e;omega)).cell
 refine⟨.tuple #[.int .i64 a,.int .i64 er],?_,?_,?_⟩
 ·simp only[results,Tryz.results51];go_simp
 ·unfold zJ;rw[Z1 (by rw[h1];decide)];exact⟨a,er,her,rfl⟩
 exact hB1.trans (KC.putObj (n₀:=w.heap.size) _ D _ _ oq hK rfl).below
open Go.RowKit
def UT:List IN→Env→Env
 | [],e=>e
 | x::l,e=>UT l (upd e x.nm (x.per,x.ph))
def YX (ins:List IN):Env:=UT ins (fun _=>none)
def Jw (env:Env) (nm:ByteArray):Int × Int:=(env nm).getD (0,0)
def ZbY (w:World) (v:Value) (l:List (Int × Int)):Prop :=
 ∃b,v=.slice (some ⟨b,0,none⟩) l.length l.length∧b<w.heap.size∧∀i (h:i<l.length),w.cell? ⟨b,i*2,none⟩=some (.int .i64 l[i].1)∧w.cell? ⟨b,i*2+1,none⟩=some (.int .i64 l[i].2)
theorem vv {l:List IN} {i:Nat} (h:i<l.length):l.drop i=l[i]::l.drop (i+1):=by rw[ZN h]
theorem yQ {w:World} {r:Nat} {arr:Array Value} {t:TypeId} (h:w.heap[r]?=some (.cells arr t (0,0))) (o:Nat) (u:Value) :
  (w.setCell ⟨r,o,none⟩ u).heap[r]?=some (.cells (arr.setIfInBounds o u) t (0,0)):=by
 have hlt:=Zb h
 have h':w.heap[r]=.cells arr t (0,0):=by simpa [Ym hlt] using h
 show(w.heap.modify r _)[r]?=_
 rw[Ym (by simpa using hlt),Array.getElem_modify_self,h']
 rfl
theorem ER {w:World} {r:Nat} {arr:Array Value} {t:TypeId} (h:w.heap[r]?=some (.cells arr t (0,0))) (o:Nat):w.cell? ⟨r,o,none⟩=arr[o]?∧w.frozen? ⟨r,o,none⟩=false:=by
 constructor
 ·simp[World.cell?,h]
 simp[World.frozen?,h]
structure CW (w W wr:World) (mb:Nat):Prop where
 upon:Upon mb W wr
 size:w.heap.size<W.heap.size
 below:Below w.heap.size w W
 mb:w.heap.size<mb
theorem CW.low {w W wr:World} {mb:Nat} (h:CW w W wr mb):Below w.heap.size w wr:=h.below.trans (h.upon.below (Nat.le_of_lt h.size) (Nat.le_of_lt h.mb))
def ZcF (w W:World) (mb:Nat) (ins:List IN) (v:Value) (wr:World):Prop :=
 ∃(i:Nat) (env:Env) (L:List (ByteArray × Value)),v=.int .i64 (i:Int)∧i≤ins.length∧CW w W wr mb∧YG wr mb L∧Xy L env∧UT (ins.drop i) env=YX ins
def Zdd (w W:World) (mb b:Nat) (env:Env) (L:List (ByteArray × Value)) (flows:List FL) (v:Value) (wr:World):Prop :=
 ∃(i:Nat) (arr:Array Value),v=.int .i64 (i:Int)∧i≤flows.length∧Upon b W wr∧wr.heap[b]?=some (.cells arr 62 (0,0))∧arr.size=flows.length*2 ∧
  ∀j (h:j<flows.length),j<i→arr[j*2]?=some (.int .i64 (Jw env flows[j].nm).1)∧arr[j*2+1]?=some (.int .i64 (Jw env flows[j].nm).2)
theorem InC.later {w wr:World} {b o:Nat} {f:IN} (h:InC w b o f) (hb:Below w.heap.size w wr) (hlt:b<w.heap.size):InC wr b o f:=KJ w wr b o f hb hlt h
theorem gP:Xy [] (fun _=>none):=fun nm=>rfl
theorem ux:(Tryz.prog.info? 62).map (fun i=>(i.zero,i.size,i.bytes))=some (some (.agg #[.int .i64 0,.int .i64 0]),2,16):=by kernel_rfl
theorem xR (n:Nat) (hn:n≤1000) (w:World):(Instr.makeSlice 30 (.int .i64 (n:Int)) (.int .i64 (n:Int))).run Tryz.prog w=.ok (.slice (some ⟨w.heap.size,0,none⟩) n n) (w.alloc (.cells (madeCells #[.int .i64 0,.int .i64 0] (n*2)) 62)):=by
 obtain⟨i,hi,hzz⟩:=Option.map_eq_some_iff.1 ux
 simp only[Z4] at hzz
 obtain⟨hz,hs,hb⟩:=hzz
 have hr:=run_make (P:=Tryz.prog) w 30 62 i _ Tryz.underlying30 hi hz .i64 .i64 n n oq (Int.le_refl _) (by rw[hb];omega) oq
 have hc:(Value.agg #[.int .i64 0,.int .i64 0]).cells=#[.int .i64 0,.int .i64 0]:=by first|rfl|simp[Value.cells]
 rw[hc,hs] at hr
 simpa using hr
theorem uV (w:World) {ops:Array Oper} {rest:List Oper} {o:Oper} {a:Act} {Q:Exit→Act→World→Prop} (hg:o.guard=none) (l c:Operand) (hop:o.op=Op.makeSlice 30 l c)
  (n:Nat) (hl:a.eval l=.int .i64 (n:Int)) (hc:a.eval c=.int .i64 (n:Int)) (hn:n≤1000)
  (hK:wpList Tryz.prog ops Q rest (a.put o.dst (.slice (some ⟨w.heap.size,0,none⟩) n n)) (w.alloc (.cells (madeCells #[.int .i64 0,.int .i64 0] (n*2)) 62))):wpList Tryz.prog ops Q (o::rest) a w:=by
 refine wpList_plain hg fun K hK'=>?_
 have hrun:=xR n hn w
 unfold Oper.wp
 simp[execOp,hop,hl,hc,hrun,Result.andThen]
 exact hK' _ _ hK
theorem uU (n:Nat):(madeCells #[.int .i64 0,.int .i64 0] (n*2)).size=n*2:=size_madeCells _ _
def exE (k n d:Int) (nm:ByteArray) (len:Nat):Bool :=
 if k=1 then Xu nm&&decide (len=0)&&decide (n=0)&&decide (d=0)
 else if k=2 then Xu nm&&decide (1≤len)&&decide (len≤6)&&decide (n=0)&&decide (d=0)
 else if len≠1∨nm≠⟨#[]⟩∨(d≠0∧k≠5) then false
 else if k=3∨k=4 then inB n 1 100
 else if k=5 then inB n 0 100&&inB d 1 100
 else if k=6∨k=8 then inB n (-1000000000) 1000000000
 else decide (k=7)&&decide (n=0)
def exR:PL→Bool
 | .nil=>true
 | .cons k nm n d args _ tl=>(exR args&&exE k n d nm args.len)&&exR tl
def YE (e:PE):Bool:=exR e.args&&exE e.k e.n e.d e.nm e.args.len
def V1 (e:PE):Prop:=∀(w:World) (ad:Option Addr) (cap:Nat),AE w e ad cap →
 Calls Tryz.prog 43 #[ev e ad cap] w fun x w'=>x=.returned (.bool (YE e))∧Below w.heap.size w w'
def Zdj (w:World) (e:PE) (ad:Option Addr) (cap:Nat) (v3:Value) (wr:World):Prop :=
 ∃(i:Nat) (rest:PL),v3=.int .i64 (i:Int)∧Rest wr ad e.args rest i∧exR rest=exR e.args ∧
  wr.heap[w.heap.size]?=some (.cells #[.int .i64 e.k,.string e.nm,.int .i64 e.n,.int .i64 e.d,.slice ad e.args.len cap,.int .i64 e.a] 88 (0,0))∧Below w.heap.size w wr
theorem Za1 {nm:ByteArray} (he:nm≠⟨#[]⟩):nm.data.toList≠[]:=by
 intro h;apply he
 obtain⟨⟨l⟩⟩:=nm
 simp at h;subst h;rfl
theorem ZaR {k n d:Int} {nm:ByteArray} {len:Nat} (h1:k≠1) (h2:k≠2) (h:len≠1):exE k n d nm len=false:=by
 unfold exE;rw[Z1 h1,Z1 h2,Z2 (Or.inl h)]
theorem Zb5 {k n d:Int} {nm:ByteArray} {len:Nat} (h1:k≠1) (h2:k≠2) (h:nm≠⟨#[]⟩):exE k n d nm len=false:=by
 unfold exE;rw[Z1 h1,Z1 h2,Z2 (Or.inr (Or.inl h))]
theorem vK (e:PE) (ih:∀e':PE,e'.args.sz<e.args.sz→V1 e'):V1 e:=by
 intro w ad cap hae
 obtain⟨k,nm,n,d,args,a⟩:=e
 have hlen:=hae.len
 have hnm:=hae.nums.2.2.2.2
 simp only at hlen hnm
 have HAE:=hid hae
 have HIH:=hid ih
 clear hae ih
 unfold ev
 simp only
 obtain⟨fin,hfin⟩:∃fin,YE ⟨k,nm,n,d,args,a⟩=fin:=⟨_,rfl⟩
 rw[hfin]
 have HF:=hid (show(exR args&&exE k n d nm args.len)=fin from hfin)
 clear hfin
 go_enter Tryz.func43,Tryz.ntmps43
 go_wp2
 go_loopw [3] (fun v3 wr=>Hid (Zdj w ⟨k,nm,n,d,args,a⟩ ad cap v3 wr)) (fun i _=>args.len-(intOf i).toNat)
 case atStart=>exact⟨0,args,rfl,(Rest.start HAE.out.args).below bq,rfl,Yp w _,bq⟩
 obtain⟨i,rest,rfl,hrest,hsz,hbox,hbel⟩:=hrel.out
 clear hrel
 obtain⟨⟨x0,x1,x2,x3,x4,x5⟩,xf⟩:=YZ hbox
 have HBOX:=hid hbox
 have HBEL:=hid hbel
 have hil:=hrest.1
 simp only at hil
 have hbl:=Zb hbox
 have hsB:=hbel.size
 have HR:=hid hrest
 clear hbox hbel hrest
 cases rest with
 | cons k1 nm1 n1 d1 args1 a1 tl =>
  have HSZ:=hid hsz
  clear hsz
  have hil':(i:Int)<(args.len:Int):=by simp only[PL.len] at hil;omega
  obtain⟨b,o,rfl,hb,h0,h1,h2,h3,h5,hn,⟨ad1,cap1,h4,hcap1,hcm1,hd1⟩,ht⟩:=HR.out.2.2.resolve_left (by intro h;cases h)
  have hsub:=HR.out.2.1
  simp only[PL.sz] at hsub
  have HC:=hid (HIH.out ⟨k1,nm1,n1,d1,args1,a1⟩ (by show args1.sz<args.sz;omega) wr ad1 cap1 ⟨hn,⟨hcap1,hcm1⟩,hd1⟩)
  unfold ev at HC
  simp only at HC
  cases hbb:YE ⟨k1,nm1,n1,d1,args1,a1⟩ with
  | true =>
   rw[hbb] at HC
   have HS2:=hid (show exR tl=exR args from by
    have h:=HSZ.out
    rw[exR,show(exR args1&&exE k1 n1 d1 nm1 args1.len)=true from hbb,Bool.true_and] at h
    exact h)
   clear hbb ht hn hd1
   go_wp2_with (go_at_call 43;refine HC.out.mono ?_;rintro e w2 ⟨rfl,hb2⟩)
   go_roundw
   case rel=>exact⟨i+1,tl,by go_num,HR.out.tail.below hb2,HS2.out,(hb2.block _ hbl).trans HBOX.out,bq⟩
   simp[intOf];omega
  | false =>
   rw[hbb] at HC
   have HS2:=hid (show exR args=false from by
    have h:=HSZ.out
    rw[exR,show(exR args1&&exE k1 n1 d1 nm1 args1.len)=false from hbb,Bool.false_and] at h
    exact h.symm)
   clear hbb ht hn hd1
   go_wp2_with (go_at_call 43;refine HC.out.mono ?_;rintro e w2 ⟨rfl,hb2⟩)
   go_ret
   exact⟨Yv (by rw[←HF.out,HS2.out];rfl),bq⟩
 | nil =>
  obtain rfl:i=args.len:=by simp only[PL.len] at hil;omega
  have HSZ:=hid (show true=exR args from hsz)
  have HRI:=hid (fun w=>XN nm w hnm)
  have HN1:=hid (fun w=>Xs n 1 100 w)
  have HN2:=hid (fun w=>Xs n 0 100 w)
  have HN3:=hid (fun w=>Xs n (-1000000000) 1000000000 w)
  have HD1:=hid (fun w=>Xs d 1 100 w)
  clear hsz hil
  obtain⟨wo,rfl⟩:∃wo:World,wo=wr:=⟨_,rfl⟩
  obtain⟨pl,hpl⟩:∃pl,decide (n=0∧d=0)=pl:=⟨_,rfl⟩
  go_upto_region 6 with fail
  go_cut [4] (fun s4 W=>Hid (s4=.bool pl∧W=wo))
  case first =>
   by_cases hn0:n=0
   ·by_cases hd0:d=0
    ·obtain rfl:pl=true:=hpl.symm.trans (Z0 ⟨hn0,hd0⟩)
     subst hn0
     subst hd0
     go_wp2_with fail
     go_meet
     exact hid ⟨rfl,rfl⟩
    obtain rfl:pl=false:=hpl.symm.trans (ZZ (fun h=>hd0 h.2))
    have hd1:(d == 0)=false:=ZY.2 hd0
    subst hn0
    go_wp2_with fail
    go_meet
    exact hid ⟨rfl,rfl⟩
   obtain rfl:pl=false:=hpl.symm.trans (ZZ (fun h=>hn0 h.1))
   have hn1:(n == 0)=false:=ZY.2 hn0
   go_wp2_with fail
   go_meet
   exact hid ⟨rfl,rfl⟩
  obtain⟨rfl,rfl⟩:=hcut.out
  clear hcut
  have HPL:=hid hpl
  clear hpl
  by_cases hk1:k=1
  ·subst hk1
   cases hno:Xu nm<;>by_cases hl0:args.len=0
   all_goals (rw[hno] at HRI;first|have hl1:((args.len:Int) == 0)=true:=(by rw[beq_iff_eq];omega)|have hl1:((args.len:Int) == 0)=false:=(by rw[ZY];omega))
   all_goals (have HL:=hid hl0;clear hl0;go_wp2_with (first|(go_at_call 38;refine(HRI.out _).mono ?_;rintro e w2 ⟨rfl,hb2⟩;obtain⟨hc2,hf2⟩:=Yu hb2;have HB2:=hid hb2;clear hb2)|(go_at_call 39;(with_reducible refine(HN2.out _).mono ?_);rintro e w2 ⟨rfl,rfl⟩)|(go_at_call 39;(with_reducible refine(HN3.out _).mono ?_);rintro e w2 ⟨rfl,rfl⟩)|(go_at_call 39;(with_reducible refine(HN1.out _).mono ?_);rintro e w2 ⟨rfl,rfl⟩)|(go_at_call 39;(with_reducible refine(HD1.out _).mono ?_);rintro e w2 ⟨rfl,rfl⟩));all_goals (first|(exfalso;have hl_:=HL.out;omega)|(go_ret;exact⟨Yv (by rw[←HF.out,←HSZ.out];first|(rw[←HPL.out];simp[exE,hno,HL.out];done)|simp[exE,hno,HL.out]),bq⟩)))
  have hk1':(k == 1)=false:=ZY.2 hk1
  by_cases hk2:k=2
  ·subst hk2
   cases hno:Xu nm<;>by_cases hl0:1≤args.len<;>by_cases hl6:args.len≤6
   all_goals (rw[hno] at HRI;have HL:=hid (Zh hl0 hl6);first|(have hl1:(1:Int)≤(args.len:Int):=oq)|(have hl1:(args.len:Int)<1:=oq;have hl3:decide ((1:Int)≤(args.len:Int))=false:=(by simpa using hl1)))
   all_goals (first|(have hl2:(args.len:Int)≤6:=oq)|(have hl2:(6:Int)<(args.len:Int):=oq;have hl4:decide ((args.len:Int)≤6)=false:=(by simpa using hl2)))
   all_goals (clear hl0 hl6;go_wp2_with (first|(go_at_call 38;refine(HRI.out _).mono ?_;rintro e w2 ⟨rfl,hb2⟩;obtain⟨hc2,hf2⟩:=Yu hb2;have HB2:=hid hb2;clear hb2)|(go_at_call 39;(with_reducible refine(HN2.out _).mono ?_);rintro e w2 ⟨rfl,rfl⟩)|(go_at_call 39;(with_reducible refine(HN3.out _).mono ?_);rintro e w2 ⟨rfl,rfl⟩)|(go_at_call 39;(with_reducible refine(HN1.out _).mono ?_);rintro e w2 ⟨rfl,rfl⟩)|(go_at_call 39;(with_reducible refine(HD1.out _).mono ?_);rintro e w2 ⟨rfl,rfl⟩));all_goals (first|(exfalso;have hl_:=HL.out;omega)|(go_ret;exact⟨Yv (by rw[←HF.out,←HSZ.out];first|(rw[←HPL.out];simp[exE,hno,HL.out.1,HL.out.2];done)|simp[exE,hno,HL.out.1,HL.out.2]),bq⟩)))
  have hk2':(k == 2)=false:=ZY.2 hk2
  by_cases hl0:args.len=1
  ·have hl1:((args.len:Int) == 1)=true:=by rw[beq_iff_eq];omega
   have HL:=hid hl0
   clear hl0
   by_cases he:nm=⟨#[]⟩
   ·subst he
    have fin1:∀b:Bool,(if k=3∨k=4 then inB n 1 100 else if k=5 then inB n 0 100&&inB d 1 100 else if k=6∨k=8 then inB n (-1000000000) 1000000000 else decide (k=7)&&decide (n=0))=b→¬(d≠0∧k≠5)→b=fin:=fun b hb hd=>by
     have hc:¬(args.len≠1∨(⟨#[]⟩:ByteArray)≠⟨#[]⟩∨(d≠0∧k≠5)):=fun h=>by
      rcases h with h|h|h
      ·exact h HL.out
      ·exact h rfl
      exact hd h
     rw[←HF.out,←HSZ.out,Bool.true_and]
     unfold exE
     rw[Z1 hk1,Z1 hk2,Z1 hc]
     exact hb.symm
    have FIN:=hid fin1
    clear fin1
    by_cases hk5:k=5
    ·subst hk5
     cases hib:inB n 0 100<;>by_cases hd0:d=0
     all_goals (rw[hib] at HN2;first|have hd1:(d == 0)=false:=ZY.2 hd0|subst hd0)
     all_goals (go_wp2_with (first|(go_at_call 38;refine(HRI.out _).mono ?_;rintro e w2 ⟨rfl,hb2⟩;obtain⟨hc2,hf2⟩:=Yu hb2;have HB2:=hid hb2;clear hb2)|(go_at_call 39;(with_reducible refine(HN2.out _).mono ?_);rintro e w2 ⟨rfl,rfl⟩)|(go_at_call 39;(with_reducible refine(HN3.out _).mono ?_);rintro e w2 ⟨rfl,rfl⟩)|(go_at_call 39;(with_reducible refine(HN1.out _).mono ?_);rintro e w2 ⟨rfl,rfl⟩)|(go_at_call 39;(with_reducible refine(HD1.out _).mono ?_);rintro e w2 ⟨rfl,rfl⟩));all_goals (first|(exfalso;have hl_:=HL.out;omega)|(go_ret;exact⟨Yv (FIN.out _ (by simp[hib]) (by simp)),bq⟩)))
    have hk5':(k == 5)=false:=ZY.2 hk5
    by_cases hd0:d=0
    ·subst hd0
     by_cases hk3:k=3
     ·subst hk3
      go_wp2_with (first|(go_at_call 38;refine(HRI.out _).mono ?_;rintro e w2 ⟨rfl,hb2⟩;obtain⟨hc2,hf2⟩:=Yu hb2;have HB2:=hid hb2;clear hb2)|(go_at_call 39;(with_reducible refine(HN2.out _).mono ?_);rintro e w2 ⟨rfl,rfl⟩)|(go_at_call 39;(with_reducible refine(HN3.out _).mono ?_);rintro e w2 ⟨rfl,rfl⟩)|(go_at_call 39;(with_reducible refine(HN1.out _).mono ?_);rintro e w2 ⟨rfl,rfl⟩)|(go_at_call 39;(with_reducible refine(HD1.out _).mono ?_);rintro e w2 ⟨rfl,rfl⟩))
      all_goals (first|(exfalso;have hl_:=HL.out;omega)|(go_ret;exact⟨Yv (FIN.out _ (by simp) (by simp)),bq⟩))
     have hk3':(k == 3)=false:=ZY.2 hk3
     by_cases hk4:k=4
     ·subst hk4
      go_wp2_with (first|(go_at_call 38;refine(HRI.out _).mono ?_;rintro e w2 ⟨rfl,hb2⟩;obtain⟨hc2,hf2⟩:=Yu hb2;have HB2:=hid hb2;clear hb2)|(go_at_call 39;(with_reducible refine(HN2.out _).mono ?_);rintro e w2 ⟨rfl,rfl⟩)|(go_at_call 39;(with_reducible refine(HN3.out _).mono ?_);rintro e w2 ⟨rfl,rfl⟩)|(go_at_call 39;(with_reducible refine(HN1.out _).mono ?_);rintro e w2 ⟨rfl,rfl⟩)|(go_at_call 39;(with_reducible refine(HD1.out _).mono ?_);rintro e w2 ⟨rfl,rfl⟩))
      all_goals (first|(exfalso;have hl_:=HL.out;omega)|(go_ret;exact⟨Yv (FIN.out _ (by simp) (by simp)),bq⟩))
     have hk4':(k == 4)=false:=ZY.2 hk4
     by_cases hk6:k=6
     ·subst hk6
      go_wp2_with (first|(go_at_call 38;refine(HRI.out _).mono ?_;rintro e w2 ⟨rfl,hb2⟩;obtain⟨hc2,hf2⟩:=Yu hb2;have HB2:=hid hb2;clear hb2)|(go_at_call 39;(with_reducible refine(HN2.out _).mono ?_);rintro e w2 ⟨rfl,rfl⟩)|(go_at_call 39;(with_reducible refine(HN3.out _).mono ?_);rintro e w2 ⟨rfl,rfl⟩)|(go_at_call 39;(with_reducible refine(HN1.out _).mono ?_);rintro e w2 ⟨rfl,rfl⟩)|(go_at_call 39;(with_reducible refine(HD1.out _).mono ?_);rintro e w2 ⟨rfl,rfl⟩))
      all_goals (first|(exfalso;have hl_:=HL.out;omega)|(go_ret;exact⟨Yv (FIN.out _ (by simp) (by simp)),bq⟩))
     have hk6':(k == 6)=false:=ZY.2 hk6
     by_cases hk8:k=8
     ·subst hk8
      go_wp2_with (first|(go_at_call 38;refine(HRI.out _).mono ?_;rintro e w2 ⟨rfl,hb2⟩;obtain⟨hc2,hf2⟩:=Yu hb2;have HB2:=hid hb2;clear hb2)|(go_at_call 39;(with_reducible refine(HN2.out _).mono ?_);rintro e w2 ⟨rfl,rfl⟩)|(go_at_call 39;(with_reducible refine(HN3.out _).mono ?_);rintro e w2 ⟨rfl,rfl⟩)|(go_at_call 39;(with_reducible refine(HN1.out _).mono ?_);rintro e w2 ⟨rfl,rfl⟩)|(go_at_call 39;(with_reducible refine(HD1.out _).mono ?_);rintro e w2 ⟨rfl,rfl⟩))
      all_goals (first|(exfalso;have hl_:=HL.out;omega)|(go_ret;exact⟨Yv (FIN.out _ (by simp) (by simp)),bq⟩))
     have hk8':(k == 8)=false:=ZY.2 hk8
     by_cases hk7:k=7<;>by_cases hn0:n=0
     all_goals (first|have hk7':(k == 7)=false:=ZY.2 hk7|subst hk7)
     all_goals (first|have hn1:(n == 0)=false:=ZY.2 hn0|subst hn0)
     all_goals (go_wp2_with (first|(go_at_call 38;refine(HRI.out _).mono ?_;rintro e w2 ⟨rfl,hb2⟩;obtain⟨hc2,hf2⟩:=Yu hb2;have HB2:=hid hb2;clear hb2)|(go_at_call 39;(with_reducible refine(HN2.out _).mono ?_);rintro e w2 ⟨rfl,rfl⟩)|(go_at_call 39;(with_reducible refine(HN3.out _).mono ?_);rintro e w2 ⟨rfl,rfl⟩)|(go_at_call 39;(with_reducible refine(HN1.out _).mono ?_);rintro e w2 ⟨rfl,rfl⟩)|(go_at_call 39;(with_reducible refine(HD1.out _).mono ?_);rintro e w2 ⟨rfl,rfl⟩));all_goals (first|(exfalso;have hl_:=HL.out;omega)|(exfalso;rename_i hx;have hx_:=eq_of_beq hx;omega)|(go_ret;exact⟨Yv (FIN.out _ (by simp[*]) (by simp)),bq⟩)))
    have hd1:(d == 0)=false:=ZY.2 hd0
    have hd2:(d != 0)=true:=bne_iff_ne.2 hd0
    have hk52:(k != 5)=true:=bne_iff_ne.2 hk5
    go_wp2_with (first|(go_at_call 38;refine(HRI.out _).mono ?_;rintro e w2 ⟨rfl,hb2⟩;obtain⟨hc2,hf2⟩:=Yu hb2;have HB2:=hid hb2;clear hb2)|(go_at_call 39;(with_reducible refine(HN2.out _).mono ?_);rintro e w2 ⟨rfl,rfl⟩)|(go_at_call 39;(with_reducible refine(HN3.out _).mono ?_);rintro e w2 ⟨rfl,rfl⟩)|(go_at_call 39;(with_reducible refine(HN1.out _).mono ?_);rintro e w2 ⟨rfl,rfl⟩)|(go_at_call 39;(with_reducible refine(HD1.out _).mono ?_);rintro e w2 ⟨rfl,rfl⟩))
    all_goals (first|(exfalso;have hl_:=HL.out;omega)|(go_ret;exact⟨Yv (by rw[←HF.out,←HSZ.out];simp[exE,hk1,hk2,hd0,hk5]),bq⟩))
   have he0:nm.data.toList≠[]:=Za1 he
   have he1:nm.toList.isEmpty=false:=by rw[Lib.toList_data];simpa using he0
   have he2:¬nm.toList=[]:=by rw[Lib.toList_data];exact he0
   have HE:=hid he
   clear he he0
   go_wp2_with (first|(go_at_call 38;refine(HRI.out _).mono ?_;rintro e w2 ⟨rfl,hb2⟩;obtain⟨hc2,hf2⟩:=Yu hb2;have HB2:=hid hb2;clear hb2)|(go_at_call 39;(with_reducible refine(HN2.out _).mono ?_);rintro e w2 ⟨rfl,rfl⟩)|(go_at_call 39;(with_reducible refine(HN3.out _).mono ?_);rintro e w2 ⟨rfl,rfl⟩)|(go_at_call 39;(with_reducible refine(HN1.out _).mono ?_);rintro e w2 ⟨rfl,rfl⟩)|(go_at_call 39;(with_reducible refine(HD1.out _).mono ?_);rintro e w2 ⟨rfl,rfl⟩))
   all_goals (first|(exfalso;have hl_:=HL.out;omega)|(go_ret;exact⟨Yv (by rw[←HF.out,←HSZ.out];rw[Zb5 hk1 hk2 HE.out];rfl),bq⟩))
  have hl1:((args.len:Int) == 1)=false:=by rw[ZY];omega
  have HL:=hid hl0
  clear hl0
  go_wp2_with (first|(go_at_call 38;refine(HRI.out _).mono ?_;rintro e w2 ⟨rfl,hb2⟩;obtain⟨hc2,hf2⟩:=Yu hb2;have HB2:=hid hb2;clear hb2)|(go_at_call 39;(with_reducible refine(HN2.out _).mono ?_);rintro e w2 ⟨rfl,rfl⟩)|(go_at_call 39;(with_reducible refine(HN3.out _).mono ?_);rintro e w2 ⟨rfl,rfl⟩)|(go_at_call 39;(with_reducible refine(HN1.out _).mono ?_);rintro e w2 ⟨rfl,rfl⟩)|(go_at_call 39;(with_reducible refine(HD1.out _).mono ?_);rintro e w2 ⟨rfl,rfl⟩))
  all_goals (first|(exfalso;have hl_:=HL.out;omega)|(go_ret;exact⟨Yv (by rw[←HF.out,←HSZ.out];rw[ZaR hk1 hk2 HL.out];rfl),bq⟩))
theorem e8 (e:PE):V1 e:=by
 suffices h:∀(N:Nat) (e:PE),e.args.sz<N→V1 e from h _ e (ZW _)
 intro N
 induction N with
 | zero=>intro e h;omega
 | succ N ih=>intro e h;exact vK e (fun e' h'=>ih e' oq)
theorem Zcp:∀(l:PL) (n most:Int),1≤n→n≤most+1→szL l n most≤most→szL l n most=n+(l.sz:Int):=by
 intro l
 induction l with
 | nil=>intro n most h1 h2 h3;simp only[szL,PL.sz];omega
 | cons k nm n' d args a tl ih1 ih2 =>
  intro n most h1 h2 h3
  rw[szL] at h3 ⊢
  by_cases h:n≤most
  ·rw[Z2 h] at h3 ⊢
   have b1:=KM args 1 (most-n) oq oq
   have b2:=KM tl (n+szL args 1 (most-n)) most oq oq
   have e1:=ih1 1 (most-n) oq oq oq
   have e2:=ih2 (n+szL args 1 (most-n)) most oq oq h3
   rw[e2,e1]
   simp only[PL.sz];omega
  rw[Z1 h] at h3;omega
end Go.Proofs.YtgigilkpndhddaaGreatDoor.syn
