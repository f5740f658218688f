/-
  Parts of the proof: Flt5, RngC, Flt6.
-/
import Derived.Test.YtgigilkpndhddaaGreatDoorQ22
namespace Go.Proofs.YtgigilkpndhddaaGreatDoor.syn
set_option linter.unusedVariables false
set_option linter.unusedSimpArgs false
set_option linter.unnecessarySimpa false
set_option maxRecDepth 100000
set_option maxHeartbeats 16000000
open Go.RowKit Go.Shelf
attribute [local go_sem] ZT
def mk (D:Nat):Deferred:={ target:=.collected D,args:=#[] }
def Mks (n₀:Nat) (Ds:List Nat) (w:World):Prop:=(∀D∈Ds,n₀≤D∧w.heap[D]?=some (.deferred (some [])))∧Ds.Nodup
theorem Mks.below {n₀:Nat} {Ds:List Nat} {w w':World} (h:Mks n₀ Ds w) (hb:Below w.heap.size w w'):Mks n₀ Ds w' :=
 ⟨fun D hD=>⟨(h.1 D hD).1,(hb.block D (Zb (h.1 D hD).2)).trans (h.1 D hD).2⟩,h.2⟩
theorem Mks.cons {n₀:Nat} {Ds:List Nat} {w w':World} (h:Mks n₀ Ds w) (hb:Below w.heap.size w w') {D:Nat} (hn:n₀≤w.heap.size) (hD:w.heap.size≤D) (hk:w'.heap[D]?=some (.deferred (some []))):Mks n₀ (D::Ds) w':=by
 have h':=h.below hb
 refine⟨fun D' hD'=>?_,List.nodup_cons.2 ⟨fun hm=>?_,h'.2⟩⟩
 ·rcases ZR.1 hD' with rfl|hm
  ·exact⟨Zm hn hD,hk⟩
  exact h'.1 D' hm
 have:=Zb (h.1 D hm).2
 omega
theorem Mks.set {n₀:Nat} {Ds:List Nat} {w:World} (h:Mks n₀ Ds w) (p:Addr) (v:Value):Mks n₀ Ds (w.setCell p v) :=
 ⟨fun D hD=>⟨(h.1 D hD).1,(KeepsOthers.setCell _ _ _).same D _ (h.1 D hD).2 rfl⟩,h.2⟩
theorem XX {F:Fence} {n:Nat} {P:Program} {fn:Func} {tmps:Array Value} {R:Ending→World→Prop} {n₀:Nat}:∀(Ds:List Nat) (w:World),Mks n₀ Ds w →
  (∀w',KC n₀ w w'→LeavesInM F n P fn tmps R [] .returning w')→LeavesInM F n P fn tmps R (Ds.map mk) .returning w
 | [],w,_,h=>h w (KC.refl _ _)
 | D::Ds,w,hM,h=>by
  have hD:=hM.1 D (by simp)
  have hk:=KC.putObj (n₀:=n₀) w D _ (.deferred none) hD.1 hD.2 rfl
  refine⟨by simp,.inl ⟨_,_,rfl,run_takeDeferred hD.2,?_⟩⟩
  refine XX Ds _ ⟨fun D' hD'=>⟨(hM.1 D' (by simp[hD'])).1,?_⟩,(List.nodup_cons.1 hM.2).2⟩ (fun w' hw'=>h w' (hk.trans hw'))
  have hne:D'≠D:=fun e=>(List.nodup_cons.1 hM.2).1 (e▸hD')
  exact((grownBy_putObj' w D (.deferred none)).block D' (Zb (hM.1 D' (by simp[hD'])).2) (by intro e;injection e with e;exact hne e)).trans (hM.1 D' (by simp[hD'])).2
def ZbJ (W:World) (b:Nat) (p:PG) (an ai af ao:Option Addr) (cn ci cf co:Nat):Prop:=W.heap[b]?=some (.cells #[.slice an p.nodes.length cn,.slice ai p.ins.length ci,.slice af p.flows.length cf,.slice ao p.outs.length co] 27 (0,0))
def ZcI (p:PG) (l:List (Int × Int)) (x:Ending):Prop:=(∃a e,e≠0∧x=.returned (.tuple #[.int .i64 a,.int .i64 e]))∨(x=.returned (.tuple #[.int .i64 0,.int .i64 0])∧∃env,qD p env∧l=p.flows.map (fun f=>Jw env f.nm))
def CkA (w:World) (p:PG) (x:Ending) (w':World):Prop :=
 ((∃a e,e≠0∧(e != 0)=true∧x=.returned (.tuple #[.slice none 0 0,.int .i64 a,.int .i64 e]))∨∃l' b' env,x=.returned (.tuple #[.slice (some ⟨b',0,none⟩) l'.length l'.length,.int .i64 0,.int .i64 0])∧qD p env∧p.flows.map (fun f=>Jw env f.nm)=l'∧b'<w'.heap.size∧zl w' b' l'∧l'.length≤1000)∧Below w.heap.size w w'
theorem qX {w:World} (p:PG) (an ai af ao:Option Addr) (cn ci cf co:Nat) (hp:AP w p an ai af ao cn ci cf co) (hz:NZ w p.nodes an) (hok:Jy p) :
  Calls Tryz.prog 92 #[pv p an ai af ao cn ci cf co] w (CkA w p):=by
 refine(uK p an ai af ao cn ci cf co hp hz hok).mono ?_
 rintro x w' ⟨⟨a,e,he,rfl⟩|⟨v,env,rfl,hcf,b,rfl,hb,hr⟩,hB⟩
 ·exact⟨.inl ⟨a,e,he,bne_iff_ne.2 he,rfl⟩,hB⟩
 exact⟨.inr ⟨_,b,env,rfl,hcf,rfl,hb,hr,by rw[Zo];have:=hok.lens;omega⟩,hB⟩
theorem kE {w:World} (p:PG) (an ai af ao:Option Addr) (cn ci cf co:Nat) (hp:AP w p an ai af ao cn ci cf co) (hz:NZ w p.nodes an) (hok:Jy p) (l:List (Int × Int)) (bc:Nat) (hbc:bc<w.heap.size) (hl:l.length≤1000) (hc:zl w bc l) :
  Calls Tryz.prog 53 #[pv p an ai af ao cn ci cf co,.slice (some ⟨bc,0,none⟩) l.length l.length] w fun x w'=>ZcI p l x∧Below w.heap.size w w':=by
 have HCK:=hid (fun(w':World) (hb:Below w.heap.size w w')=>qX (w:=w') p an ai af ao cn ci cf co (hp.below hb) (hz.below hp.nodes hb) hok)
 have HFS:=hid (fun(w':World) (hb:Below w.heap.size w w')=>X5 hb p an ai af ao cn ci cf co hp)
 have hll:=hok.lens
 have hfl:=hok.flows
 have HC:=hid (show ∀w':World,Below w.heap.size w w'→zl w' bc l from fun w' hb i h=>⟨(hb.cell (p:=⟨bc,i*2,none⟩) hbc).trans (hc i h).1,(hb.cell (p:=⟨bc,i*2+1,none⟩) hbc).trans (hc i h).2⟩)
 have HP:=hid hp
 obtain⟨nodes,ins,flows,outs⟩:=p
 have HFL:=hid hfl
 clear hp hz hok hc hfl
 unfold pv CkA at *
 simp only at HCK HFS hll HFL ⊢
 refine(Zt (n:=6)).1 ?_
 refine callsIn_of_wp_marks Tryz.func53 rfl trivial ?_ rfl
 simp only[Tryz.ntmps53,ZI,Zp,Zw,Nat.reduceAdd,Nat.reduceSub,ZF,ZE,ZL,ZJ,ZM,ZC]
 gi_wp2_with (refine⟨trivial,?_⟩;first|(gi_at_call 92;refine(Zt.2 (HCK.out _ bq)).mono ?_;rintro x w1 ⟨hx,hb1⟩;obtain⟨hc1,hf1⟩:=Yu hb1;have b1:=hb1.size;simp only[Zu] at b1;have hpb1:ZbJ w1 w.heap.size ⟨nodes,ins,flows,outs⟩ an ai af ao cn ci cf co:=(hb1.block _ (by simp;omega)).trans ((Za _ _ _ (by simp;omega)).trans ((Za _ _ _ (by simp)).trans (Yp w _)));have bA1:Boxed w1 (w.heap.size+1) 3 (.int .i64 0):=(hb1.block _ (by simp)).trans ((Za _ _ _ (by simp)).trans (by simpa using Yp (w.alloc _) _));have bE1:Boxed w1 (w.heap.size+1+1) 38 (.int .i64 0):=(hb1.block _ (by simp)).trans (by simpa using Yp ((w.alloc _).alloc _) _);rcases hx with ⟨a2,e2,he2,he3,rfl⟩|⟨l',b',env,rfl,hcf,hl',hb',hrow,hl''⟩)|(gi_at_call 93;refine(Zt.2 (Kc l' l b' bc hb' oq hrow (HC.out _ bq) hl'' hl)).mono ?_;rintro x w2 ⟨rfl,hb2⟩;have hB2:Below w.heap.size w w2:=bq;have b2:=hb2.size;have hpb2:ZbJ w2 w.heap.size ⟨nodes,ins,flows,outs⟩ an ai af ao cn ci cf co:=(hb2.block _ oq).trans hpb1;have bA2:Boxed w2 (w.heap.size+1) 3 (.int .i64 0):=(hb2.block _ oq).trans bA1;have bE2:Boxed w2 (w.heap.size+1+1) 38 (.int .i64 0):=(hb2.block _ oq).trans bE1;obtain⟨⟨x0,x1,x2,x3⟩,xf⟩:=Yq hpb2;have cA:=bA2.cell;have fA:=bA2.frozen;have cE:=bE2.cell;have fE:=bE2.frozen;clear hb1 hb2 hc1 hf1 hpb1 bA1 bE1;cases hd:decide (l'=l)))
 ·have bA3:=((bA1.set (.int .i64 a2)).other (show w.heap.size+1≠w.heap.size+1+1 by omega) (.int .i64 e2)).cell
  have bE3:=((bE1.other (show w.heap.size+1+1≠w.heap.size+1 by omega) (.int .i64 a2)).set (.int .i64 e2)).cell
  refine⟨.tuple #[.int .i64 a2,.int .i64 e2],?_,?_,?_⟩
  ·simp only[results,Tryz.results53];go_simp
  ·exact .inl ⟨a2,e2,he2,rfl⟩
  exact bq
 ·have bA3:=((bA2.set (.int .i64 0)).other (show w.heap.size+1≠w.heap.size+1+1 by omega) (.int .i64 12)).cell
  have bE3:=((bE2.other (show w.heap.size+1+1≠w.heap.size+1 by omega) (.int .i64 0)).set (.int .i64 12)).cell
  refine⟨.tuple #[.int .i64 0,.int .i64 12],?_,?_,?_⟩
  ·simp only[results,Tryz.results53];go_simp
  ·exact .inl ⟨0,12,by decide,rfl⟩
  exact(hB2.setCell (p:=⟨w.heap.size+1,0,none⟩) (by simp) _).setCell (p:=⟨w.heap.size+1+1,0,none⟩) (by simp;omega) _
 have hll':l'=l:=Yi hd
 subst hll'
 have HEND:=hid (show ZcI ⟨nodes,ins,flows,outs⟩ l' (.returned (.tuple #[.int .i64 0,.int .i64 0])) from .inr ⟨rfl,env,hcf,hl'.symm⟩)
 have HB2:=hid hB2
 have HPB:=hid hpb2
 have HA2:=hid bA2
 have HE2:=hid bE2
 clear hcf hl' hB2 hpb2 bA2 bE2 x0 x1 x2 x3 xf cA fA cE fE hrow hd hl'' HCK
 have hsw2:w.heap.size+3≤w2.heap.size:=oq
 refine wpIn_loop (fun a' wr=>∃(u9 u29 u30 u31 u32 u33 u34 u43:Value) (i:Nat) (Ds:List Nat),(i≤flows.length∧Mks w.heap.size Ds wr∧Below w2.heap.size w2 wr)∧a'={ tmps:=#[.agg #[.slice an nodes.length cn,.slice ai ins.length ci,.slice af flows.length cf,.slice ao outs.length co],.slice (some ⟨bc,0,none⟩) l'.length l'.length,.pointer (some ⟨w.heap.size,0,none⟩),undef,.pointer (some ⟨w.heap.size+1,0,none⟩),.pointer (some ⟨w.heap.size+1+1,0,none⟩),.slice (some ⟨b',0,none⟩) l'.length l'.length,.int .i64 0,.int .i64 0,u9,undef,.tuple #[.slice (some ⟨b',0,none⟩) l'.length l'.length,.int .i64 0,.int .i64 0],.agg #[.slice an nodes.length cn,.slice ai ins.length ci,.slice af flows.length cf,.slice ao outs.length co],.tuple #[.slice (some ⟨b',0,none⟩) l'.length l'.length,.int .i64 0,.int .i64 0],.slice (some ⟨b',0,none⟩) l'.length l'.length,.int .i64 0,.int .i64 0,.int .i64 0,.bool false,undef,undef,.slice (some ⟨b',0,none⟩) l'.length l'.length,.slice (some ⟨bc,0,none⟩) l'.length l'.length,.bool true,.bool false,.pointer (some ⟨w.heap.size,2,none⟩),.slice af flows.length cf,.int .i64 (flows.length:Int),.int .i64 (i:Int),u29,u30,u31,u32,u33,u34,undef,undef,undef,undef,undef,undef,undef,undef,u43],defers:=Ds.map mk }) (fun a' _=>flows.length-(intOf (a'.tmps.getD 28 undef)).toNat) ⟨_,_,_,_,_,_,_,_,0,[],⟨Zk _,⟨by simp,List.nodup_nil⟩,Zg _ _⟩,rfl⟩ ?_
 rintro _ wr ⟨u9,u29,u30,u31,u32,u33,u34,u43,i,Ds,⟨hi,hM,hbw⟩,rfl⟩
 dsimp only
 have hszw:=hbw.size
 have HM:=hid hM
 have HBW:=hid (HB2.out.trans (hbw.mono oq))
 have hA:=(hbw.block _ oq).trans HA2.out
 have hE:=(hbw.block _ oq).trans HE2.out
 have hpb:=(hbw.block _ oq).trans HPB.out
 have HBR:=hid hbw
 have bA2:Boxed wr (w.heap.size+1) 3 (.int .i64 0):=hA
 have bE2:Boxed wr (w.heap.size+1+1) 38 (.int .i64 0):=hE
 clear hM hbw hA hE
 by_cases hlt:i<flows.length
 ·have hil:(i:Int)<(flows.length:Int):=oq
  obtain⟨⟨x0,x1,x2,x3⟩,xf⟩:=Yq hpb
  obtain⟨hf1,hf2⟩:=HFL.out _ (Zi hlt)
  obtain⟨f,hf⟩:∃f,flows[i]=f:=⟨_,rfl⟩
  have HFC:=hid (HFS.out wr HBW.out i hlt oq)
  rw[hf] at HFC hf1 hf2
  obtain⟨fnm,⟨k1,nm1,n1,d1,args1,a1⟩,fa⟩:=f
  unfold PE.sz at hf1
  have HG2:=hid hf2
  have hdg:=JP (i:=i) oq
  unfold spv at HFC
  simp only at HFC hf1
  clear hf hf2 hpb
  gi_wp2_with (refine⟨trivial,?_⟩;first|(gi_at_call 95;refine(Zt.2 HFC.out).mono ?_;rintro x w3 ⟨⟨ad2,cap2,rfl,hae⟩,hb3⟩)|(gi_at_call 94;refine(Zt.2 (U9 (w:=w3) ⟨k1,nm1,n1,d1,args1,a1⟩ ad2 cap2 (dg i))).mono ?_;rintro x w4 ⟨rfl,rfl⟩))
  have HSP:=hid (show Qe w ⟨k1,nm1,n1,d1,args1,a1⟩ ad2 cap2 (dg i) from ⟨hae,HG2.out,by show(dg i).size+3*args1.sz≤500;omega,by show args1.sz<100;omega⟩)
  have bX:=Yp w3 (.cells #[.int .i64 k1,.string nm1,.int .i64 n1,.int .i64 d1,.slice ad2 args1.len cap2,.int .i64 a1,.string (dg i)] 184)
  have hb4:Below wr.heap.size wr (w3.alloc (.cells #[.int .i64 k1,.string nm1,.int .i64 n1,.int .i64 d1,.slice ad2 args1.len cap2,.int .i64 a1,.string (dg i)] 184)):=hb3.alloc hb3.size _
  have hsz1:(w3.alloc (.cells #[.int .i64 k1,.string nm1,.int .i64 n1,.int .i64 d1,.slice ad2 args1.len cap2,.int .i64 a1,.string (dg i)] 184)).heap.size=w3.heap.size+1:=by simp
  have hs3:=hb3.size
  obtain⟨W1,hW1⟩:∃W1,w3.alloc (.cells #[.int .i64 k1,.string nm1,.int .i64 n1,.int .i64 d1,.slice ad2 args1.len cap2,.int .i64 a1,.string (dg i)] 184)=W1:=⟨_,rfl⟩
  rw[hW1] at bX hb4 hsz1 ⊢
  have HB4:=hid hb4
  have HWL:=hid (show Below w.heap.size w W1 from HBW.out.trans (hb4.mono oq))
  have hszw1:w.heap.size≤W1.heap.size:=oq
  have HBX:=hid bX
  clear hW1 hb4 hae hb3 bX bA2 bE2 x0 x1 x2 x3 xf HFC
  refine wpIn_rangeFunc_ownH (encs:=fun x:VS w=>#[.agg #[.int .i64 x.s.1.k,.string x.s.1.nm,.int .i64 x.s.1.n,.int .i64 x.s.1.d,.slice x.ad x.s.1.args.len x.cap,.int .i64 x.s.1.a,.string x.s.2]]) rfl oq (gf:=127) (lb:=#[.pointer (some ⟨w3.heap.size,0,none⟩)]) rfl trivial (enters_of Tryz.func127 kq rfl)
   (Vr (W0:=w) Fence.wide rfl trivial trivial trivial rfl (GN w) _ w3.heap.size ⟨k1,nm1,n1,d1,args1,a1⟩ ad2 cap2 (dg i) HSP.out W1 W1.heap.size (Zc _) HWL.out HBX.out) (fun h k=>h.trans k) (fun W l o o' hl h hc _=>KF.putObj W l o o' oq h hc) (Zg _ _) (fun _=>rfl)
   (fun pre W=>Below W1.heap.size W1 W)
   (fun c pre W=>False)
   (ownFrom_below (Zc _) (Zc _))
   (fun c s X Y row hs _ _=>hs.elim)
   (Zg _ _)
   (fun x a' W=>∃Bx,W1.heap.size≤Bx∧W.heap[Bx]?=some (.cells #[.int .i64 x.s.1.k,.string x.s.1.nm,.int .i64 x.s.1.n,.int .i64 x.s.1.d,.slice x.ad x.s.1.args.len x.cap,.int .i64 x.s.1.a,.string x.s.2] 184 (0,0)) ∧
    ∃A0:Array Value,a'={ tmps:=#[A0.getD 0 undef,A0.getD 1 undef,A0.getD 2 undef,A0.getD 3 undef,A0.getD 4 undef,A0.getD 5 undef,A0.getD 6 undef,A0.getD 7 undef,A0.getD 8 undef,A0.getD 9 undef,.pointer (some ⟨Bx,0,none⟩),A0.getD 11 undef,A0.getD 12 undef,A0.getD 13 undef,A0.getD 14 undef,A0.getD 15 undef,A0.getD 16 undef,A0.getD 17 undef,A0.getD 18 undef,A0.getD 19 undef,A0.getD 20 undef,A0.getD 21 undef,A0.getD 22 undef,A0.getD 23 undef,A0.getD 24 undef,A0.getD 25 undef,A0.getD 26 undef,A0.getD 27 undef,A0.getD 28 undef,A0.getD 29 undef,A0.getD 30 undef,A0.getD 31 undef,A0.getD 32 undef,A0.getD 33 undef,A0.getD 34 undef,A0.getD 35 undef,A0.getD 36 undef,A0.getD 37 undef,A0.getD 38 undef,A0.getD 39 undef,A0.getD 40 undef,A0.getD 41 undef,A0.getD 42 undef,A0.getD 43 undef],defers:=[] })
   (fun x a' _ X Y row hs hg hrw=>by
    obtain⟨Bx,h1,h2,h3⟩:=hs
    refine⟨Bx,h1,(hg.block Bx (Zq.1 h2).1 (fun e=>?_)).trans h2,h3⟩
    obtain⟨_,o,ho,hc⟩:=hrw Bx e.symm
    rw[h2] at ho;cases ho;cases hc)
   ?assign ?body ?done ?stop
  case assign =>
   rintro l pre x W K hBW hK
   gi_wp2
   exact hK _ _ ((KeepsOthers.alloc _ _).from _) ((KF.refl _ _ W).alloc (Zm hszw1 hBW.size) _) (hBW.alloc hBW.size _) ⟨W.heap.size,hBW.size,Yp W _,⟨#[.agg #[.slice an nodes.length cn,.slice ai ins.length ci,.slice af flows.length cf,.slice ao outs.length co],.slice (some ⟨bc,0,none⟩) l'.length l'.length,.pointer (some ⟨w.heap.size,0,none⟩),undef,.pointer (some ⟨w.heap.size+1,0,none⟩),.pointer (some ⟨w.heap.size+1+1,0,none⟩),.slice (some ⟨b',0,none⟩) l'.length l'.length,.int .i64 0,.int .i64 0,.int .i64 (i:Int),undef,.tuple #[.slice (some ⟨b',0,none⟩) l'.length l'.length,.int .i64 0,.int .i64 0],.agg #[.slice an nodes.length cn,.slice ai ins.length ci,.slice af flows.length cf,.slice ao outs.length co],.tuple #[.slice (some ⟨b',0,none⟩) l'.length l'.length,.int .i64 0,.int .i64 0],.slice (some ⟨b',0,none⟩) l'.length l'.length,.int .i64 0,.int .i64 0,.int .i64 0,.bool false,undef,undef,.slice (some ⟨b',0,none⟩) l'.length l'.length,.slice (some ⟨bc,0,none⟩) l'.length l'.length,.bool true,.bool false,.pointer (some ⟨w.heap.size,2,none⟩),.slice af flows.length cf,.int .i64 (flows.length:Int),.int .i64 (i:Int),.bool true,.int .i64 (i:Int),.agg #[.slice an nodes.length cn,.slice ai ins.length ci,.slice af flows.length cf,.slice ao outs.length co],.int .i64 (i:Int),.agg #[.int .i64 k1,.string nm1,.int .i64 n1,.int .i64 d1,.slice ad2 args1.len cap2,.int .i64 a1,.string (dg i)],.func (.func 127) #[] #[.pointer (some ⟨w3.heap.size,0,none⟩)],.agg #[.int .i64 x.s.1.k,.string x.s.1.nm,.int .i64 x.s.1.n,.int .i64 x.s.1.d,.slice x.ad x.s.1.args.len x.cap,.int .i64 x.s.1.a,.string x.s.2],undef,undef,undef,undef,undef,undef,undef,u43],rfl⟩⟩
  case body =>
   rintro l pre ⟨⟨⟨k2,nm2,n2,d2,args2,a2⟩,way2⟩,ad3,cap3,hok⟩ a' W hl ⟨r,hr⟩ hBW ⟨Bx,hBx,hxb,A0,rfl⟩ hlt2
   simp only at hxb
   obtain⟨⟨x0,x1,x2,x3,x4,x5,x6⟩,xf⟩:=YO hxb
   have hsW:=hBW.size
   have HSH:=hid (qy (w:=W) ⟨k2,nm2,n2,d2,args2,a2⟩ ad3 cap3 hok.good)
   unfold ev at HSH
   simp only at HSH
   have HBW2:=hid hBW
   clear hBW hxb hr
   gi_wp2_with (refine⟨trivial,?_⟩;gi_at_call 96;refine(CallsIn.inRound l (Zt.2 HSH.out)).mono ?_;rintro e w5 ⟨rfl,hb5⟩)
   exact⟨⟨hb5.size,fun k o _ hk _=>(hb5.block k (Zb hk)).trans hk⟩,(KF.refl _ _ W).of_below hb5 (Zm hszw1 hsW),HBW2.out.trans (hb5.mono hsW)⟩
  case done =>
   rintro D zs W hD hzs hBW hK
   gi_wp2
   rw[show((i:Int)+1)=((i+1:Nat):Int) by omega]
   refine⟨⟨_,_,_,_,_,_,_,_,i+1,D::Ds,⟨oq,HM.out.cons (HB4.out.trans (hBW.mono oq)) oq oq hK,HBR.out.trans ((HB4.out.trans (hBW.mono oq)).mono oq)⟩,rfl⟩,by simp[intOf];omega⟩
  rintro D c pre W hD hpre hf hK
  exact hf.elim
 have hie:¬(i:Int)<(flows.length:Int):=oq
 have cA:=bA2.cell
 have fA:=bA2.frozen
 have cE:=bE2.cell
 have fE:=bE2.frozen
 gi_wp2
 refine XX Ds _ ((HM.out.set _ _).set _ _) (fun w' hk=>?_)
 have bA3:=hk.same _ _ ((bA2.set (.int .i64 0)).other (show w.heap.size+1≠w.heap.size+1+1 by omega) (.int .i64 0)) rfl
 have bE3:=hk.same _ _ ((bE2.other (show w.heap.size+1+1≠w.heap.size+1 by omega) (.int .i64 0)).set (.int .i64 0)) rfl
 have bA4:=(show Boxed w' _ _ _ from bA3).cell
 have bE4:=(show Boxed w' _ _ _ from bE3).cell
 refine⟨.tuple #[.int .i64 0,.int .i64 0],?_,?_,?_⟩
 ·simp only[results,Tryz.results53];go_simp
 ·exact HEND.out
 exact((HBW.out.setCell (p:=⟨w.heap.size+1,0,none⟩) (by simp) _).setCell (p:=⟨w.heap.size+1+1,0,none⟩) (by simp;omega) _).trans hk.below
def Zc2 {α:Type} (F:Fence) (n:Nat) (P:Program) (g:Nat) (lb:Array Value) (encs:α→Array Value) (n₀ Bk:Nat) (S Sp:List α→Prop) (N:Nat) (w:World):Prop :=
 ∀(l:Nat) (J Jx:List α→World→Prop) (W:World),Below w.heap.size w W→OwnFrom W.heap.size J→OwnFrom W.heap.size Jx →
  (∀pre x W1,J pre W1→pre.length<N→YieldAt F (n-1) P l (encs x) W1 fun e W'=>(e=.returned (.bool true)∧J (pre++[x]) W'∧KF n₀ Bk W1 W'∧KeepsFrom W.heap.size W1 W')∨(e=.returned (.bool false)∧Jx (pre++[x]) W'∧KeepsFrom W.heap.size W1 W')) →
  J [] W→CallsIn F n P g (#[.func (.yield l) #[] #[]]++lb) W fun e W'=>(∃v,e=.returned v)∧((∃xs,S xs∧J xs W')∨(∃pre,Sp pre∧Jx pre W'))
theorem jp {α:Type} {F:Fence} {n:Nat} {P:Program} {g:Operand} {ps:Array Tmp} {assign body:Code} {Q:Exit→Act→World→Prop} {a:Act} {w:World} (hro:F.round=none) (h1:1≤n) {gf:Nat} {lb:Array Value}
  (hg:a.eval g=.func (.func gf) #[] lb) (hFg:F.fn gf) (eg:∀args w,(callFunc gf args).run P w=.ok (.enter gf args) w) {encs:α→Array Value} {n₀ Bk:Nat} (hn:n₀≤w.heap.size) {S Sp:List α→Prop} {N:Nat}
  (hseq:Zc2 F (n-1) P gf lb encs n₀ Bk S Sp N w) (hps:∀x,(encs x).size=ps.size) (I Ix:List α→World→Prop) (hI:OwnFrom w.heap.size I) (hIx:OwnFrom w.heap.size Ix) (h0:I [] w)
  (Ax:α→Act→World→Prop) (hAx:∀x a',OwnFrom w.heap.size (fun(_:Unit) W=>Ax x a' W))
  (hassign:∀(l:Nat) (pre:List α) (x:α) (W:World) (K:Act→World→Prop),I pre W→(∀a' W',Below W.heap.size W W'→I pre W'→Ax x a' W'→K a' W') →
   assign.wpIn (F.inRound l) (n-1-1) P (Exit.then K (fun _ _ _=>False)) { tmps:=(ps.zip (encs x)).foldl (fun t (p,v)=>t.setIfInBounds p v) a.tmps,defers:=[] } W)
  (hbody:∀(l:Nat) (pre:List α) (x:α) (a':Act) (W:World),w.heap.size≤l→(∃r,W.heap[l]?=some (.loop r))→I pre W→Ax x a' W→pre.length<N →
   body.wpIn (F.inRound l) (n-1-1) P (ownPostG w.heap.size (KF n₀ Bk) I (fun c xs W=>c=.ret∧Ix xs W) (pre++[x]) W) a' W)
  (hdone:∀(D:Nat) (xs:List α) (W:World),w.heap.size≤D→S xs→I xs W→W.heap[D]?=some (.deferred (some []))→Q .normal { a with defers:=mk D::a.defers } W)
  (hstop:∀(D:Nat) (pre:List α) (W:World),w.heap.size≤D→Sp pre→Ix pre W→W.heap[D]?=some (.deferred (some []))→Code.ret.wpIn F n P Q { a with defers:=mk D::a.defers } W) :
  (Code.rangeFunc g ps assign body).wpIn F n P Q a w:=by
 refine wpIn_rangeFunc (fun fn hfn=>?_)
 rw[hro]
 let R:LoopState→Option Code→Loop:=fun st pe=>{ state:=st,pending:=pe,fn,tmps:=a.tmps,params:=ps,assign,body,defers:=w.heap.size }
 let W1:World:=(w.alloc (.deferred (some []))).alloc (.loop (R .ready none))
 have hs1:W1.heap.size=w.heap.size+2:=by simp[W1]
 have hb1:Below w.heap.size w W1:=((Zg _ w).alloc (Zc _) _).alloc (by simp) _
 have hL:W1.heap[w.heap.size+1]?=some (.loop (R .ready none)):=by
  have:=World.alloc_heap_new (w.alloc (.deferred (some []))) (.loop (R .ready none))
  rwa [Zu] at this
 have hD:W1.heap[w.heap.size]?=some (.deferred (some [])):=(Za _ _ _ (by simp)).trans (World.alloc_heap_new w _)
 refine⟨w.heap.size+1,[mk w.heap.size],W1,{ target:=.fn (.func gf) lb,args:=#[.func (.yield (w.heap.size+1)) #[] #[]] },W1,gf,#[.func (.yield (w.heap.size+1)) #[] #[]]++lb,W1,run_enterLoop_outer _ _ _ _ _,?_,?_,?_,fun _=>h1,?_⟩
 ·simp only[resolve,hg]
  simp[go_sem]
 ·intro f' hf'
  simp[Target.leads] at hf'
  subst hf'
  exact hFg
 ·simp[invoke,go_sem,eg]
 have hrow:∀{A B:World} {row:Option Nat} {k:Nat} {o:Obj},A.grownBy B row→(∀r,row=some r→W1.heap.size≤r∧∃o:Obj,A.heap[r]?=some o∧o.isCells=false)→k<W1.heap.size→A.heap[k]?=some o→B.heap[k]?=some o:=by
  intro A B row k o hgr hr hk ho
  refine(hgr.block k (Zq.1 ho).1 (fun e=>?_)).trans ho
  have:=(hr k e.symm).1
  omega
 have hlow:∀{A:World} {row:Option Nat},(∀r,row=some r→W1.heap.size≤r∧∃o:Obj,A.heap[r]?=some o∧o.isCells=false)→(∀r,row=some r→w.heap.size≤r∧∃o:Obj,A.heap[r]?=some o∧o.isCells=false) :=
  fun hr r e=>⟨by have:=(hr r e).1;omega,(hr r e).2⟩
 refine(hseq (w.heap.size+1) (fun pre W=>(I pre W∧W.heap[w.heap.size+1]?=some (.loop (R .ready none)))∧W.heap[w.heap.size]?=some (.deferred (some [])))
  (fun pre W=>(Ix pre W∧W.heap[w.heap.size+1]?=some (.loop (R .done (some .ret))))∧W.heap[w.heap.size]?=some (.deferred (some []))) W1 hb1
  (fun s A B row hs hgr hr=>⟨⟨hI s A B row hs.1.1 hgr (hlow hr),hrow hgr hr oq hs.1.2⟩,hrow hgr hr oq hs.2⟩)
  (fun s A B row hs hgr hr=>⟨⟨hIx s A B row hs.1.1 hgr (hlow hr),hrow hgr hr oq hs.1.2⟩,hrow hgr hr oq hs.2⟩) ?_ ⟨⟨hI.alloc _ (hI.alloc _ h0),hL⟩,hD⟩).mono ?_
 ·rintro pre x W ⟨⟨hi,hl⟩,hk⟩ hlen
  refine⟨fn,_,assign,body,run_yield (P:=P) (args:=encs x) hl (hps x),roundIn_of_wpIn hfn (hassign _ pre x W _ hi (fun a' Wa hba hia hax=>?_))⟩
  have hla:=(hba.block _ (Zq.1 hl).1).trans hl
  have hka:=(hba.block _ (Zq.1 hk).1).trans hk
  have hlt:w.heap.size+1<Wa.heap.size:=(Zq.1 hla).1
  have hWs:w.heap.size+1<W.heap.size:=(Zq.1 hl).1
  refine⟨_,run_beginRound hla rfl,?_⟩
  have hlb:(Wa.putObj (w.heap.size+1) (.loop { R .ready none with state:=.busy })).heap[w.heap.size+1]?=some (.loop { R .ready none with state:=.busy }):=World.putObj_heap_same hlt
  have hkb:(Wa.putObj (w.heap.size+1) (.loop { R .ready none with state:=.busy })).heap[w.heap.size]?=some (.deferred (some [])):=(World.putObj_heap_other oq).trans hka
  have hKa:KF n₀ Bk W Wa:=(KF.refl n₀ Bk W).of_below hba oq
  have hKb:KF n₀ Bk W (Wa.putObj (w.heap.size+1) (.loop { R .ready none with state:=.busy })):=hKa.trans (KF.putObj _ _ _ _ oq hla rfl)
  have hfb:KeepsFrom W1.heap.size W (Wa.putObj (w.heap.size+1) (.loop { R .ready none with state:=.busy })):=⟨by simpa using hba.size,fun k o hk1 hko _=>(World.putObj_heap_other oq).trans ((hba.block k (Zq.1 hko).1).trans hko)⟩
  refine wpIn_mono (hbody _ pre x a' _ oq ⟨_,hlb⟩ (hI.putObj _ hia oq hla rfl) ((hAx x a').putObj (s:=()) _ hax oq hla rfl) hlen) ?_
  rintro e a3 W3 hp
  cases e with
  | normal =>
   obtain⟨hk3,hkp3,hi3⟩:=hp
   have hl3:=hk3.same _ _ oq hlb rfl
   have hd3:=hk3.same _ _ (Zc _) hkb rfl
   refine⟨_,_,run_endRound (P:=P) none hl3,.inl ⟨rfl,⟨⟨hI.putObj _ hi3 oq hl3 rfl,World.putObj_heap_same (Zq.1 hl3).1⟩,(World.putObj_heap_other oq).trans hd3⟩,(hKb.trans hkp3).trans (KF.putObj _ _ _ _ oq hl3 rfl),?_⟩⟩
   exact⟨Zm (Zm hfb.size hk3.size) (by simp),fun k o hk1 hko hc=>(World.putObj_heap_other oq).trans (hk3.same _ _ oq (hfb.same k o hk1 hko hc) hc)⟩
  | ret =>
   obtain⟨hk3,_,hi3⟩:=hp
   have hl3:=hk3.same _ _ oq hlb rfl
   have hd3:=hk3.same _ _ (Zc _) hkb rfl
   refine⟨_,_,run_endRound (P:=P) (some .ret) hl3,.inr ⟨rfl,⟨⟨hIx.putObj _ hi3 oq hl3 rfl,World.putObj_heap_same (Zq.1 hl3).1⟩,(World.putObj_heap_other oq).trans hd3⟩,?_⟩⟩
   exact⟨Zm (Zm hfb.size hk3.size) (by simp),fun k o hk1 hko hc=>(World.putObj_heap_other oq).trans (hk3.same _ _ oq (hfb.same k o hk1 hko hc) hc)⟩
  | exit id=>obtain⟨_,h,_⟩:=hp;cases h
  | goto t=>obtain⟨_,h,_⟩:=hp;cases h
  | panic ch=>exact hp.elim
  | outgrown=>exact hp.elim
 rintro e W2 ⟨⟨v,rfl⟩,(⟨xs,hS,⟨hi,hl⟩,hk⟩|⟨pre,hSp,⟨hi,hl⟩,hk⟩)⟩
 ·exact⟨none,_,run_endLoop (P:=P) hl (by simp[R]),hdone _ xs _ (Zc _) hS (hI.putObj _ hi oq hl rfl) ((World.putObj_heap_other oq).trans hk)⟩
 exact⟨some .ret,_,run_endLoop (P:=P) hl (by simp[R]),hstop _ pre _ (Zc _) hSp (hIx.putObj _ hi oq hl rfl) ((World.putObj_heap_other oq).trans hk)⟩
attribute [local go_sem] ZT
def MkB (W:World) (m:Nat) (p:PG) (an ai af ao:Option Addr) (cn ci cf co:Nat) (mc mi mf mn mx:Nat):Prop :=
 W.heap[m]?=some (.cells #[.slice an p.nodes.length cn,.slice ai p.ins.length ci,.slice af p.flows.length cf,.slice ao p.outs.length co,.map (some mc),.map (some mi),.map (some mf),.map (some mn),.map (some mx)] 189 (0,0))
theorem YL {w:World} {b:Nat} {v0 v1 v2 v3 v4 v5 v6 v7 v8:Value} {t:TypeId} (h:w.heap[b]?=some (.cells #[v0,v1,v2,v3,v4,v5,v6,v7,v8] t (0,0))) :
  (w.cell? ⟨b,0,none⟩=some v0∧w.cell? ⟨b,1,none⟩=some v1∧w.cell? ⟨b,2,none⟩=some v2∧w.cell? ⟨b,3,none⟩=some v3∧w.cell? ⟨b,4,none⟩=some v4∧w.cell? ⟨b,5,none⟩=some v5∧w.cell? ⟨b,6,none⟩=some v6∧w.cell? ⟨b,7,none⟩=some v7∧w.cell? ⟨b,8,none⟩=some v8)∧∀o,w.frozen? ⟨b,o,none⟩=false:=by
 refine⟨⟨?_,?_,?_,?_,?_,?_,?_,?_,?_⟩,?_⟩
 all_goals first|(intro o;simp[World.frozen?,h])|simp[World.cell?,h]
theorem VQ {w:World} (m i:Nat):Calls Tryz.prog 98 #[.pointer (some ⟨m,0,none⟩),.int .i64 (i:Int)] w fun x w' =>
  x=.returned (.func (.func 130) #[] #[.pointer (some ⟨w.heap.size,0,none⟩),.pointer (some ⟨w.heap.size+1,0,none⟩)]) ∧
   w'=(w.alloc (.cells #[.pointer (some ⟨m,0,none⟩)] 123)).alloc (.cells #[.int .i64 (i:Int)] 3):=by
 go_enter Tryz.func98,Tryz.ntmps98
 go_wp2
 go_ret
 exact⟨rfl,rfl⟩
def isC (s:PE × ByteArray):Bool:=decide (s.1.k=2)
theorem qw {β:Type} {n₀ Bk:Nat} {W:World} (hn:n₀≤W.heap.size):OwnFrom W.heap.size (fun(_:β) X=>KF n₀ Bk W X):=by
 intro s X Y row hs hg hr
 refine⟨ownFrom_below (β:=Unit) hn hn () X Y row hs.below hg hr,fun k o hb hk hc=>?_⟩
 have h1:=hs.same k o hb hk hc
 refine(hg.block k (Zq.1 h1).1 (fun e=>?_)).trans h1
 obtain⟨_,o',ho',hc'⟩:=hr k e.symm
 rw[h1] at ho'
 cases ho'
 rw[K7 hc] at hc'
 cases hc'
theorem jH {β:Type} {B B':Nat} {I:β→World→Prop} (h:OwnFrom B I) (hb:B≤B'):OwnFrom B' I:=fun s X Y row hs hg hr=>h s X Y row hs hg (fun r e=>⟨Zm hb (hr r e).1,(hr r e).2⟩)
theorem xq {W0:World} (p:PG) (an ai af ao:Option Addr) (cn ci cf co:Nat) (hp:AP W0 p an ai af ao cn ci cf co) (hok:Jy p) (mc mi mf mn mx:Nat) (m B1 B2 i n l Bk:Nat) (hi:i<p.flows.length) (J Jx:List (VS W0)→World→Prop) (W:World)
  (hB:Below W0.heap.size W0 W) (hBk:Bk≤W.heap.size) (hm:MkB W m p an ai af ao cn ci cf co mc mi mf mn mx) (hb1:Boxed W B1 123 (.pointer (some ⟨m,0,none⟩))) (hb2:Boxed W B2 3 (.int .i64 (i:Int))) (hJ:OwnFrom W.heap.size J) (hJx:OwnFrom W.heap.size Jx)
  (hY:∀pre x W1,J pre W1→pre.length<p.flows[i].e.args.sz+1→YieldAt Fence.wide (n-1) Tryz.prog l (VS.vs x) W1 fun e W'=>(e=.returned (.bool true)∧J (pre++[x]) W'∧KF W0.heap.size Bk W1 W'∧KeepsFrom W.heap.size W1 W')∨(e=.returned (.bool false)∧Jx (pre++[x]) W'∧KeepsFrom W.heap.size W1 W'))
  (h0:J [] W) :
  CallsIn Fence.wide n Tryz.prog 130 #[.func (.yield l) #[] #[],.pointer (some ⟨B1,0,none⟩),.pointer (some ⟨B2,0,none⟩)] W fun e W'=>(∃v,e=.returned v) ∧
   ((∃xs:List (VS W0),xs.map (·.s)=(Xi p.flows[i].e (dg i)).filter isC∧J xs W')∨(∃pre:List (VS W0),pre.map (·.s) <+: (Xi p.flows[i].e (dg i)).filter isC∧Jx pre W')):=by
 have HFS:=hid (fun(w':World) (hb:Below W0.heap.size W0 w')=>X5 hb p an ai af ao cn ci cf co hp i hi (by have:=hok.lens;omega))
 obtain⟨hf1,hf2⟩:=hok.flows _ (Zi hi)
 obtain⟨⟨k1,nm1,n1,d1,args1,a1⟩,he⟩:∃e,p.flows[i].e=e:=⟨_,rfl⟩
 rw[he] at HFS hY hf1 hf2 ⊢
 unfold PE.sz at hf1
 have HG2:=hid hf2
 have hdg:=JP (i:=i) (by have:=hok.lens;omega)
 have HY:=hid hY
 have HMB:=hid hm
 have HB:=hid hB
 have HB1:=hid hb1
 have HB2:=hid hb2
 have HJ:=hid hJ
 have HJX:=hid hJx
 have H0:=hid h0
 obtain⟨⟨x0,x1,x2,x3,x4,x5,x6,x7,x8⟩,xf⟩:=YL (show W.heap[m]?=_ from hm)
 have c1:=hb1.cell
 have c2:=hb2.cell
 have hsz:=hB.size
 have hlm:=Zb hm
 have hl1:=hb1.lt
 have hl2:=hb2.lt
 unfold pv spv at HFS
 simp only at HFS hf1
 clear hf2 hY hm hB hb1 hb2 hJ hJx h0 he
 refine(Zt (n:=n)).2 ((Zt (n:=6)).1 ?_)
 refine callsIn_of_wp_marks Tryz.func130 rfl trivial ?_ rfl
 simp only[Tryz.ntmps130,ZI,Zp,Zw,Nat.reduceAdd,Nat.reduceSub,ZF,ZE,ZL,ZJ,ZM,ZC]
 gi_wp2
 obtain⟨W3,hW3⟩:∃W3,W.alloc (.cells #[.func (.yield l) #[] #[]] 192)=W3:=⟨_,rfl⟩
 have hb3:Below W.heap.size W W3:=by rw[←hW3];exact(Zg _ _).alloc (Zc _) _
 have bY3:Boxed W3 W.heap.size 192 (.func (.yield l) #[] #[]):=by rw[←hW3];exact Boxed.new _ _ _
 have hs3:W3.heap.size=W.heap.size+1:=by rw[←hW3];simp
 rw[hW3]
 clear hW3 x0 x1 x2 x3 x4 x5 x6 x7 x8 xf c1 c2
 obtain⟨⟨x0,x1,x2,x3,x4,x5,x6,x7,x8⟩,xf⟩:=YL ((hb3.block _ hlm).trans HMB.out)
 have c1:=(show Boxed W3 B1 _ _ from(hb3.block _ hl1).trans HB1.out).cell
 have c2:=(show Boxed W3 B2 _ _ from(hb3.block _ hl2).trans HB2.out).cell
 have HB3:=hid hb3
 have HBY:=hid bY3
 clear hb3 bY3
 refine wpIn_wide.2 ?_
 go_still_tail 5,kq
 change wpList _ _ _ _ _ W3.drew
 have hbd:Below W3.heap.size W3 W3.drew:=⟨rfl,rfl,rfl,Zc _,fun k _=>rfl⟩
 go_wp2_with (first|(go_at_call 95;refine(HFS.out W3.drew (HB.out.trans ((HB3.out.trans (hbd.mono oq)).mono hsz))).mono ?_;rintro x w4 ⟨⟨ad2,cap2,rfl,hae⟩,hb4⟩)|(go_at_call 94;refine(U9 (w:=w4) ⟨k1,nm1,n1,d1,args1,a1⟩ ad2 cap2 (dg i)).mono ?_;rintro x w5 ⟨rfl,rfl⟩))
 have HSP:=hid (show Qe W0 ⟨k1,nm1,n1,d1,args1,a1⟩ ad2 cap2 (dg i) from ⟨hae,HG2.out,by show(dg i).size+3*args1.sz≤500;omega,by show args1.sz<100;omega⟩)
 have bX:=Yp w4 (.cells #[.int .i64 k1,.string nm1,.int .i64 n1,.int .i64 d1,.slice ad2 args1.len cap2,.int .i64 a1,.string (dg i)] 184)
 have hs4:W3.heap.size≤w4.heap.size:=hb4.size
 have hb5:Below W3.heap.size W3 (w4.alloc (.cells #[.int .i64 k1,.string nm1,.int .i64 n1,.int .i64 d1,.slice ad2 args1.len cap2,.int .i64 a1,.string (dg i)] 184)):=(hbd.trans (show Below W3.heap.size W3.drew w4 from hb4)).alloc hs4 _
 have hsz1:(w4.alloc (.cells #[.int .i64 k1,.string nm1,.int .i64 n1,.int .i64 d1,.slice ad2 args1.len cap2,.int .i64 a1,.string (dg i)] 184)).heap.size=w4.heap.size+1:=by simp
 obtain⟨W5,hW5⟩:∃W5,w4.alloc (.cells #[.int .i64 k1,.string nm1,.int .i64 n1,.int .i64 d1,.slice ad2 args1.len cap2,.int .i64 a1,.string (dg i)] 184)=W5:=⟨_,rfl⟩
 rw[hW5] at bX hb5 hsz1 ⊢
 have hbW5:Below W.heap.size W W5:=HB3.out.trans (hb5.mono oq)
 have HWL:=hid (show Below W0.heap.size W0 W5 from HB.out.trans (hbW5.mono hsz))
 have HBX:=hid bX
 have HBY5:=hid (show Boxed W5 W.heap.size 192 (.func (.yield l) #[] #[]) from(hb5.block _ oq).trans HBY.out)
 have H05:=hid (show J [] W5 from HJ.out [] W W5 none H0.out ⟨hbW5.os,hbW5.tape,hbW5.output,hbW5.size,fun k hk _=>hbW5.block k hk⟩ (fun r e=>by cases e))
 have hn5:W0.heap.size≤W5.heap.size:=oq
 have hn6:W.heap.size≤W5.heap.size:=oq
 clear hW5 hae hb4 bX hb5 hbd x0 x1 x2 x3 x4 x5 x6 x7 x8 xf c1 c2 HFS hbW5
 gi_wp2
 refine wpIn_rangeFunc_ownH (encs:=fun x:VS W0=>#[.agg #[.int .i64 x.s.1.k,.string x.s.1.nm,.int .i64 x.s.1.n,.int .i64 x.s.1.d,.slice x.ad x.s.1.args.len x.cap,.int .i64 x.s.1.a,.string x.s.2]]) rfl oq (gf:=127) (lb:=#[.pointer (some ⟨w4.heap.size,0,none⟩)]) rfl trivial (enters_of Tryz.func127 kq rfl)
  (Vr (W0:=W0) Fence.wide rfl trivial trivial trivial rfl (GN W0) _ w4.heap.size ⟨k1,nm1,n1,d1,args1,a1⟩ ad2 cap2 (dg i) HSP.out W5 Bk oq HWL.out HBX.out) (fun h k=>h.trans k) (fun W l o o' hl h hc _=>KF.putObj W l o o' oq h hc) (Zg _ _) (fun _=>rfl)
  (fun pre X=>KF W0.heap.size Bk W5 X∧∃ys:List (VS W0),J ys X∧(ys.map (·.s)=(pre.map (·.s)).filter isC∧ys.length≤pre.length))
  (fun c pre X=>c=.ret∧∃ys:List (VS W0),Jx ys X∧ys.map (·.s)=(pre.map (·.s)).filter isC)
  (OwnFrom.and (qw hn5) (fun s X Y row hs hg hr=>by obtain⟨ys,h1,h2⟩:=hs;exact⟨ys,(jH HJ.out hn6) ys X Y row h1 hg hr,h2⟩))
  (fun c s X Y row hs hg hr=>by obtain⟨h0,ys,h1,h2⟩:=hs;exact⟨h0,ys,(jH HJX.out hn6) ys X Y row h1 hg hr,h2⟩)
  ⟨KF.refl _ _ _,[],H05.out,rfl,Zc _⟩
  (fun x a' X=>∃Bx,W5.heap.size≤Bx∧X.heap[Bx]?=some (.cells #[.int .i64 x.s.1.k,.string x.s.1.nm,.int .i64 x.s.1.n,.int .i64 x.s.1.d,.slice x.ad x.s.1.args.len x.cap,.int .i64 x.s.1.a,.string x.s.2] 184 (0,0)) ∧
   a'={ tmps:=#[.func (.yield l) #[] #[],.pointer (some ⟨B1,0,none⟩),.pointer (some ⟨B2,0,none⟩),.pointer (some ⟨W.heap.size,0,none⟩),.pointer (some ⟨Bx,0,none⟩),.pointer (some ⟨m,0,none⟩),.pointer (some ⟨m,0,none⟩),.pointer (some ⟨m,0,none⟩),.agg #[.slice an p.nodes.length cn,.slice ai p.ins.length ci,.slice af p.flows.length cf,.slice ao p.outs.length co],.int .i64 (i:Int),.agg #[.int .i64 k1,.string nm1,.int .i64 n1,.int .i64 d1,.slice ad2 args1.len cap2,.int .i64 a1,.string (dg i)],.func (.func 127) #[] #[.pointer (some ⟨w4.heap.size,0,none⟩)],.agg #[.int .i64 x.s.1.k,.string x.s.1.nm,.int .i64 x.s.1.n,.int .i64 x.s.1.d,.slice x.ad x.s.1.args.len x.cap,.int .i64 x.s.1.a,.string x.s.2],undef,undef,undef,undef,undef,undef,undef,undef,undef,undef],defers:=[] })
  (fun x a' _ X Y row hs hg hrw=>by
   obtain⟨Bx,h1,h2,h3⟩:=hs
   refine⟨Bx,h1,(hg.block Bx (Zq.1 h2).1 (fun e=>?_)).trans h2,h3⟩
   obtain⟨_,o,ho,hc⟩:=hrw Bx e.symm
   rw[h2] at ho;cases ho;cases hc)
  ?assign ?body ?done ?stop
 case assign =>
  rintro l2 pre x X K ⟨hKX,ys,hys,hy2⟩ hK
  gi_wp2
  have hsX:=hKX.below.size
  exact hK _ _ ((KeepsOthers.alloc _ _).from _) ((KF.refl _ _ X).alloc oq _) ⟨hKX.alloc oq _,ys,HJ.out ys X _ none hys (World.grownBy_alloc X _ none) (fun r e=>by cases e),hy2⟩ ⟨X.heap.size,hsX,Yp X _,rfl⟩
 case body =>
  rintro l2 pre ⟨⟨⟨k2,nm2,n2,d2,args2,a2⟩,way2⟩,ad3,cap3,hok⟩ a' X hl2' ⟨r,hr⟩ ⟨hKX,ys,hys,hy2,hy3⟩ ⟨Bx,hBx,hxb,rfl⟩ hlt2
  simp only at hxb
  obtain⟨⟨x0,x1,x2,x3,x4,x5,x6⟩,xf⟩:=YO hxb
  have hsX:W5.heap.size≤X.heap.size:=hKX.below.size
  have cY:=(show Boxed X W.heap.size _ _ from hKX.same _ _ hBk HBY5.out rfl).cell
  obtain⟨V,hV1,hV2⟩:∃V:VS W0,V=⟨(⟨k2,nm2,n2,d2,args2,a2⟩,way2),ad3,cap3,hok⟩∧V.vs=#[.agg #[.int .i64 k2,.string nm2,.int .i64 n2,.int .i64 d2,.slice ad3 args2.len cap3,.int .i64 a2,.string way2]]:=⟨_,rfl,rfl⟩
  rw[←hV1]
  by_cases hk2:k2=2
  ·subst hk2
   have hsel:isC V.s=true:=by rw[hV1];rfl
   have hlt3:pre.length<args1.sz+1:=hlt2
   obtain⟨fn,tmps,assign,body,hy,hR⟩:=YieldAt.deep (F:=Fence.wide) rfl 3 (HY.out ys V X hys (by show ys.length<args1.sz+1;omega))
   rw[hV2] at hy
   have HR:=hid hR
   have HKX:=hid hKX
   clear hR hr hxb hKX hlt2
   gi_wp2
   refine RoundIn.mono (show RoundIn (Fence.wide.inRound l2) 3 _ _ _ _ _ _ _ _ from HR.out) ?_
   rintro e w7 (⟨rfl,hJ7,hk7,hf7⟩|⟨rfl,hJ7,hf7⟩)
   ·gi_wp2
    exact⟨⟨hf7.size,fun k o hk ho hc=>hf7.same k o oq ho hc⟩,hk7,HKX.out.trans hk7,ys++[V],hJ7,by rw[ZU,ZU,List.filter_append,hy2];simp[hsel],by simp;omega⟩
   gi_wp2
   exact⟨⟨hf7.size,fun k o hk ho hc=>hf7.same k o oq ho hc⟩,rfl,ys++[V],hJ7,by rw[ZU,ZU,List.filter_append,hy2];simp[hsel]⟩
  have hk2':(k2 == 2)=false:=ZY.2 hk2
  have hsel:isC V.s=false:=by rw[hV1];exact ZZ hk2
  gi_wp2
  repeat (refine⟨(fun(f:FuncId) (h:none=some f)=>by cases h),?_⟩;gi_wp2)
  exact⟨KeepsFrom.refl _ _,KF.refl _ _ _,hKX,ys,hys,by rw[ZU,List.filter_append,hy2];simp[hsel],by simp;omega⟩
 case done =>
  rintro D zs X hD hzs ⟨hKX,ys,hys,hy2,hy3⟩ hK
  gi_wp2
  refine⟨by simp,.inl ⟨_,_,rfl,run_takeDeferred hK,?_⟩⟩
  refine⟨_,results_none rfl _ _ _,⟨_,rfl⟩,.inl ⟨ys,by rw[hy2,hzs],HJ.out.putObj _ hys oq hK rfl⟩⟩
 rintro D c pre X hD hpre ⟨rfl,ys,hys,hy2⟩ hK
 gi_wp2
 refine⟨by simp,.inl ⟨_,_,rfl,run_takeDeferred hK,?_⟩⟩
 refine⟨_,results_none rfl _ _ _,⟨_,rfl⟩,.inr ⟨ys,?_,HJX.out.putObj _ hys oq hK rfl⟩⟩
 rw[hy2]
 exact hpre.filter _
end Go.Proofs.YtgigilkpndhddaaGreatDoor.syn
