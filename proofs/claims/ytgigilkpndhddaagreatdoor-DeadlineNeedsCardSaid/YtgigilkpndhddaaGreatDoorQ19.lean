/-
  Parts of the proof: Nam1, Nam2.
-/
import Derived.Test.YtgigilkpndhddaaGreatDoorQ15
import Derived.Test.YtgigilkpndhddaaGreatDoorQ17
import Derived.Test.YtgigilkpndhddaaGreatDoorQ18
namespace Go.Proofs.YtgigilkpndhddaaGreatDoor.syn
set_option linter.unusedVariables false
set_option linter.unusedSimpArgs false
set_option linter.unnecessarySimpa false
set_option maxRecDepth 100000
set_option maxHeartbeats 16000000
open Go.RowKit
def X4 (x:Ending):Prop:=∃a e:Int,x=.returned (.tuple #[.int .i64 a,.int .i64 e])
def CI (w:World) (mb:Nat):Prop:=∃L,YG w mb L∧∀nm,∃i:Int,(Y0 nm L).getD (.int .i64 0)=.int .i64 i
theorem CI.below {w w':World} {mb:Nat} (h:CI w mb) (hb:Below w.heap.size w w'):CI w' mb:=by obtain⟨L,h1,h2⟩:=h;exact⟨L,h1.below hb,h2⟩
theorem CI.upon {w w':World} {mb r:Nat} (h:CI w mb) (hb:Upon r w w') (hne:mb≠r):CI w' mb:=by obtain⟨L,h1,h2⟩:=h;exact⟨L,h1.upon hb hne,h2⟩
theorem CI.lt {w:World} {mb:Nat} (h:CI w mb):mb<w.heap.size:=by obtain⟨L,h1,h2⟩:=h;exact h1.lt
theorem CI.new (w:World):CI (w.alloc (.map #[] 0)) w.heap.size:=⟨[],YG.new w,fun _=>⟨0,rfl⟩⟩
theorem Kz {L:List (ByteArray × Value)} (h:∀nm,∃i:Int,(Y0 nm L).getD (.int .i64 0)=.int .i64 i) (k:ByteArray) (j:Int):∀nm,∃i:Int,(Y0 nm (Jc k (.int .i64 j) L)).getD (.int .i64 0)=.int .i64 i:=by
 intro nm
 rw[V4]
 by_cases hk:nm=k
 ·exact⟨j,by rw[Z2 hk];rfl⟩
 rw[Z1 hk];exact h nm
theorem Uu {w:World} (mb:Nat) (nm:ByteArray) (h:CI w mb) :
  Calls Tryz.prog 173 #[.map (some mb),.string nm] w fun x w'=>(∃b:Bool,x=.returned (.bool b))∧CI w' mb∧Upon mb w w'∧w'.heap.size=w.heap.size:=by
 obtain⟨L,hM,hL⟩:=h
 obtain⟨i,hi⟩:=hL nm
 have HM:=hid hM
 have HI:=hid hi
 have HL:=hid (fun j=>Kz hL nm j)
 have HQ:=hid (fun j:Int=>(show(Y0 nm (Jc nm (.int .i64 j) L)).getD (.int .i64 0)=.int .i64 j by rw[V4,Z2 rfl];rfl))
 clear hM hL hi
 go_enter Tryz.func173,Tryz.ntmps173
 go_wp2_with (first|(at_lookup;first|refine QX XU _ rfl _ _ rfl mb _ nm _ rfl rfl hm2 (HQ.out _) ?_|refine QX XU _ rfl _ _ rfl mb L nm _ rfl rfl HM.out HI.out ?_)|(at_mapUpdate;refine Xe XU _ rfl _ _ _ rfl mb L nm _ rfl rfl rfl HM.out ?_;intro arr clock hm2))
 go_ret
 exact⟨⟨_,rfl⟩,⟨_,hm2,HL.out _⟩,YF (Upon.refl _ _) _,by simp[World.putM]⟩
theorem gU {w:World} (mb:Nat) (nm:ByteArray) (h:CI w mb) :
  Calls Tryz.prog 175 #[.map (some mb),.string nm] w fun x w'=>(∃b:Bool,x=.returned (.bool b))∧w'=w:=by
 obtain⟨L,hM,hL⟩:=h
 obtain⟨i,hi⟩:=hL nm
 have HM:=hid hM
 have HL:=hid hi
 clear hM hL hi
 go_enter Tryz.func175,Tryz.ntmps175
 go_wp2_with (at_lookup;refine QX XU _ rfl _ _ rfl mb L nm _ rfl rfl HM.out HL.out ?_)
 go_ret
 exact⟨⟨_,rfl⟩,rfl⟩
def Zc4 (w:World) (mb len:Nat) (v:Value) (wr:World):Prop:=∃i:Nat,v=.int .i64 (i:Int)∧i≤len∧CI wr mb∧Below w.heap.size w wr
def Zdm (W:World) (mb len:Nat) (v:Value) (wr:World):Prop:=∃i:Nat,v=.int .i64 (i:Int)∧i≤len∧CI wr mb∧Upon mb W wr
def Zdn (W:World) (mb len:Nat) (v:Value) (wr:World):Prop:=∃i:Nat,v=.int .i64 (i:Int)∧i≤len∧CI wr mb∧Below W.heap.size W wr
theorem GB {w:World} {b:Nat} {v0 v1 v2 v3 v4 v5 v6 v7 v8 v9:Value} {t:TypeId} (h:w.heap[b]?=some (.cells #[v0,v1,v2,v3,v4,v5,v6,v7,v8,v9] t (0,0))) :
  (w.cell? ⟨b,0,none⟩=some v0∧w.cell? ⟨b,1,none⟩=some v1∧w.cell? ⟨b,2,none⟩=some v2∧w.cell? ⟨b,3,none⟩=some v3∧w.cell? ⟨b,4,none⟩=some v4∧w.cell? ⟨b,5,none⟩=some v5∧w.cell? ⟨b,6,none⟩=some v6∧w.cell? ⟨b,7,none⟩=some v7∧w.cell? ⟨b,8,none⟩=some v8∧w.cell? ⟨b,9,none⟩=some v9):=by
 refine⟨?_,?_,?_,?_,?_,?_,?_,?_,?_,?_⟩
 all_goals simp[World.cell?,h]
theorem kS {w w':World} {e:PE} {ad:Option Addr} {cap:Nat} (h:AE w e ad cap) (hn:∀b o,ad=some ⟨b,o,none⟩→NF w e.args b o) (hb:Below w.heap.size w w'):∀b o,ad=some ⟨b,o,none⟩→NF w' e.args b o:=by
 intro b o ha
 rcases h.args with h0|⟨b',o',e',hlt',hac⟩
 ·rw[h0];trivial
 rw[ha] at e'
 injection e' with e';injection e' with e1 e2
 subst e1;subst e2
 exact(hn b o ha).below hb _ _ _ hlt' hac
theorem ZcJ {w:World} {base nn c:Nat} {ln:Option Addr} {xs:List Value} (h:w.ownsRow base 88 6 (.slice ln nn c) nn xs) (hn:NmR xs nn) {q:Nat} (hq:q<nn):∃g,ln=some ⟨g,0,none⟩∧g<w.heap.size∧∃(k:Int) (nm:ByteArray) (n d a:Int),
  w.cell? ⟨g,q*6,none⟩=some (.int .i64 k)∧w.cell? ⟨g,q*6+1,none⟩=some (.string nm)∧w.cell? ⟨g,q*6+2,none⟩=some (.int .i64 n)∧w.cell? ⟨g,q*6+3,none⟩=some (.int .i64 d)∧w.cell? ⟨g,q*6+4,none⟩=some (.slice none 0 0)∧w.cell? ⟨g,q*6+5,none⟩=some (.int .i64 a):=by
 obtain⟨g,cap,e,_,hgl⟩:=h.form oq
 injection e with e1 _ e3
 subst e1;subst e3
 obtain⟨k,nm,n,d,a,x0,x1,x2,x3,x4,x5⟩:=hn.2 q hq
 exact⟨g,rfl,hgl,k,nm,n,d,a,(h.cellAt _ oq).trans x0,(h.cellAt _ oq).trans x1,(h.cellAt _ oq).trans x2,(h.cellAt _ oq).trans x3,(h.cellAt _ oq).trans x4,(h.cellAt _ oq).trans x5⟩
theorem zG {w:World} (nodes:List ND) (ins:List IN) (flows:List FL) (outs:List OU) (an ai af ao:Option Addr) (cn ci cf co:Nat) (hp:AP w ⟨nodes,ins,flows,outs⟩ an ai af ao cn ci cf co) (hz:NZ w nodes an) (hb:∀x∈nodes,Uc x.body∧x.body.sz≤100) :
  Calls Tryz.prog 157 #[pv ⟨nodes,ins,flows,outs⟩ an ai af ao cn ci cf co] w fun x w'=>X4 x∧Below w.heap.size w w':=by
 have HN:=hid hp.nodes
 have HZ:=hid hz
 have HBD:=hid hb
 have hnl:nodes.length≤9223372036854775807:=by have:=hp.caps.1;simp only at this;omega
 clear hp hz hb
 unfold pv X4
 simp only
 have hmk:=fun w=>run_makeMap (P:=Tryz.prog) 266 w
 go_enter Tryz.func157,Tryz.ntmps157
 go_wp2
 go_loopw [16] (fun v wr=>Hid (Zc4 w (w.heap.size+1) nodes.length v wr)) (fun i _=>nodes.length-(intOf i).toNat)
 case atStart=>exact⟨0,rfl,Zk _,by simpa using CI.new (w.alloc _),bq⟩
 obtain⟨wo,rfl⟩:∃wo:World,wo=wr:=⟨_,rfl⟩
 obtain⟨i,rfl,hi,hci,hbel⟩:=hrel.out
 clear hrel
 have HCI:=hid hci
 have HBEL:=hid hbel
 have hszr:=hbel.size
 have hmlt:=hci.lt
 clear hci
 by_cases hlt:i<nodes.length
 ·obtain⟨bb,oo,rfl,hbb0,hnd0⟩:=HN.out.at hlt
  have hz2:=HZ.out bb oo rfl i hlt
  have hbd:=HBD.out _ (Zi hlt)
  have hbb:=Zd hbb0 hszr
  obtain⟨x,hx⟩:∃x,nodes[i]=x:=⟨_,rfl⟩
  rw[hx] at hnd0 hz2 hbd
  obtain⟨nm,ps,bud,⟨k1,nm1,n1,d1,args1,a1⟩,fa⟩:=x
  obtain⟨pa,pc,ad,cap,u0,u1,u2,u3,u4,u5,u6,u7,u8,u9,hae,⟨hp1,hp2,hps⟩,hfn⟩:=hnd0.cells
  simp only at hz2 hbd
  have HAE:=hid hae
  have HNF:=hid (fun b o (e:ad=some ⟨b,o,none⟩)=>hz2 b o cap (by rw[←e];exact u7))
  have HB2:=hid hbd
  have HPS:=hid hps
  have hcr:=fun o=>hbel.cell (p:=⟨bb,o,none⟩) hbb0
  have y0:=(hcr _).trans u0
  have y1:=(hcr _).trans u1
  have y2:=(hcr _).trans u2
  have y3:=(hcr _).trans u3
  have y4:=(hcr _).trans u4
  have y5:=(hcr _).trans u5
  have y6:=(hcr _).trans u6
  have y7:=(hcr _).trans u7
  have y8:=(hcr _).trans u8
  have y9:=(hcr _).trans u9
  have hpl:ps.length≤9223372036854775807:=oq
  have hie:(i:Int)<(nodes.length:Int):=oq
  have HAG:=hid (fun(w':World) (hb:Below wo.heap.size wo w')=>Uu (w:=w') (w.heap.size+1) nm (HCI.out.below hb))
  clear hbel hnd0 hz2 hbd hx hfn hbb0 hae hps hcr u0 u1 u2 u3 u4 u5 u6 u7 u8 u9
  go_wp2_with (go_at_call 173;refine(HAG.out _ bq).mono ?_;rintro x w2 ⟨⟨b,rfl⟩,hc2,hu2,hs2⟩;have HC2:=hid hc2;have HU2:=hid ((by repeat (first|(with_reducible exact Upon.refl _ _)|((with_reducible refine Upon.setAt ?_ ?_ _);(rotate_left;focus (first|exact Or.inl rfl|omega|(simp;done)|(simp;omega))))|(with_reducible refine Upon.alloc ?_ _)|(with_reducible refine Upon.drewN ?_ _)|(with_reducible refine Upon.drew ?_)|(with_reducible refine Upon.trans ?_ hu2))):Upon (w.heap.size+1) wo w2);have hz2:w2.heap.size=wo.heap.size+1:=(by rw[hs2];simp);have nb2:=(hu2.block wo.heap.size (by simp) oq).trans (Yp wo _);have NB2:=hid nb2;obtain⟨z0,z1,z2,z3,z4,z5,z6,z7,z8,z9⟩:=GB nb2;clear hc2 hu2 nb2 hs2;cases b)
  ·obtain⟨W3,hW3⟩:∃W3,w2.alloc (.map #[] 0)=W3:=⟨_,rfl⟩
   go_wp2
   try rw[hW3]
   have hci3:CI W3 (wo.heap.size+1):=by rw[←hW3,←hz2];exact CI.new w2
   have hb3:Below w2.heap.size w2 W3:=by rw[←hW3];exact(Zg _ _).alloc (Zc _) _
   have HC3:=hid (HC2.out.below hb3)
   have nb3:=(hb3.block wo.heap.size oq).trans NB2.out
   have NB3:=hid nb3
   have hlow3:Below w.heap.size w W3:=(HBEL.out.trans (HU2.out.below hszr oq)).trans (hb3.mono oq)
   have HL3:=hid hlow3
   have hs3:W3.heap.size=wo.heap.size+1+1:=by rw[←hW3];simp[hz2]
   have HCI3:=hid hci3
   clear z0 z2 z3 z4 z5 z6 z7 z8 z9 z1 y0 y1 y2 y3 y4 y5 y6 y7 y8 y9 hb3 nb3 hlow3 NB2 hz2 hW3 hci3 HU2 HC2 HCI HAG
   go_loopw [30] (fun v wr2=>Hid (Zdm W3 (wo.heap.size+1) ps.length v wr2)) (fun i _=>ps.length-(intOf i).toNat)
   case atStart=>exact⟨0,rfl,Zk _,HCI3.out,Upon.refl _ _⟩
   obtain⟨j,rfl,hj,hci,hup⟩:=hrel.out
   clear hrel
   have HCI:=hid hci
   have HUP:=hid hup
   have nb4:=(hup.block wo.heap.size oq oq).trans NB3.out
   obtain⟨z0,z1,z2,z3,z4,z5,z6,z7,z8,z9⟩:=GB nb4
   have NB4:=hid nb4
   have hlow4:=HL3.out.trans (hup.below oq oq)
   have HL4:=hid hlow4
   have hsz4:=hup.size
   have hmp4:=hci.lt
   clear nb4 hci hup
   by_cases hjl:j<ps.length
   ·obtain⟨b3,o3,rfl,hb30,hst⟩:=(HPS.out.below Qq hlow4).at hjl
    have v0:=hst.1
    rw[Z8] at v0
    have hje:(j:Int)<(ps.length:Int):=oq
    have HAG:=hid (Uu (wo.heap.size+1) ps[j] HCI.out)
    obtain⟨pn,hpn⟩:∃pn,ps[j]=pn:=⟨_,rfl⟩
    rw[hpn] at v0 HAG
    clear hst hlow4 hpn
    go_wp2_with (go_at_call 173;refine HAG.out.mono ?_;rintro x w5 ⟨⟨b,rfl⟩,hc5,hu5,hs5⟩;have HC5:=hid hc5;have HU5:=hid hu5;have nb5:=(hu5.block wo.heap.size oq oq).trans NB4.out;obtain⟨t0,t1,t2,t3,t4,t5,t6,t7,t8,t9⟩:=GB nb5;clear hc5 hu5 nb5;cases b)
    ·refine⟨⟨j+1,by go_num,oq,HC5.out,HUP.out.trans HU5.out⟩,by simp[intOf];omega⟩
    go_ret2
    exact⟨⟨_,_,rfl⟩,HL4.out.trans (HU5.out.below oq oq)⟩
   have hje:decide ((j:Int)<(ps.length:Int))=false:=ZZ oq
   have HBN:=hid (G9 (HAE.out.below (hlow4.mono oq)) (fun b o e=>kS HAE.out HNF.out (hlow4.mono oq) b o e) HB2.out.1 HB2.out.2)
   unfold ev at HBN
   simp only at HBN
   clear hlow4
   go_wp2_with (go_at_call 174;refine HBN.out.mono ?_;rintro x w5 ⟨⟨ln,nn,cn5,xs,rfl,hon,hnm,hnn⟩,hb5⟩;have HON:=hid hon;have HNM:=hid hnm;have HB5:=hid hb5;have hs5:=hb5.size;clear hon hnm hb5)
   go_loopw [44] (fun v wr3=>Hid (Zdn w5 (wo.heap.size+1) nn v wr3)) (fun i _=>nn-(intOf i).toNat)
   case atStart=>exact⟨0,rfl,Zk _,HCI.out.below HB5.out,Zg _ _⟩
   obtain⟨w4,rfl⟩:∃w4:World,w4=wr:=⟨_,rfl⟩
   obtain⟨q,rfl,hq,hci6,hb6⟩:=hrel.out
   clear hrel
   have HCI6:=hid hci6
   have HB6:=hid hb6
   have hs6:=hb6.size
   clear hci6
   by_cases hql:q<nn
   ·obtain⟨g,e1,hgl,nk,nnm,n2,d2,a2,x0,x1,x2,x3,x4,x5⟩:=ZcJ HON.out HNM.out hql
    have hc6:=fun o=>hb6.cell (p:=⟨g,o,none⟩) hgl
    have v0:=(hc6 _).trans x0
    have v1:=(hc6 _).trans x1
    have v2:=(hc6 _).trans x2
    have v3:=(hc6 _).trans x3
    have v4:=(hc6 _).trans x4
    have v5:=(hc6 _).trans x5
    have hqe:(q:Int)<(nn:Int):=oq
    have hgl6:g<w4.heap.size:=oq
    subst e1
    have HHS:=hid (fun(w':World) (hb:Below w4.heap.size w4 w')=>gU (w:=w') (wo.heap.size+1) nnm (HCI6.out.below hb))
    clear hb6 hc6 x0 x1 x2 x3 x4 x5
    go_wp2_with (go_at_call 175;refine(HHS.out _ bq).mono ?_;rintro x w7 ⟨⟨b,rfl⟩,rfl⟩;cases b)
    ·go_ret2
     exact⟨⟨_,_,rfl⟩,HL4.out.trans ((HB5.out.trans ((bq:Below w5.heap.size w5 _).mono oq)).mono oq)⟩
    refine⟨⟨q+1,by go_num,oq,HCI6.out.below bq,bq⟩,by simp[intOf];omega⟩
   have hqe:decide ((q:Int)<(nn:Int))=false:=ZZ oq
   clear hb6
   go_wp2
   refine⟨⟨i+1,by go_num,oq,?_,HL4.out.trans ((HB5.out.trans (HB6.out.mono oq)).mono oq)⟩,by simp[intOf];omega⟩
   exact((HC3.out.upon HUP.out oq).below HB5.out).below (HB6.out.mono oq)
  go_ret2
  exact⟨⟨_,_,rfl⟩,HBEL.out.trans (HU2.out.below hszr oq)⟩
 have hie':decide ((i:Int)<(nodes.length:Int))=false:=ZZ oq
 clear hbel
 go_wp2
 go_ret2
 exact⟨⟨_,_,rfl⟩,HBEL.out⟩
theorem Zc1 {w:World} {b:Nat} {v0 v1 v2 v3 v4 v5 v6 v7:Value} {t:TypeId} (h:w.heap[b]?=some (.cells #[v0,v1,v2,v3,v4,v5,v6,v7] t (0,0))):w.cell? ⟨b,7,none⟩=some v7:=by simp[World.cell?,h]
def Ei (w:World) (mb:Nat) (len:Nat) (p:PG) (an ai af ao:Option Addr) (cn ci cf co:Nat) (v:Value) (wr:World):Prop :=
 ∃i:Nat,v=.int .i64 (i:Int)∧i≤len∧CI wr mb∧XS wr w.heap.size p an ai af ao cn ci cf co∧Below w.heap.size w wr∧w.heap.size<mb
theorem Ei.next {w wr:World} {mb i len:Nat} {p:PG} {an ai af ao:Option Addr} {cn ci cf co:Nat} (hi:i<len) (hpb:XS wr w.heap.size p an ai af ao cn ci cf co) (hb:Below w.heap.size w wr) (hm:w.heap.size<mb)
  {w2 w3:World} (h2:Below wr.heap.size wr w2) (h3:Upon mb w2 w3) (hc:CI w3 mb):Ei w mb len p an ai af ao cn ci cf co (.int .i64 ((i:Int)+1)) w3:=by
 have hlt:=Zb hpb
 refine⟨i+1,by simp,hi,hc,?_,?_,hm⟩
 ·exact(h3.block _ (Zd hlt h2.size) oq).trans ((h2.block _ hlt).trans hpb)
 exact(hb.trans (h2.mono hb.size)).trans (h3.below (Zm hb.size h2.size) (Nat.le_of_lt hm))
theorem K6 {w:World} (nodes:List ND) (ins:List IN) (flows:List FL) (outs:List OU) (an ai af ao:Option Addr) (cn ci cf co:Nat) (hp:AP w ⟨nodes,ins,flows,outs⟩ an ai af ao cn ci cf co) :
  Calls Tryz.prog 158 #[pv ⟨nodes,ins,flows,outs⟩ an ai af ao cn ci cf co] w fun x w'=>X4 x∧Below w.heap.size w w':=by
 have HI:=hid hp.ins
 have HF:=hid hp.flows
 have hcap:=hp.caps
 simp only at hcap
 have hil:ins.length≤9223372036854775807:=oq
 have hfl:flows.length≤9223372036854775807:=oq
 clear hp hcap
 unfold pv X4
 simp only
 have hmk:=fun w=>run_makeMap (P:=Tryz.prog) 266 w
 go_enter Tryz.func158,Tryz.ntmps158
 go_wp2
 go_loopw [13] (fun v wr=>Hid (Ei w (w.heap.size+1) ins.length ⟨nodes,ins,flows,outs⟩ an ai af ao cn ci cf co v wr)) (fun i _=>ins.length-(intOf i).toNat)
 case atStart=>exact⟨0,rfl,Zk _,by simpa using CI.new (w.alloc _),(Za _ _ _ (by simp)).trans (Yp w _),bq,oq⟩
 obtain⟨i,rfl,hi,hci,hpb,hbel,_⟩:=hrel.out
 clear hrel
 have HCI:=hid hci
 have HPB:=hid hpb
 have HBEL:=hid hbel
 have hszr:=hbel.size
 have hmlt:=hci.lt
 have hplt:=Zb hpb
 unfold XS at hpb
 simp only at hpb
 obtain⟨⟨x0,x1,x2,x3⟩,xf⟩:=Yq hpb
 clear hpb hci
 by_cases hlt:i<ins.length
 ·obtain⟨bb,oo,rfl,hbb0,hin0⟩:=HI.out.at hlt
  have hin:=KJ w wr bb _ _ hbel hbb0 hin0
  have hbb:=Zd hbb0 hszr
  have HAG:=hid (fun(nm:ByteArray) (w':World) (hb:Below wr.heap.size wr w')=>Uu (w:=w') (w.heap.size+1) nm (HCI.out.below hb))
  have HNX:=hid (fun(w2 w3:World)=>Ei.next (w:=w) (wr:=wr) (w2:=w2) (w3:=w3) hlt HPB.out HBEL.out (show w.heap.size<w.heap.size+1 by omega))
  obtain⟨x,hx⟩:∃x,ins[i]=x:=⟨_,rfl⟩
  rw[hx] at hin
  obtain⟨nm,per,ph,fa⟩:=x
  obtain⟨y0,y1,y2,y3,hfn⟩:=hin
  simp only at y0 y1 y2 y3
  have hie:(i:Int)<(ins.length:Int):=oq
  clear hbel hin0 hx hfn hbb0
  go_wp2_with (go_at_call 173;refine(HAG.out nm _ bq).mono ?_;rintro x w3 ⟨⟨b,rfl⟩,hc3,hu3,hs3⟩;have HC3:=hid hc3;have HU3:=hid hu3;have nb:=(hu3.block wr.heap.size (by simp) oq).trans (Yp wr _);obtain⟨⟨z0,z1,z2,z3⟩,zf⟩:=Yq nb;clear hc3 hu3 nb;cases b)
  ·refine⟨HNX.out _ w3 bq HU3.out HC3.out,by simp[intOf];omega⟩
  go_ret2
  exact⟨⟨_,_,rfl⟩,HBEL.out.trans (((by repeat (first|(with_reducible exact Upon.refl _ _)|((with_reducible refine Upon.setAt ?_ ?_ _);(rotate_left;focus (first|exact Or.inl rfl|omega|(simp;done)|(simp;omega))))|(with_reducible refine Upon.alloc ?_ _)|(with_reducible refine Upon.drewN ?_ _)|(with_reducible refine Upon.drew ?_)|(with_reducible refine Upon.trans ?_ HU3.out))):Upon (w.heap.size+1) wr _).below hszr oq)⟩
 have hie':decide ((i:Int)<(ins.length:Int))=false:=ZZ oq
 clear hbel
 go_wp2
 go_loopw [27] (fun v wr=>Hid (Ei w (w.heap.size+1) flows.length ⟨nodes,ins,flows,outs⟩ an ai af ao cn ci cf co v wr)) (fun i _=>flows.length-(intOf i).toNat)
 case atStart=>exact⟨0,rfl,Zk _,HCI.out,HPB.out,HBEL.out,oq⟩
 clear HPB HBEL hplt hszr hmlt x0 x1 x2 x3 xf HCI hie' hlt
 obtain⟨i,rfl,hi,hci,hpb,hbel,_⟩:=hrel.out
 clear hrel
 have HCI:=hid hci
 have HPB:=hid hpb
 have HBEL:=hid hbel
 have hszr:=hbel.size
 have hmlt:=hci.lt
 have hplt:=Zb hpb
 clear hpb hci
 by_cases hlt:i<flows.length
 ·obtain⟨bb,oo,rfl,hbb0,hin0⟩:=HF.out.at hlt
  have hin:=JU w wr bb _ _ hbel hbb0 hin0
  have hbb:=Zd hbb0 hszr
  have HAG:=hid (fun(nm:ByteArray) (w':World) (hb:Below wr.heap.size wr w')=>Uu (w:=w') (w.heap.size+1) nm (HCI.out.below hb))
  have HNX:=hid (fun(w2 w3:World)=>Ei.next (w:=w) (wr:=wr) (w2:=w2) (w3:=w3) hlt HPB.out HBEL.out (show w.heap.size<w.heap.size+1 by omega))
  obtain⟨x,hx⟩:∃x,flows[i]=x:=⟨_,rfl⟩
  rw[hx] at hin
  obtain⟨nm,⟨k1,nm1,n1,d1,args1,a1⟩,fa⟩:=x
  obtain⟨ad,cap,y0,y1,y2,y3,y4,y5,y6,y7,hae,hfn⟩:=hin.cells
  have hie:(i:Int)<(flows.length:Int):=oq
  clear hbel hin hin0 hx hfn hbb0 hae
  go_wp2_with (go_at_call 173;refine(HAG.out nm _ bq).mono ?_;rintro x w3 ⟨⟨b,rfl⟩,hc3,hu3,hs3⟩;have HC3:=hid hc3;have HU3:=hid hu3;have nb:=(hu3.block wr.heap.size (by simp) oq).trans (Yp wr _);have z7:=Zc1 nb;clear hc3 hu3 nb;cases b)
  ·refine⟨HNX.out _ w3 bq HU3.out HC3.out,by simp[intOf];omega⟩
  go_ret2
  exact⟨⟨_,_,rfl⟩,HBEL.out.trans (((by repeat (first|(with_reducible exact Upon.refl _ _)|((with_reducible refine Upon.setAt ?_ ?_ _);(rotate_left;focus (first|exact Or.inl rfl|omega|(simp;done)|(simp;omega))))|(with_reducible refine Upon.alloc ?_ _)|(with_reducible refine Upon.drewN ?_ _)|(with_reducible refine Upon.drew ?_)|(with_reducible refine Upon.trans ?_ HU3.out))):Upon (w.heap.size+1) wr _).below hszr oq)⟩
 have hie':decide ((i:Int)<(flows.length:Int))=false:=ZZ oq
 clear hbel
 go_wp2
 go_ret2
 exact⟨⟨_,_,rfl⟩,HBEL.out⟩
def ZbB (w:World) (mb mb2:Nat) (len:Nat) (p:PG) (an ai af ao:Option Addr) (cn ci cf co:Nat) (v:Value) (wr:World):Prop :=
 ∃i:Nat,v=.int .i64 (i:Int)∧i≤len∧CI wr mb∧CI wr mb2∧XS wr w.heap.size p an ai af ao cn ci cf co∧Below w.heap.size w wr
theorem KV {w:World} (nodes:List ND) (ins:List IN) (flows:List FL) (outs:List OU) (an ai af ao:Option Addr) (cn ci cf co:Nat) (hp:AP w ⟨nodes,ins,flows,outs⟩ an ai af ao cn ci cf co) :
  Calls Tryz.prog 160 #[pv ⟨nodes,ins,flows,outs⟩ an ai af ao cn ci cf co] w fun x w'=>X4 x∧Below w.heap.size w w':=by
 have HO:=hid hp.outs
 have HF:=hid hp.flows
 have hcap:=hp.caps
 simp only at hcap
 have hol:outs.length≤9223372036854775807:=oq
 have hfl:flows.length≤9223372036854775807:=oq
 clear hp hcap
 unfold pv X4
 simp only
 have hmk:=fun w=>run_makeMap (P:=Tryz.prog) 266 w
 go_enter Tryz.func160,Tryz.ntmps160
 go_wp2
 go_loopw [15] (fun v wr=>Hid (ZbB w (w.heap.size+1) (w.heap.size+1+1) flows.length ⟨nodes,ins,flows,outs⟩ an ai af ao cn ci cf co v wr)) (fun i _=>flows.length-(intOf i).toNat)
 case atStart=>exact⟨0,rfl,Zk _,by simpa using (CI.new (w.alloc _)).below ((Zg _ _).alloc (Zc _) _),by simpa using (CI.new ((w.alloc _).alloc _)),(Za _ _ _ (by simp;omega)).trans ((Za _ _ _ (by simp)).trans (Yp w _)),bq⟩
 obtain⟨wo,rfl⟩:∃wo:World,wo=wr:=⟨_,rfl⟩
 obtain⟨i,rfl,hi,hci,hc2,hpb,hbel⟩:=hrel.out
 clear hrel
 have HPB:=hid hpb
 have HBEL:=hid hbel
 have HCI2:=hid hc2
 have hszr:=hbel.size
 have hmlt:=hc2.lt
 have hplt:=Zb hpb
 unfold XS at hpb
 simp only at hpb
 obtain⟨⟨x0,x1,x2,x3⟩,xf⟩:=Yq hpb
 clear hpb hc2
 by_cases hlt:i<flows.length
 ·obtain⟨bb,oo,rfl,hbb0,hin0⟩:=HF.out.at hlt
  have hin:=JU w wo bb _ _ hbel hbb0 hin0
  have hbb:=Zd hbb0 hszr
  obtain⟨x,hx⟩:∃x,flows[i]=x:=⟨_,rfl⟩
  rw[hx] at hin
  obtain⟨nm,⟨k1,nm1,n1,d1,args1,a1⟩,fa⟩:=x
  obtain⟨ad,cap,y0,y1,y2,y3,y4,y5,y6,y7,hae,hfn⟩:=hin.cells
  obtain⟨L,hM,hL⟩:=hci
  obtain⟨iv,hiv⟩:=hL nm
  have HM:=hid hM
  have HG:=hid hiv
  have HPT:=hid (fun j=>Kz hL nm j)
  have hie:(i:Int)<(flows.length:Int):=oq
  clear hbel hin hin0 hx hfn hbb0 hae hM hL hiv
  go_wp2_with (first|(at_lookup;refine QX XU _ rfl _ _ rfl (w.heap.size+1) L nm _ rfl rfl (HM.out.below bq) HG.out ?_)|(at_mapUpdate;refine Xe XU _ rfl _ _ _ rfl (w.heap.size+1) L nm _ rfl rfl rfl (HM.out.below bq) ?_;intro arr clock hm2))
  refine⟨⟨i+1,by go_num,oq,⟨_,hm2,HPT.out _⟩,(HCI2.out.below bq).upon (YF (Upon.refl _ _) _) oq,?_,?_⟩,by simp[intOf];omega⟩
  ·exact((YF (Upon.refl (w.heap.size+1) _) _).block w.heap.size (by simp;omega) oq).trans ((Za _ _ _ hplt).trans HPB.out)
  exact Qr bq oq _
 have hie':decide ((i:Int)<(flows.length:Int))=false:=ZZ oq
 have HCI:=hid hci
 clear hbel hci
 go_wp2
 go_loopw [28] (fun v wr=>Hid (ZbB w (w.heap.size+1) (w.heap.size+1+1) outs.length ⟨nodes,ins,flows,outs⟩ an ai af ao cn ci cf co v wr)) (fun i _=>outs.length-(intOf i).toNat)
 case atStart=>exact⟨0,rfl,Zk _,HCI.out,HCI2.out,HPB.out,HBEL.out⟩
 clear HPB HBEL hplt hszr hmlt x0 x1 x2 x3 xf HCI HCI2 hie' hlt
 obtain⟨wp,rfl⟩:∃wp:World,wp=wr:=⟨_,rfl⟩
 obtain⟨i,rfl,hi,hci,hc2,hpb,hbel⟩:=hrel.out
 clear hrel
 have HCI:=hid hci
 have HCI2:=hid hc2
 have HPB:=hid hpb
 have HBEL:=hid hbel
 have hszr:=hbel.size
 have hmlt:=hc2.lt
 have hplt:=Zb hpb
 clear hpb hci hc2
 by_cases hlt:i<outs.length
 ·obtain⟨bb,oo,rfl,hbb0,hin0⟩:=HO.out.at hlt
  have hin:=xP w wp bb _ _ hbel hbb0 hin0
  have hbb:=Zd hbb0 hszr
  obtain⟨x,hx⟩:∃x,outs[i]=x:=⟨_,rfl⟩
  rw[hx] at hin
  obtain⟨nm,fl,dl,fa⟩:=x
  obtain⟨y0,y1,y2,y3,hfn⟩:=hin
  simp only at y0 y1 y2 y3
  have hie:(i:Int)<(outs.length:Int):=oq
  have HAG:=hid (fun(w':World) (hb:Below wp.heap.size wp w')=>Uu (w:=w') (w.heap.size+1+1) nm (HCI2.out.below hb))
  clear hbel hin0 hx hfn hbb0
  go_wp2_with (first|(go_at_call 173;refine(HAG.out _ bq).mono ?_;rintro x w3 ⟨⟨b,rfl⟩,hc3,hu3,hs3⟩;have HC3:=hid hc3;have HU3:=hid ((by repeat (first|(with_reducible exact Upon.refl _ _)|((with_reducible refine Upon.setAt ?_ ?_ _);(rotate_left;focus (first|exact Or.inl rfl|omega|(simp;done)|(simp;omega))))|(with_reducible refine Upon.alloc ?_ _)|(with_reducible refine Upon.drewN ?_ _)|(with_reducible refine Upon.drew ?_)|(with_reducible refine Upon.trans ?_ hu3))):Upon (w.heap.size+1+1) wp w3);have nb:=(hu3.block wp.heap.size (by simp) oq).trans (Yp wp _);obtain⟨⟨z0,z1,z2,z3⟩,zf⟩:=Yq nb;clear hc3 hu3 nb;have HD3:=hid (HCI.out.upon HU3.out oq);cases b)|(go_at_call 175;refine(gU _ _ HD3.out).mono ?_;rintro x w4 ⟨⟨b2,rfl⟩,rfl⟩;cases b2))
  all_goals first|(go_ret2;exact⟨⟨_,_,rfl⟩,HBEL.out.trans (HU3.out.below hszr oq)⟩)|(refine⟨⟨i+1,by go_num,oq,HD3.out,HC3.out,(HU3.out.block _ hplt oq).trans HPB.out,HBEL.out.trans (HU3.out.below hszr oq)⟩,by simp[intOf];omega⟩)
 have hie':decide ((i:Int)<(outs.length:Int))=false:=ZZ oq
 clear hbel
 go_wp2
 go_ret2
 exact⟨⟨_,_,rfl⟩,HBEL.out⟩
end Go.Proofs.YtgigilkpndhddaaGreatDoor.syn
