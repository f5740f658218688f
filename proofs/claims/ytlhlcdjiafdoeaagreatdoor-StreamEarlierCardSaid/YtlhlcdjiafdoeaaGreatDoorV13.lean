/- Parts of the proof. -/
import Derived.Maps.OwnIn
import Derived.Test.YtlhlcdjiafdoeaaGreatDoorV06
import Derived.Test.YtlhlcdjiafdoeaaGreatDoorV12
set_option linter.all false
set_option maxRecDepth 100000
set_option maxHeartbeats 16000000
namespace Go.Proofs.YtlhlcdjiafdoeaaGreatDoor.syn
open Go.RowKit
def X8 (x:Ending):Prop:=∃a e:Int,x=.returned (.tuple #[.int .i64 a,.int .i64 e])
def CI (w:World) (mb:Nat):Prop:=∃L,YJ w mb L∧∀nm,∃i:Int,(YT nm L).getD (.int .i64 0)=.int .i64 i
theorem CI.below {w w':World} {mb:Nat} (h:CI w mb) (hb:Below w.heap.size w w'):CI w' mb:=by obtain⟨L,h1,h2⟩:=h;exact⟨L,h1.below hb,h2⟩
theorem CI.upon {w w':World} {mb r:Nat} (h:CI w mb) (hb:Upon r w w') (hne:mb≠r):CI w' mb:=by obtain⟨L,h1,h2⟩:=h;exact⟨L,h1.upon hb hne,h2⟩
theorem CI.lt {w:World} {mb:Nat} (h:CI w mb):mb<w.heap.size:=by obtain⟨L,h1,h2⟩:=h;exact h1.lt
theorem CI.new (w:World):CI (w.alloc (.map #[] 0)) w.heap.size:=⟨[],YJ.new w,fun _=>⟨0,rfl⟩⟩
theorem Kv {L:List (ByteArray × Value)} (h:∀nm,∃i:Int,(YT nm L).getD (.int .i64 0)=.int .i64 i) (k:ByteArray) (j:Int):∀nm,∃i:Int,(YT nm (QZ k (.int .i64 j) L)).getD (.int .i64 0)=.int .i64 i:=by
 intro nm
 rw[JQ]
 by_cases hk:nm=k
 ·exact⟨j,by rw[Z0 hk];rfl⟩
 rw[ZZ hk];exact h nm
theorem VN {w:World} (mb:Nat) (nm:ByteArray) (h:CI w mb) :
  Calls Tryz.prog 156 #[.map (some mb),.string nm] w fun x w'=>(∃b:Bool,x=.returned (.bool b))∧CI w' mb∧Upon mb w w'∧w'.heap.size=w.heap.size:=by
 obtain⟨L,hM,hL⟩:=h
 obtain⟨i,hi⟩:=hL nm
 have HM:=hid hM
 have HI:=hid hi
 have HL:=hid (fun j=>Kv hL nm j)
 have HQ:=hid (fun j:Int=>(show(YT nm (QZ nm (.int .i64 j) L)).getD (.int .i64 0)=.int .i64 j by rw[JQ,Z0 rfl];rfl))
 clear hM hL hi
 go_enter Tryz.func156,Tryz.ntmps156
 go_wp2_with (first|(at_lookup;first|refine Qi XU _ rfl _ _ rfl mb _ nm _ rfl rfl hm2 (HQ.out _) ?_|refine Qi XU _ rfl _ _ rfl mb L nm _ rfl rfl HM.out HI.out ?_)|(at_mapUpdate;refine Xe XU _ rfl _ _ _ rfl mb L nm _ rfl rfl rfl HM.out ?_;intro arr clock hm2))
 go_ret
 exact⟨⟨_,rfl⟩,⟨_,hm2,HL.out _⟩,YI (Upon.refl _ _) _,by simp[World.putM]⟩
theorem kC {w:World} (mb:Nat) (nm:ByteArray) (h:CI w mb) :
  Calls Tryz.prog 158 #[.map (some mb),.string nm] w fun x w'=>(∃b:Bool,x=.returned (.bool b))∧w'=w:=by
 obtain⟨L,hM,hL⟩:=h
 obtain⟨i,hi⟩:=hL nm
 have HM:=hid hM
 have HL:=hid hi
 clear hM hL hi
 go_enter Tryz.func158,Tryz.ntmps158
 go_wp2_with (at_lookup;refine Qi XU _ rfl _ _ rfl mb L nm _ rfl rfl HM.out HL.out ?_)
 go_ret
 exact⟨⟨_,rfl⟩,rfl⟩
def Zcg (w:World) (mb len:Nat) (v:Value) (wr:World):Prop:=∃i:Nat,v=.int .i64 (i:Int)∧i≤len∧CI wr mb∧Below w.heap.size w wr
def Zcl (W:World) (mb len:Nat) (v:Value) (wr:World):Prop:=∃i:Nat,v=.int .i64 (i:Int)∧i≤len∧CI wr mb∧Upon mb W wr
def Zci (W:World) (mb len:Nat) (v:Value) (wr:World):Prop:=∃i:Nat,v=.int .i64 (i:Int)∧i≤len∧CI wr mb∧Below W.heap.size W wr
theorem Ku {w:World} {b:Nat} {v0 v1 v2 v3 v4 v5 v6 v7 v8 v9:Value} {t:TypeId} (h:w.heap[b]?=some (.cells #[v0,v1,v2,v3,v4,v5,v6,v7,v8,v9] t (0,0))) :
  (w.cell? ⟨b,0,none⟩=some v0∧w.cell? ⟨b,1,none⟩=some v1∧w.cell? ⟨b,2,none⟩=some v2∧w.cell? ⟨b,3,none⟩=some v3∧w.cell? ⟨b,4,none⟩=some v4∧w.cell? ⟨b,5,none⟩=some v5∧w.cell? ⟨b,6,none⟩=some v6∧w.cell? ⟨b,7,none⟩=some v7∧w.cell? ⟨b,8,none⟩=some v8∧w.cell? ⟨b,9,none⟩=some v9):=by
 refine⟨?_,?_,?_,?_,?_,?_,?_,?_,?_,?_⟩
 all_goals simp[World.cell?,h]
theorem kX {w w':World} {e:PE} {ad:Option Addr} {cap:Nat} (h:AE w e ad cap) (hn:∀b o,ad=some ⟨b,o,none⟩→NF w e.args b o) (hb:Below w.heap.size w w'):∀b o,ad=some ⟨b,o,none⟩→NF w' e.args b o:=by
 intro b o ha
 rcases h.args with h0|⟨b',o',e',hlt',hac⟩
 ·rw[h0];trivial
 rw[ha] at e'
 injection e' with e';injection e' with e1 e2
 subst e1;subst e2
 exact(hn b o ha).below hb _ _ _ hlt' hac
theorem ZcG {w:World} {base nn c:Nat} {ln:Option Addr} {xs:List Value} (h:w.ownsRow base 92 6 (.slice ln nn c) nn xs) (hn:NmR xs nn) {q:Nat} (hq:q<nn):∃g,ln=some ⟨g,0,none⟩∧g<w.heap.size∧∃(k:Int) (nm:ByteArray) (n d a:Int),
  w.cell? ⟨g,q*6,none⟩=some (.int .i64 k)∧w.cell? ⟨g,q*6+1,none⟩=some (.string nm)∧w.cell? ⟨g,q*6+2,none⟩=some (.int .i64 n)∧w.cell? ⟨g,q*6+3,none⟩=some (.int .i64 d)∧w.cell? ⟨g,q*6+4,none⟩=some (.slice none 0 0)∧w.cell? ⟨g,q*6+5,none⟩=some (.int .i64 a):=by
 obtain⟨g,cap,e,_,hgl⟩:=h.form oq
 injection e with e1 _ e3
 subst e1;subst e3
 obtain⟨k,nm,n,d,a,x0,x1,x2,x3,x4,x5⟩:=hn.2 q hq
 exact⟨g,rfl,hgl,k,nm,n,d,a,(h.cellAt _ oq).trans x0,(h.cellAt _ oq).trans x1,(h.cellAt _ oq).trans x2,(h.cellAt _ oq).trans x3,(h.cellAt _ oq).trans x4,(h.cellAt _ oq).trans x5⟩
theorem EI {w:World} (nodes:List ND) (ins:List IN) (flows:List FL) (outs:List OU) (an ai af ao:Option Addr) (cn ci cf co:Nat) (hp:AP w ⟨nodes,ins,flows,outs⟩ an ai af ao cn ci cf co) (hz:NZ w nodes an) (hb:∀x∈nodes,VJ x.body∧x.body.sz≤100) :
  Calls Tryz.prog 140 #[pv ⟨nodes,ins,flows,outs⟩ an ai af ao cn ci cf co] w fun x w'=>X8 x∧Below w.heap.size w w':=by
 have HN:=hid hp.nodes
 have HZ:=hid hz
 have HBD:=hid hb
 have hnl:nodes.length≤9223372036854775807:=by have:=hp.caps.1;simp only at this;omega
 clear hp hz hb
 unfold pv X8
 simp only
 have hmk:=fun w=>run_makeMap (P:=Tryz.prog) 257 w
 go_enter Tryz.func140,Tryz.ntmps140
 go_wp2
 go_loopw [16] (fun v wr=>Hid (Zcg w (w.heap.size+1) nodes.length v wr)) (fun i _=>nodes.length-(intOf i).toNat)
 case atStart=>exact⟨0,rfl,Zk _,by simpa using CI.new (w.alloc _),bq⟩
 obtain⟨wo,rfl⟩:∃wo:World,wo=wr:=⟨_,rfl⟩
 obtain⟨i,rfl,hi,hci,hbel⟩:=hrel.out
 clear hrel
 have HCI:=hid hci
 have HBEL:=hid hbel
 have hszr:=hbel.size
 have hmlt:=hci.lt
 clear hci
 by_cases hlt:i<nodes.length
 ·obtain⟨bb,oo,rfl,hbb0,hnd0⟩:=HN.out.at hlt
  have hz2:=HZ.out bb oo rfl i hlt
  have hbd:=HBD.out _ (Zi hlt)
  have hbb:=Zd hbb0 hszr
  obtain⟨x,hx⟩:∃x,nodes[i]=x:=⟨_,rfl⟩
  rw[hx] at hnd0 hz2 hbd
  obtain⟨nm,ps,bud,⟨k1,nm1,n1,d1,args1,a1⟩,fa⟩:=x
  obtain⟨pa,pc,ad,cap,u0,u1,u2,u3,u4,u5,u6,u7,u8,u9,hae,⟨hp1,hp2,hps⟩,hfn⟩:=hnd0.cells
  simp only at hz2 hbd
  have HAE:=hid hae
  have HNF:=hid (fun b o (e:ad=some ⟨b,o,none⟩)=>hz2 b o cap (by rw[←e];exact u7))
  have HB2:=hid hbd
  have HPS:=hid hps
  have hcr:=fun o=>hbel.cell (p:=⟨bb,o,none⟩) hbb0
  have y0:=(hcr _).trans u0
  have y1:=(hcr _).trans u1
  have y2:=(hcr _).trans u2
  have y3:=(hcr _).trans u3
  have y4:=(hcr _).trans u4
  have y5:=(hcr _).trans u5
  have y6:=(hcr _).trans u6
  have y7:=(hcr _).trans u7
  have y8:=(hcr _).trans u8
  have y9:=(hcr _).trans u9
  have hpl:ps.length≤9223372036854775807:=oq
  have hie:(i:Int)<(nodes.length:Int):=oq
  have HAG:=hid (fun(w':World) (hb:Below wo.heap.size wo w')=>VN (w:=w') (w.heap.size+1) nm (HCI.out.below hb))
  clear hbel hnd0 hz2 hbd hx hfn hbb0 hae hps hcr u0 u1 u2 u3 u4 u5 u6 u7 u8 u9
  go_wp2_with (go_at_call 156;refine(HAG.out _ bq).mono ?_;rintro x w2 ⟨⟨b,rfl⟩,hc2,hu2,hs2⟩;have HC2:=hid hc2;have HU2:=hid ((by repeat (first|(with_reducible exact Upon.refl _ _)|((with_reducible refine Upon.setAt ?_ ?_ _);(rotate_left;focus (first|exact Or.inl rfl|omega|(simp;done)|(simp;omega))))|(with_reducible refine Upon.alloc ?_ _)|(with_reducible refine Upon.drewN ?_ _)|(with_reducible refine Upon.drew ?_)|(with_reducible refine Upon.trans ?_ hu2))):Upon (w.heap.size+1) wo w2);have hz2:w2.heap.size=wo.heap.size+1:=(by rw[hs2];simp);have nb2:=(hu2.block wo.heap.size (by simp) oq).trans (Yt wo _);have NB2:=hid nb2;obtain⟨z0,z1,z2,z3,z4,z5,z6,z7,z8,z9⟩:=Ku nb2;clear hc2 hu2 nb2 hs2;cases b)
  ·obtain⟨W3,hW3⟩:∃W3,w2.alloc (.map #[] 0)=W3:=⟨_,rfl⟩
   go_wp2
   try rw[hW3]
   have hci3:CI W3 (wo.heap.size+1):=by rw[←hW3,←hz2];exact CI.new w2
   have hb3:Below w2.heap.size w2 W3:=by rw[←hW3];exact(Zg _ _).alloc (Zc _) _
   have HC3:=hid (HC2.out.below hb3)
   have nb3:=(hb3.block wo.heap.size oq).trans NB2.out
   have NB3:=hid nb3
   have hlow3:Below w.heap.size w W3:=(HBEL.out.trans (HU2.out.below hszr oq)).trans (hb3.mono oq)
   have HL3:=hid hlow3
   have hs3:W3.heap.size=wo.heap.size+1+1:=by rw[←hW3];simp[hz2]
   have HCI3:=hid hci3
   clear z0 z2 z3 z4 z5 z6 z7 z8 z9 z1 y0 y1 y2 y3 y4 y5 y6 y7 y8 y9 hb3 nb3 hlow3 NB2 hz2 hW3 hci3 HU2 HC2 HCI HAG
   go_loopw [30] (fun v wr2=>Hid (Zcl W3 (wo.heap.size+1) ps.length v wr2)) (fun i _=>ps.length-(intOf i).toNat)
   case atStart=>exact⟨0,rfl,Zk _,HCI3.out,Upon.refl _ _⟩
   obtain⟨j,rfl,hj,hci,hup⟩:=hrel.out
   clear hrel
   have HCI:=hid hci
   have HUP:=hid hup
   have nb4:=(hup.block wo.heap.size oq oq).trans NB3.out
   obtain⟨z0,z1,z2,z3,z4,z5,z6,z7,z8,z9⟩:=Ku nb4
   have NB4:=hid nb4
   have hlow4:=HL3.out.trans (hup.below oq oq)
   have HL4:=hid hlow4
   have hsz4:=hup.size
   have hmp4:=hci.lt
   clear nb4 hci hup
   by_cases hjl:j<ps.length
   ·obtain⟨b3,o3,rfl,hb30,hst⟩:=(HPS.out.below Qu hlow4).at hjl
    have v0:=hst.1
    rw[Z6] at v0
    have hje:(j:Int)<(ps.length:Int):=oq
    have HAG:=hid (VN (wo.heap.size+1) ps[j] HCI.out)
    obtain⟨pn,hpn⟩:∃pn,ps[j]=pn:=⟨_,rfl⟩
    rw[hpn] at v0 HAG
    clear hst hlow4 hpn
    go_wp2_with (go_at_call 156;refine HAG.out.mono ?_;rintro x w5 ⟨⟨b,rfl⟩,hc5,hu5,hs5⟩;have HC5:=hid hc5;have HU5:=hid hu5;have nb5:=(hu5.block wo.heap.size oq oq).trans NB4.out;obtain⟨t0,t1,t2,t3,t4,t5,t6,t7,t8,t9⟩:=Ku nb5;clear hc5 hu5 nb5;cases b)
    ·refine⟨⟨j+1,by go_num,oq,HC5.out,HUP.out.trans HU5.out⟩,by simp[intOf];omega⟩
    go_ret2
    exact⟨⟨_,_,rfl⟩,HL4.out.trans (HU5.out.below oq oq)⟩
   have hje:decide ((j:Int)<(ps.length:Int))=false:=ZX oq
   have HBN:=hid (GA (HAE.out.below (hlow4.mono oq)) (fun b o e=>kX HAE.out HNF.out (hlow4.mono oq) b o e) HB2.out.1 HB2.out.2)
   unfold ev at HBN
   simp only at HBN
   clear hlow4
   go_wp2_with (go_at_call 157;refine HBN.out.mono ?_;rintro x w5 ⟨⟨ln,nn,cn5,xs,rfl,hon,hnm,hnn⟩,hb5⟩;have HON:=hid hon;have HNM:=hid hnm;have HB5:=hid hb5;have hs5:=hb5.size;clear hon hnm hb5)
   go_loopw [44] (fun v wr3=>Hid (Zci w5 (wo.heap.size+1) nn v wr3)) (fun i _=>nn-(intOf i).toNat)
   case atStart=>exact⟨0,rfl,Zk _,HCI.out.below HB5.out,Zg _ _⟩
   obtain⟨w4,rfl⟩:∃w4:World,w4=wr:=⟨_,rfl⟩
   obtain⟨q,rfl,hq,hci6,hb6⟩:=hrel.out
   clear hrel
   have HCI6:=hid hci6
   have HB6:=hid hb6
   have hs6:=hb6.size
   clear hci6
   by_cases hql:q<nn
   ·obtain⟨g,e1,hgl,nk,nnm,n2,d2,a2,x0,x1,x2,x3,x4,x5⟩:=ZcG HON.out HNM.out hql
    have hc6:=fun o=>hb6.cell (p:=⟨g,o,none⟩) hgl
    have v0:=(hc6 _).trans x0
    have v1:=(hc6 _).trans x1
    have v2:=(hc6 _).trans x2
    have v3:=(hc6 _).trans x3
    have v4:=(hc6 _).trans x4
    have v5:=(hc6 _).trans x5
    have hqe:(q:Int)<(nn:Int):=oq
    have hgl6:g<w4.heap.size:=oq
    subst e1
    have HHS:=hid (fun(w':World) (hb:Below w4.heap.size w4 w')=>kC (w:=w') (wo.heap.size+1) nnm (HCI6.out.below hb))
    clear hb6 hc6 x0 x1 x2 x3 x4 x5
    go_wp2_with (go_at_call 158;refine(HHS.out _ bq).mono ?_;rintro x w7 ⟨⟨b,rfl⟩,rfl⟩;cases b)
    ·go_ret2
     exact⟨⟨_,_,rfl⟩,HL4.out.trans ((HB5.out.trans ((bq:Below w5.heap.size w5 _).mono oq)).mono oq)⟩
    refine⟨⟨q+1,by go_num,oq,HCI6.out.below bq,bq⟩,by simp[intOf];omega⟩
   have hqe:decide ((q:Int)<(nn:Int))=false:=ZX oq
   clear hb6
   go_wp2
   refine⟨⟨i+1,by go_num,oq,?_,HL4.out.trans ((HB5.out.trans (HB6.out.mono oq)).mono oq)⟩,by simp[intOf];omega⟩
   exact((HC3.out.upon HUP.out oq).below HB5.out).below (HB6.out.mono oq)
  go_ret2
  exact⟨⟨_,_,rfl⟩,HBEL.out.trans (HU2.out.below hszr oq)⟩
 have hie':decide ((i:Int)<(nodes.length:Int))=false:=ZX oq
 clear hbel
 go_wp2
 go_ret2
 exact⟨⟨_,_,rfl⟩,HBEL.out⟩
theorem Zcw {w:World} {b:Nat} {v0 v1 v2 v3 v4 v5 v6 v7:Value} {t:TypeId} (h:w.heap[b]?=some (.cells #[v0,v1,v2,v3,v4,v5,v6,v7] t (0,0))):w.cell? ⟨b,7,none⟩=some v7:=by simp[World.cell?,h]
def GK (w:World) (mb:Nat) (len:Nat) (p:PG) (an ai af ao:Option Addr) (cn ci cf co:Nat) (v:Value) (wr:World):Prop :=
 ∃i:Nat,v=.int .i64 (i:Int)∧i≤len∧CI wr mb∧XS wr w.heap.size p an ai af ao cn ci cf co∧Below w.heap.size w wr∧w.heap.size<mb
theorem GK.next {w wr:World} {mb i len:Nat} {p:PG} {an ai af ao:Option Addr} {cn ci cf co:Nat} (hi:i<len) (hpb:XS wr w.heap.size p an ai af ao cn ci cf co) (hb:Below w.heap.size w wr) (hm:w.heap.size<mb)
  {w2 w3:World} (h2:Below wr.heap.size wr w2) (h3:Upon mb w2 w3) (hc:CI w3 mb):GK w mb len p an ai af ao cn ci cf co (.int .i64 ((i:Int)+1)) w3:=by
 have hlt:=Zb hpb
 refine⟨i+1,by simp,hi,hc,?_,?_,hm⟩
 ·exact(h3.block _ (Zd hlt h2.size) oq).trans ((h2.block _ hlt).trans hpb)
 exact(hb.trans (h2.mono hb.size)).trans (h3.below (Zm hb.size h2.size) (Nat.le_of_lt hm))
theorem Kr {w:World} (nodes:List ND) (ins:List IN) (flows:List FL) (outs:List OU) (an ai af ao:Option Addr) (cn ci cf co:Nat) (hp:AP w ⟨nodes,ins,flows,outs⟩ an ai af ao cn ci cf co) :
  Calls Tryz.prog 141 #[pv ⟨nodes,ins,flows,outs⟩ an ai af ao cn ci cf co] w fun x w'=>X8 x∧Below w.heap.size w w':=by
 have HI:=hid hp.ins
 have HF:=hid hp.flows
 have hcap:=hp.caps
 simp only at hcap
 have hil:ins.length≤9223372036854775807:=oq
 have hfl:flows.length≤9223372036854775807:=oq
 clear hp hcap
 unfold pv X8
 simp only
 have hmk:=fun w=>run_makeMap (P:=Tryz.prog) 257 w
 go_enter Tryz.func141,Tryz.ntmps141
 go_wp2
 go_loopw [13] (fun v wr=>Hid (GK w (w.heap.size+1) ins.length ⟨nodes,ins,flows,outs⟩ an ai af ao cn ci cf co v wr)) (fun i _=>ins.length-(intOf i).toNat)
 case atStart=>exact⟨0,rfl,Zk _,by simpa using CI.new (w.alloc _),(Za _ _ _ (by simp)).trans (Yt w _),bq,oq⟩
 obtain⟨i,rfl,hi,hci,hpb,hbel,_⟩:=hrel.out
 clear hrel
 have HCI:=hid hci
 have HPB:=hid hpb
 have HBEL:=hid hbel
 have hszr:=hbel.size
 have hmlt:=hci.lt
 have hplt:=Zb hpb
 unfold XS at hpb
 simp only at hpb
 obtain⟨⟨x0,x1,x2,x3⟩,xf⟩:=Yu hpb
 clear hpb hci
 by_cases hlt:i<ins.length
 ·obtain⟨bb,oo,rfl,hbb0,hin0⟩:=HI.out.at hlt
  have hin:=KM w wr bb _ _ hbel hbb0 hin0
  have hbb:=Zd hbb0 hszr
  have HAG:=hid (fun(nm:ByteArray) (w':World) (hb:Below wr.heap.size wr w')=>VN (w:=w') (w.heap.size+1) nm (HCI.out.below hb))
  have HNX:=hid (fun(w2 w3:World)=>GK.next (w:=w) (wr:=wr) (w2:=w2) (w3:=w3) hlt HPB.out HBEL.out (show w.heap.size<w.heap.size+1 by omega))
  obtain⟨x,hx⟩:∃x,ins[i]=x:=⟨_,rfl⟩
  rw[hx] at hin
  obtain⟨nm,per,ph,fa⟩:=x
  obtain⟨y0,y1,y2,y3,hfn⟩:=hin
  simp only at y0 y1 y2 y3
  have hie:(i:Int)<(ins.length:Int):=oq
  clear hbel hin0 hx hfn hbb0
  go_wp2_with (go_at_call 156;refine(HAG.out nm _ bq).mono ?_;rintro x w3 ⟨⟨b,rfl⟩,hc3,hu3,hs3⟩;have HC3:=hid hc3;have HU3:=hid hu3;have nb:=(hu3.block wr.heap.size (by simp) oq).trans (Yt wr _);obtain⟨⟨z0,z1,z2,z3⟩,zf⟩:=Yu nb;clear hc3 hu3 nb;cases b)
  ·refine⟨HNX.out _ w3 bq HU3.out HC3.out,by simp[intOf];omega⟩
  go_ret2
  exact⟨⟨_,_,rfl⟩,HBEL.out.trans (((by repeat (first|(with_reducible exact Upon.refl _ _)|((with_reducible refine Upon.setAt ?_ ?_ _);(rotate_left;focus (first|exact Or.inl rfl|omega|(simp;done)|(simp;omega))))|(with_reducible refine Upon.alloc ?_ _)|(with_reducible refine Upon.drewN ?_ _)|(with_reducible refine Upon.drew ?_)|(with_reducible refine Upon.trans ?_ HU3.out))):Upon (w.heap.size+1) wr _).below hszr oq)⟩
 have hie':decide ((i:Int)<(ins.length:Int))=false:=ZX oq
 clear hbel
 go_wp2
 go_loopw [27] (fun v wr=>Hid (GK w (w.heap.size+1) flows.length ⟨nodes,ins,flows,outs⟩ an ai af ao cn ci cf co v wr)) (fun i _=>flows.length-(intOf i).toNat)
 case atStart=>exact⟨0,rfl,Zk _,HCI.out,HPB.out,HBEL.out,oq⟩
 clear HPB HBEL hplt hszr hmlt x0 x1 x2 x3 xf HCI hie' hlt
 obtain⟨i,rfl,hi,hci,hpb,hbel,_⟩:=hrel.out
 clear hrel
 have HCI:=hid hci
 have HPB:=hid hpb
 have HBEL:=hid hbel
 have hszr:=hbel.size
 have hmlt:=hci.lt
 have hplt:=Zb hpb
 clear hpb hci
 by_cases hlt:i<flows.length
 ·obtain⟨bb,oo,rfl,hbb0,hin0⟩:=HF.out.at hlt
  have hin:=JI w wr bb _ _ hbel hbb0 hin0
  have hbb:=Zd hbb0 hszr
  have HAG:=hid (fun(nm:ByteArray) (w':World) (hb:Below wr.heap.size wr w')=>VN (w:=w') (w.heap.size+1) nm (HCI.out.below hb))
  have HNX:=hid (fun(w2 w3:World)=>GK.next (w:=w) (wr:=wr) (w2:=w2) (w3:=w3) hlt HPB.out HBEL.out (show w.heap.size<w.heap.size+1 by omega))
  obtain⟨x,hx⟩:∃x,flows[i]=x:=⟨_,rfl⟩
  rw[hx] at hin
  obtain⟨nm,⟨k1,nm1,n1,d1,args1,a1⟩,fa⟩:=x
  obtain⟨ad,cap,y0,y1,y2,y3,y4,y5,y6,y7,hae,hfn⟩:=hin.cells
  have hie:(i:Int)<(flows.length:Int):=oq
  clear hbel hin hin0 hx hfn hbb0 hae
  go_wp2_with (go_at_call 156;refine(HAG.out nm _ bq).mono ?_;rintro x w3 ⟨⟨b,rfl⟩,hc3,hu3,hs3⟩;have HC3:=hid hc3;have HU3:=hid hu3;have nb:=(hu3.block wr.heap.size (by simp) oq).trans (Yt wr _);have z7:=Zcw nb;clear hc3 hu3 nb;cases b)
  ·refine⟨HNX.out _ w3 bq HU3.out HC3.out,by simp[intOf];omega⟩
  go_ret2
  exact⟨⟨_,_,rfl⟩,HBEL.out.trans (((by repeat (first|(with_reducible exact Upon.refl _ _)|((with_reducible refine Upon.setAt ?_ ?_ _);(rotate_left;focus (first|exact Or.inl rfl|omega|(simp;done)|(simp;omega))))|(with_reducible refine Upon.alloc ?_ _)|(with_reducible refine Upon.drewN ?_ _)|(with_reducible refine Upon.drew ?_)|(with_reducible refine Upon.trans ?_ HU3.out))):Upon (w.heap.size+1) wr _).below hszr oq)⟩
 have hie':decide ((i:Int)<(flows.length:Int))=false:=ZX oq
 clear hbel
 go_wp2
 go_ret2
 exact⟨⟨_,_,rfl⟩,HBEL.out⟩
def ZaS (w:World) (mb mb2:Nat) (len:Nat) (p:PG) (an ai af ao:Option Addr) (cn ci cf co:Nat) (v:Value) (wr:World):Prop :=
 ∃i:Nat,v=.int .i64 (i:Int)∧i≤len∧CI wr mb∧CI wr mb2∧XS wr w.heap.size p an ai af ao cn ci cf co∧Below w.heap.size w wr
theorem Kq {w:World} (nodes:List ND) (ins:List IN) (flows:List FL) (outs:List OU) (an ai af ao:Option Addr) (cn ci cf co:Nat) (hp:AP w ⟨nodes,ins,flows,outs⟩ an ai af ao cn ci cf co) :
  Calls Tryz.prog 143 #[pv ⟨nodes,ins,flows,outs⟩ an ai af ao cn ci cf co] w fun x w'=>X8 x∧Below w.heap.size w w':=by
 have HO:=hid hp.outs
 have HF:=hid hp.flows
 have hcap:=hp.caps
 simp only at hcap
 have hol:outs.length≤9223372036854775807:=oq
 have hfl:flows.length≤9223372036854775807:=oq
 clear hp hcap
 unfold pv X8
 simp only
 have hmk:=fun w=>run_makeMap (P:=Tryz.prog) 257 w
 go_enter Tryz.func143,Tryz.ntmps143
 go_wp2
 go_loopw [15] (fun v wr=>Hid (ZaS w (w.heap.size+1) (w.heap.size+1+1) flows.length ⟨nodes,ins,flows,outs⟩ an ai af ao cn ci cf co v wr)) (fun i _=>flows.length-(intOf i).toNat)
 case atStart=>exact⟨0,rfl,Zk _,by simpa using (CI.new (w.alloc _)).below ((Zg _ _).alloc (Zc _) _),by simpa using (CI.new ((w.alloc _).alloc _)),(Za _ _ _ (by simp;omega)).trans ((Za _ _ _ (by simp)).trans (Yt w _)),bq⟩
 obtain⟨wo,rfl⟩:∃wo:World,wo=wr:=⟨_,rfl⟩
 obtain⟨i,rfl,hi,hci,hc2,hpb,hbel⟩:=hrel.out
 clear hrel
 have HPB:=hid hpb
 have HBEL:=hid hbel
 have HCI2:=hid hc2
 have hszr:=hbel.size
 have hmlt:=hc2.lt
 have hplt:=Zb hpb
 unfold XS at hpb
 simp only at hpb
 obtain⟨⟨x0,x1,x2,x3⟩,xf⟩:=Yu hpb
 clear hpb hc2
 by_cases hlt:i<flows.length
 ·obtain⟨bb,oo,rfl,hbb0,hin0⟩:=HF.out.at hlt
  have hin:=JI w wo bb _ _ hbel hbb0 hin0
  have hbb:=Zd hbb0 hszr
  obtain⟨x,hx⟩:∃x,flows[i]=x:=⟨_,rfl⟩
  rw[hx] at hin
  obtain⟨nm,⟨k1,nm1,n1,d1,args1,a1⟩,fa⟩:=x
  obtain⟨ad,cap,y0,y1,y2,y3,y4,y5,y6,y7,hae,hfn⟩:=hin.cells
  obtain⟨L,hM,hL⟩:=hci
  obtain⟨iv,hiv⟩:=hL nm
  have HM:=hid hM
  have HG:=hid hiv
  have HPT:=hid (fun j=>Kv hL nm j)
  have hie:(i:Int)<(flows.length:Int):=oq
  clear hbel hin hin0 hx hfn hbb0 hae hM hL hiv
  go_wp2_with (first|(at_lookup;refine Qi XU _ rfl _ _ rfl (w.heap.size+1) L nm _ rfl rfl (HM.out.below bq) HG.out ?_)|(at_mapUpdate;refine Xe XU _ rfl _ _ _ rfl (w.heap.size+1) L nm _ rfl rfl rfl (HM.out.below bq) ?_;intro arr clock hm2))
  refine⟨⟨i+1,by go_num,oq,⟨_,hm2,HPT.out _⟩,(HCI2.out.below bq).upon (YI (Upon.refl _ _) _) oq,?_,?_⟩,by simp[intOf];omega⟩
  ·exact((YI (Upon.refl (w.heap.size+1) _) _).block w.heap.size (by simp;omega) oq).trans ((Za _ _ _ hplt).trans HPB.out)
  exact XX bq oq _
 have hie':decide ((i:Int)<(flows.length:Int))=false:=ZX oq
 have HCI:=hid hci
 clear hbel hci
 go_wp2
 go_loopw [28] (fun v wr=>Hid (ZaS w (w.heap.size+1) (w.heap.size+1+1) outs.length ⟨nodes,ins,flows,outs⟩ an ai af ao cn ci cf co v wr)) (fun i _=>outs.length-(intOf i).toNat)
 case atStart=>exact⟨0,rfl,Zk _,HCI.out,HCI2.out,HPB.out,HBEL.out⟩
 clear HPB HBEL hplt hszr hmlt x0 x1 x2 x3 xf HCI HCI2 hie' hlt
 obtain⟨wp,rfl⟩:∃wp:World,wp=wr:=⟨_,rfl⟩
 obtain⟨i,rfl,hi,hci,hc2,hpb,hbel⟩:=hrel.out
 clear hrel
 have HCI:=hid hci
 have HCI2:=hid hc2
 have HPB:=hid hpb
 have HBEL:=hid hbel
 have hszr:=hbel.size
 have hmlt:=hc2.lt
 have hplt:=Zb hpb
 clear hpb hci hc2
 by_cases hlt:i<outs.length
 ·obtain⟨bb,oo,rfl,hbb0,hin0⟩:=HO.out.at hlt
  have hin:=yH w wp bb _ _ hbel hbb0 hin0
  have hbb:=Zd hbb0 hszr
  obtain⟨x,hx⟩:∃x,outs[i]=x:=⟨_,rfl⟩
  rw[hx] at hin
  obtain⟨nm,fl,dl,fa⟩:=x
  obtain⟨y0,y1,y2,y3,hfn⟩:=hin
  simp only at y0 y1 y2 y3
  have hie:(i:Int)<(outs.length:Int):=oq
  have HAG:=hid (fun(w':World) (hb:Below wp.heap.size wp w')=>VN (w:=w') (w.heap.size+1+1) nm (HCI2.out.below hb))
  clear hbel hin0 hx hfn hbb0
  go_wp2_with (first|(go_at_call 156;refine(HAG.out _ bq).mono ?_;rintro x w3 ⟨⟨b,rfl⟩,hc3,hu3,hs3⟩;have HC3:=hid hc3;have HU3:=hid ((by repeat (first|(with_reducible exact Upon.refl _ _)|((with_reducible refine Upon.setAt ?_ ?_ _);(rotate_left;focus (first|exact Or.inl rfl|omega|(simp;done)|(simp;omega))))|(with_reducible refine Upon.alloc ?_ _)|(with_reducible refine Upon.drewN ?_ _)|(with_reducible refine Upon.drew ?_)|(with_reducible refine Upon.trans ?_ hu3))):Upon (w.heap.size+1+1) wp w3);have nb:=(hu3.block wp.heap.size (by simp) oq).trans (Yt wp _);obtain⟨⟨z0,z1,z2,z3⟩,zf⟩:=Yu nb;clear hc3 hu3 nb;have HD3:=hid (HCI.out.upon HU3.out oq);cases b)|(go_at_call 158;refine(kC _ _ HD3.out).mono ?_;rintro x w4 ⟨⟨b2,rfl⟩,rfl⟩;cases b2))
  all_goals first|(go_ret2;exact⟨⟨_,_,rfl⟩,HBEL.out.trans (HU3.out.below hszr oq)⟩)|(refine⟨⟨i+1,by go_num,oq,HD3.out,HC3.out,(HU3.out.block _ hplt oq).trans HPB.out,HBEL.out.trans (HU3.out.below hszr oq)⟩,by simp[intOf];omega⟩)
 have hie':decide ((i:Int)<(outs.length:Int))=false:=ZX oq
 clear hbel
 go_wp2
 go_ret2
 exact⟨⟨_,_,rfl⟩,HBEL.out⟩
open Go.RowKit Go.Shelf
attribute [local go_sem] ZS
theorem J2 {F:Fence} {nF:Nat} {T K E:TypeId} {z:Value} (M:Xs T K E z) (w:World) {ops:Array Oper} {rest:List Oper} {o:Oper} {a:Act} {Q:Exit→Act→World→Prop}
  (hg:o.guard=none) (m x:Operand) (hop:o.op=Op.lookup T m x false) (mb:Nat) (L:List (ByteArray × Value)) (k:ByteArray) (v:Value)
  (hm:a.eval m=.map (some mb)) (hx:a.eval x=.string k) (h:YJ w mb L) (hs:(YT k L).getD z=v)
  (hK:wpListIn F nF Tryz.prog ops Q rest (a.put o.dst v) w) :
  wpListIn F nF Tryz.prog ops Q (o::rest) a w:=by
 refine wpListIn_plain hg fun K' hK'=>?_
 have hrun:=Xr M h k false
 rw[hs,ZZ (by decide)] at hrun
 unfold Oper.wpIn
 refine⟨by simp[Oper.about,hop],?_⟩
 rw[Oper.semAt_plain F _ _ (by rw[hop];intro c hc';cases hc')]
 simp[execOp,hop,hm,hx,hrun,Result.andThen]
 exact hK' _ _ hK
theorem Jb {F:Fence} {nF:Nat} {T K E:TypeId} {z:Value} (M:Xs T K E z) (w:World) {ops:Array Oper} {rest:List Oper} {o:Oper} {a:Act} {Q:Exit→Act→World→Prop}
  (hg:o.guard=none) (m x v:Operand) (hop:o.op=Op.mapUpdate T m x v) (mb:Nat) (L:List (ByteArray × Value)) (k:ByteArray) (u:Value)
  (hm:a.eval m=.map (some mb)) (hx:a.eval x=.string k) (hv:a.eval v=u) (h:YJ w mb L)
  (hK:∀arr clock,YJ (World.putM w mb (.map arr clock)) mb (QZ k u L)→wpListIn F nF Tryz.prog ops Q rest (a.put o.dst undef) (World.putM w mb (.map arr clock))) :
  wpListIn F nF Tryz.prog ops Q (o::rest) a w:=by
 refine wpListIn_plain hg fun K' hK'=>?_
 obtain⟨arr,clock,hrun,h1⟩:=V8 M h k u
 unfold Oper.wpIn
 refine⟨by simp[Oper.about,hop],?_⟩
 rw[Oper.semAt_plain F _ _ (by rw[hop];intro c hc';cases hc')]
 simp[execOp,hop,hm,hx,hv,hrun,Result.andThen]
 exact hK' _ _ (hK arr clock h1)
theorem zD {w:World} (mb mb2:Nat) (k n d a:Int) (nm:ByteArray) (ad:Option Addr) (len cap:Nat) (h:CI w mb) (h2:CI w mb2) :
  Calls Tryz.prog 159 #[.agg #[.int .i64 k,.string nm,.int .i64 n,.int .i64 d,.slice ad len cap,.int .i64 a],.map (some mb),.map (some mb2)] w fun x w'=>(∃er:Int,x=.returned (.int .i64 er))∧Below w.heap.size w w':=by
 have HH:=hid (fun(w':World) (hb:Below w.heap.size w w')=>kC (w:=w') mb nm (h.below hb))
 obtain⟨L,hM,hL⟩:=h2
 have HM:=hid hM
 clear h hM
 by_cases hk:k=1
 ·subst hk
  clear hL
  go_enter Tryz.func159,Tryz.ntmps159
  go_wp2_with (go_at_call 158;refine(HH.out _ bq).mono ?_;rintro x w1 ⟨⟨b,rfl⟩,rfl⟩;cases b)
  all_goals (go_ret;exact⟨⟨_,rfl⟩,bq⟩)
 have hk':(k == 1)=false:=ZW.2 hk
 by_cases hk2:k=2
 ·subst hk2
  obtain⟨i,hi⟩:=hL nm
  cases hg:YT nm L with
  | none =>
   have HG:=hid hg
   clear hk hL hi hg
   go_enter Tryz.func159,Tryz.ntmps159
   go_wp2_with (at_lookup;refine Y4 E4 _ rfl _ _ rfl mb2 L nm rfl rfl (HM.out.below bq) HG.out ?_)
   go_ret
   exact⟨⟨_,rfl⟩,bq⟩
  | some v =>
   rw[hg] at hi
   have hi:v=.int .i64 i:=hi
   subst hi
   have HG:=hid hg
   clear hk hL hg
   go_enter Tryz.func159,Tryz.ntmps159
   go_wp2_with (at_lookup;refine Xy E4 _ rfl _ _ rfl mb2 L nm _ rfl rfl (HM.out.below bq) HG.out ?_)
   all_goals (go_ret;exact⟨⟨_,rfl⟩,bq⟩)
 have hk2':(k == 2)=false:=ZW.2 hk2
 clear hk hk2 hL
 go_enter Tryz.func159,Tryz.ntmps159
 go_wp2
 go_ret
 exact⟨⟨0,rfl⟩,bq⟩
def uF (W0:World) (mb len:Nat) (v:Value) (wr:World):Prop:=∃i:Nat,v=.int .i64 (i:Int)∧i≤len∧CI wr mb∧Upon mb W0 wr
theorem EF {w:World} (nodes:List ND) (ins:List IN) (flows:List FL) (outs:List OU) (an ai af ao:Option Addr) (cn ci cf co:Nat) (hp:AP w ⟨nodes,ins,flows,outs⟩ an ai af ao cn ci cf co) :
  Calls Tryz.prog 142 #[pv ⟨nodes,ins,flows,outs⟩ an ai af ao cn ci cf co] w fun x w'=>X8 x∧Below w.heap.size w w':=by
 have HI:=hid hp.ins
 have HF:=hid hp.flows
 have HN:=hid hp.nodes
 have hcap:=hp.caps
 simp only at hcap
 have hil:ins.length≤9223372036854775807:=oq
 have hfl:flows.length≤9223372036854775807:=oq
 have hnl:nodes.length≤9223372036854775807:=oq
 have HC:=hid hcap.2.2.1
 clear hp hcap
 unfold pv X8
 simp only
 have hmk:=fun w=>run_makeMap (P:=Tryz.prog) 257 w
 have hmk2:=fun w=>run_makeMap (P:=Tryz.prog) 159 w
 have HWI:=hid (fun w=>X0 (w:=w) af flows.length cf)
 refine(Zs (n:=6)).1 ?_
 refine callsIn_of_wp_marks Tryz.func142 rfl trivial ?_ rfl
 simp only[Tryz.ntmps142,ZH,Zp,Zv,Nat.reduceAdd,Nat.reduceSub,ZE,ZD,ZK,ZI,ZL,ZB]
 gi_wp2_with fail
 have bP:XS (((((((w.alloc (.cells #[.slice an nodes.length cn,.slice ai ins.length ci,.slice af flows.length cf,.slice ao outs.length co] 27)).alloc (.cells #[.int .i64 0] 3)).alloc (.cells #[.int .i64 0] 38)).alloc (.map #[] 0)).alloc (.map #[] 0)).alloc (.cells #[.map (some (w.heap.size+1+1+1))] 257)).alloc (.cells #[.map (some (w.heap.size+1+1+1+1))] 159)) w.heap.size ⟨nodes,ins,flows,outs⟩ an ai af ao cn ci cf co:=((Za _ _ _ oq).trans ((Za _ _ _ oq).trans ((Za _ _ _ oq).trans ((Za _ _ _ oq).trans ((Za _ _ _ oq).trans ((Za _ _ _ oq).trans (Yt w _)))))))
 have bA:Boxed (((((((w.alloc (.cells #[.slice an nodes.length cn,.slice ai ins.length ci,.slice af flows.length cf,.slice ao outs.length co] 27)).alloc (.cells #[.int .i64 0] 3)).alloc (.cells #[.int .i64 0] 38)).alloc (.map #[] 0)).alloc (.map #[] 0)).alloc (.cells #[.map (some (w.heap.size+1+1+1))] 257)).alloc (.cells #[.map (some (w.heap.size+1+1+1+1))] 159)) (w.heap.size+1) 3 (.int .i64 0):=by
  have h:=((((((Boxed.new (w.alloc (.cells #[.slice an nodes.length cn,.slice ai ins.length ci,.slice af flows.length cf,.slice ao outs.length co] 27)) 3 (.int .i64 0)).alloc (.cells #[.int .i64 0] 38)).alloc (.map #[] 0)).alloc (.map #[] 0)).alloc (.cells #[.map (some (w.heap.size+1+1+1))] 257)).alloc (.cells #[.map (some (w.heap.size+1+1+1+1))] 159))
  simp only[Zt] at h
  exact h
 have bE:Boxed (((((((w.alloc (.cells #[.slice an nodes.length cn,.slice ai ins.length ci,.slice af flows.length cf,.slice ao outs.length co] 27)).alloc (.cells #[.int .i64 0] 3)).alloc (.cells #[.int .i64 0] 38)).alloc (.map #[] 0)).alloc (.map #[] 0)).alloc (.cells #[.map (some (w.heap.size+1+1+1))] 257)).alloc (.cells #[.map (some (w.heap.size+1+1+1+1))] 159)) (w.heap.size+1+1) 38 (.int .i64 0):=by
  have h:=(((((Boxed.new ((w.alloc (.cells #[.slice an nodes.length cn,.slice ai ins.length ci,.slice af flows.length cf,.slice ao outs.length co] 27)).alloc (.cells #[.int .i64 0] 3)) 38 (.int .i64 0)).alloc (.map #[] 0)).alloc (.map #[] 0)).alloc (.cells #[.map (some (w.heap.size+1+1+1))] 257)).alloc (.cells #[.map (some (w.heap.size+1+1+1+1))] 159))
  simp only[Zt] at h
  exact h
 have hC0:CI (((((((w.alloc (.cells #[.slice an nodes.length cn,.slice ai ins.length ci,.slice af flows.length cf,.slice ao outs.length co] 27)).alloc (.cells #[.int .i64 0] 3)).alloc (.cells #[.int .i64 0] 38)).alloc (.map #[] 0)).alloc (.map #[] 0)).alloc (.cells #[.map (some (w.heap.size+1+1+1))] 257)).alloc (.cells #[.map (some (w.heap.size+1+1+1+1))] 159)) (w.heap.size+1+1+1):=by
  have h:=(CI.new (((w.alloc (.cells #[.slice an nodes.length cn,.slice ai ins.length ci,.slice af flows.length cf,.slice ao outs.length co] 27)).alloc (.cells #[.int .i64 0] 3)).alloc (.cells #[.int .i64 0] 38))).below ((((Zg _ _).alloc (Zc _) (.map #[] 0)).alloc oq (.cells #[.map (some (w.heap.size+1+1+1))] 257)).alloc oq (.cells #[.map (some (w.heap.size+1+1+1+1))] 159))
  simp only[Zt] at h
  exact h
 have hD0:CI (((((((w.alloc (.cells #[.slice an nodes.length cn,.slice ai ins.length ci,.slice af flows.length cf,.slice ao outs.length co] 27)).alloc (.cells #[.int .i64 0] 3)).alloc (.cells #[.int .i64 0] 38)).alloc (.map #[] 0)).alloc (.map #[] 0)).alloc (.cells #[.map (some (w.heap.size+1+1+1))] 257)).alloc (.cells #[.map (some (w.heap.size+1+1+1+1))] 159)) (w.heap.size+1+1+1+1):=by
  have h:=(CI.new ((((w.alloc (.cells #[.slice an nodes.length cn,.slice ai ins.length ci,.slice af flows.length cf,.slice ao outs.length co] 27)).alloc (.cells #[.int .i64 0] 3)).alloc (.cells #[.int .i64 0] 38)).alloc (.map #[] 0))).below (((Zg _ _).alloc (Zc _) (.cells #[.map (some (w.heap.size+1+1+1))] 257)).alloc oq (.cells #[.map (some (w.heap.size+1+1+1+1))] 159))
  simp only[Zt] at h
  exact h
 have bM:Boxed (((((((w.alloc (.cells #[.slice an nodes.length cn,.slice ai ins.length ci,.slice af flows.length cf,.slice ao outs.length co] 27)).alloc (.cells #[.int .i64 0] 3)).alloc (.cells #[.int .i64 0] 38)).alloc (.map #[] 0)).alloc (.map #[] 0)).alloc (.cells #[.map (some (w.heap.size+1+1+1))] 257)).alloc (.cells #[.map (some (w.heap.size+1+1+1+1))] 159)) (w.heap.size+1+1+1+1+1) 257 (.map (some (w.heap.size+1+1+1))):=by
  have h:=((Boxed.new (((((w.alloc (.cells #[.slice an nodes.length cn,.slice ai ins.length ci,.slice af flows.length cf,.slice ao outs.length co] 27)).alloc (.cells #[.int .i64 0] 3)).alloc (.cells #[.int .i64 0] 38)).alloc (.map #[] 0)).alloc (.map #[] 0)) 257 (.map (some (w.heap.size+1+1+1)))).alloc (.cells #[.map (some (w.heap.size+1+1+1+1))] 159))
  simp only[Zt] at h
  exact h
 have bN:Boxed (((((((w.alloc (.cells #[.slice an nodes.length cn,.slice ai ins.length ci,.slice af flows.length cf,.slice ao outs.length co] 27)).alloc (.cells #[.int .i64 0] 3)).alloc (.cells #[.int .i64 0] 38)).alloc (.map #[] 0)).alloc (.map #[] 0)).alloc (.cells #[.map (some (w.heap.size+1+1+1))] 257)).alloc (.cells #[.map (some (w.heap.size+1+1+1+1))] 159)) (w.heap.size+1+1+1+1+1+1) 159 (.map (some (w.heap.size+1+1+1+1))):=by
  have h:=(Boxed.new ((((((w.alloc (.cells #[.slice an nodes.length cn,.slice ai ins.length ci,.slice af flows.length cf,.slice ao outs.length co] 27)).alloc (.cells #[.int .i64 0] 3)).alloc (.cells #[.int .i64 0] 38)).alloc (.map #[] 0)).alloc (.map #[] 0)).alloc (.cells #[.map (some (w.heap.size+1+1+1))] 257)) 159 (.map (some (w.heap.size+1+1+1+1))))
  simp only[Zt] at h
  exact h
 have hB0:Below w.heap.size w (((((((w.alloc (.cells #[.slice an nodes.length cn,.slice ai ins.length ci,.slice af flows.length cf,.slice ao outs.length co] 27)).alloc (.cells #[.int .i64 0] 3)).alloc (.cells #[.int .i64 0] 38)).alloc (.map #[] 0)).alloc (.map #[] 0)).alloc (.cells #[.map (some (w.heap.size+1+1+1))] 257)).alloc (.cells #[.map (some (w.heap.size+1+1+1+1))] 159)):=bq
 have hsz:(((((((w.alloc (.cells #[.slice an nodes.length cn,.slice ai ins.length ci,.slice af flows.length cf,.slice ao outs.length co] 27)).alloc (.cells #[.int .i64 0] 3)).alloc (.cells #[.int .i64 0] 38)).alloc (.map #[] 0)).alloc (.map #[] 0)).alloc (.cells #[.map (some (w.heap.size+1+1+1))] 257)).alloc (.cells #[.map (some (w.heap.size+1+1+1+1))] 159)).heap.size=w.heap.size+7:=by simp
 obtain⟨W0,hW0⟩:∃W0,(((((((w.alloc (.cells #[.slice an nodes.length cn,.slice ai ins.length ci,.slice af flows.length cf,.slice ao outs.length co] 27)).alloc (.cells #[.int .i64 0] 3)).alloc (.cells #[.int .i64 0] 38)).alloc (.map #[] 0)).alloc (.map #[] 0)).alloc (.cells #[.map (some (w.heap.size+1+1+1))] 257)).alloc (.cells #[.map (some (w.heap.size+1+1+1+1))] 159))=W0:=⟨_,rfl⟩
 rw[hW0] at bP bA bE bM bN hB0 hsz hC0 hD0 ⊢
 clear hW0
 have BP:=hid bP
 have BA:=hid bA
 have BE:=hid bE
 have BM:=hid bM
 have BN:=hid bN
 have HB0:=hid hB0
 have HD0:=hid hD0
 clear bP bA bE bM bN hB0 hD0
 gi_loopw [19] (fun v wr=>Hid (uF W0 (w.heap.size+1+1+1) ins.length v wr)) (fun i _=>ins.length-(intOf i).toNat)
 case atStart=>exact⟨0,rfl,Zk _,hC0,Upon.refl _ _⟩
 clear hC0
 obtain⟨i,rfl,hi,hci,hup⟩:=hrel.out
 clear hrel
 have HUP:=hid hup
 have hszr:=hup.size
 have hbel:=HB0.out.trans (hup.below (B:=w.heap.size) oq oq)
 have HBEL:=hid hbel
 have bM1:Boxed wr (w.heap.size+1+1+1+1+1) 257 (.map (some (w.heap.size+1+1+1))):=(hup.block _ oq oq).trans BM.out
 have cM:=bM1.cell
 have l5:w.heap.size+1+1+1+1+1<wr.heap.size:=oq
 have l0:w.heap.size<wr.heap.size:=oq
 have hpb:=(hup.block _ oq oq).trans BP.out
 unfold XS at hpb
 simp only at hpb
 obtain⟨⟨x0,x1,x2,x3⟩,xf⟩:=Yu hpb
 have HCI:=hid hci
 obtain⟨L,hM,hL⟩:=hci
 have HM:=hid hM
 have HL:=hid hL
 clear hup hM hL hpb
 by_cases hlt:i<ins.length
 ·skip
  obtain⟨bb,oo,rfl,hbb0,hin0⟩:=HI.out.at hlt
  have hin:=KM w wr bb _ _ hbel hbb0 hin0
  have hbb:bb<wr.heap.size:=oq
  obtain⟨x,hx⟩:∃x,ins[i]=x:=⟨_,rfl⟩
  rw[hx] at hin
  obtain⟨nm,per,ph,fa⟩:=x
  obtain⟨y0,y1,y2,y3,hfn⟩:=hin
  simp only at y0 y1 y2 y3
  obtain⟨iv,hiv⟩:=HL.out nm
  have HG:=hid hiv
  have HPT:=hid (fun j=>Kv HL.out nm j)
  have hie:(i:Int)<(ins.length:Int):=oq
  clear hbel hin0 hx hbb0 hiv
  gi_wp2_with (first|(gi_at_lookup;refine J2 XU _ rfl _ _ rfl (w.heap.size+1+1+1) L nm _ rfl rfl (HM.out.below bq) HG.out ?_)|(gi_at_mapUpdate;refine Jb XU _ rfl _ _ _ rfl (w.heap.size+1+1+1) L nm _ rfl rfl rfl (HM.out.below bq) ?_;intro arr clock hm2))
  refine⟨⟨i+1,by go_num,oq,⟨_,hm2,HPT.out _⟩,HUP.out.trans (YI ((Upon.refl _ _).alloc _) _)⟩,by simp[intOf];omega⟩
 have hie':decide ((i:Int)<(ins.length:Int))=false:=ZX oq
 clear hbel
 obtain⟨i1,rfl⟩:∃i1:Nat,i1=i:=⟨_,rfl⟩
 gi_wp2_with fail
 gi_loopw [32] (fun v wr=>Hid (uF W0 (w.heap.size+1+1+1) flows.length v wr)) (fun i _=>flows.length-(intOf i).toNat)
 case atStart=>exact⟨0,rfl,Zk _,HCI.out,HUP.out⟩
 clear HUP HBEL hszr bM1 cM l5 l0 x0 x1 x2 x3 xf HM HL hie' hlt HCI
 obtain⟨i,rfl,hi,hci,hup⟩:=hrel.out
 clear hrel
 have HUP:=hid hup
 have hszr:=hup.size
 have hbel:=HB0.out.trans (hup.below (B:=w.heap.size) oq oq)
 have HBEL:=hid hbel
 have bM1:Boxed wr (w.heap.size+1+1+1+1+1) 257 (.map (some (w.heap.size+1+1+1))):=(hup.block _ oq oq).trans BM.out
 have cM:=bM1.cell
 have l5:w.heap.size+1+1+1+1+1<wr.heap.size:=oq
 have l0:w.heap.size<wr.heap.size:=oq
 have hpb:=(hup.block _ oq oq).trans BP.out
 unfold XS at hpb
 simp only at hpb
 obtain⟨⟨x0,x1,x2,x3⟩,xf⟩:=Yu hpb
 have HCI:=hid hci
 obtain⟨L,hM,hL⟩:=hci
 have HM:=hid hM
 have HL:=hid hL
 clear hup hM hL hpb
 by_cases hlt:i<flows.length
 ·skip
  obtain⟨bb,oo,rfl,hbb0,hin0⟩:=HF.out.at hlt
  have hin:=JI w wr bb _ _ hbel hbb0 hin0
  have hbb:bb<wr.heap.size:=oq
  obtain⟨x,hx⟩:∃x,flows[i]=x:=⟨_,rfl⟩
  rw[hx] at hin
  obtain⟨nm,⟨k1,nm1,n1,d1,args1,a1⟩,fa⟩:=x
  obtain⟨ad,cap,y0,y1,y2,y3,y4,y5,y6,y7,hae,hfn⟩:=hin.cells
  obtain⟨iv,hiv⟩:=HL.out nm
  have HG:=hid hiv
  have HPT:=hid (fun j=>Kv HL.out nm j)
  have hie:(i:Int)<(flows.length:Int):=oq
  clear hbel hin0 hx hbb0 hiv
  gi_wp2_with (first|(gi_at_lookup;refine J2 XU _ rfl _ _ rfl (w.heap.size+1+1+1) L nm _ rfl rfl (HM.out.below bq) HG.out ?_)|(gi_at_mapUpdate;refine Jb XU _ rfl _ _ _ rfl (w.heap.size+1+1+1) L nm _ rfl rfl rfl (HM.out.below bq) ?_;intro arr clock hm2))
  refine⟨⟨i+1,by go_num,oq,⟨_,hm2,HPT.out _⟩,HUP.out.trans (YI ((Upon.refl _ _).alloc _) _)⟩,by simp[intOf];omega⟩
 have hie':decide ((i:Int)<(flows.length:Int))=false:=ZX oq
 have hD2:=hid (HD0.out.upon HUP.out oq)
 have bP2:=hid (show XS wr w.heap.size ⟨nodes,ins,flows,outs⟩ an ai af ao cn ci cf co from(HUP.out.block _ oq oq).trans BP.out)
 have bN2:=hid (show Boxed wr (w.heap.size+1+1+1+1+1+1) 159 (.map (some (w.heap.size+1+1+1+1))) from(HUP.out.block _ oq oq).trans BN.out)
 have bM2:=hid bM1
 have bA2:=hid (show Boxed wr (w.heap.size+1) 3 (.int .i64 0) from(HUP.out.block _ oq oq).trans BA.out)
 have bE2:=hid (show Boxed wr (w.heap.size+1+1) 38 (.int .i64 0) from(HUP.out.block _ oq oq).trans BE.out)
 clear hbel
 obtain⟨i2,rfl⟩:∃i2:Nat,i2=i:=⟨_,rfl⟩
 gi_wp2_with fail
 obtain⟨W2,rfl⟩:∃W2:World,W2=wr:=⟨_,rfl⟩
 gi_loopw [45] (fun v wr=>Hid (uF W2 (w.heap.size+1+1+1+1) nodes.length v wr)) (fun i _=>nodes.length-(intOf i).toNat)
 case atStart=>exact⟨0,rfl,Zk _,hD2.out,Upon.refl _ _⟩
 clear HUP bM1 cM x0 x1 x2 x3 xf HM HL hie' hlt hD2
 obtain⟨i,rfl,hi,hci,hup⟩:=hrel.out
 clear hrel
 have HUP:=hid hup
 have hszr2:=hup.size
 have hbel:=HBEL.out.trans (hup.below (B:=w.heap.size) oq oq)
 have HBEL2:=hid hbel
 have bM1:Boxed wr (w.heap.size+1+1+1+1+1+1) 159 (.map (some (w.heap.size+1+1+1+1))):=(hup.block _ oq oq).trans bN2.out
 have cM:=bM1.cell
 have l5:w.heap.size+1+1+1+1+1+1<wr.heap.size:=oq
 have l0:w.heap.size<wr.heap.size:=oq
 have hpb:=(hup.block _ oq oq).trans bP2.out
 unfold XS at hpb
 simp only at hpb
 obtain⟨⟨x0,x1,x2,x3⟩,xf⟩:=Yu hpb
 have HCJ:=hid hci
 obtain⟨L,hM,hL⟩:=hci
 have HM:=hid hM
 have HL:=hid hL
 clear hup hM hL hpb
 by_cases hlt:i<nodes.length
 ·skip
  obtain⟨bb,oo,rfl,hbb0,hin0⟩:=HN.out.at hlt
  have hin:=Jw w wr bb _ _ hbel hbb0 hin0
  have hbb:bb<wr.heap.size:=oq
  obtain⟨x,hx⟩:∃x,nodes[i]=x:=⟨_,rfl⟩
  rw[hx] at hin
  obtain⟨nm,ps,bud,⟨k1,nm1,n1,d1,args1,a1⟩,fa⟩:=x
  obtain⟨pa,pc,ad,cap,y0,y1,y2,y3,y4,y5,y6,y7,y8,y9,hae,hps,hfn⟩:=hin.cells
  obtain⟨iv,hiv⟩:=HL.out nm
  have HG:=hid hiv
  have HPT:=hid (fun j=>Kv HL.out nm j)
  have hie:(i:Int)<(nodes.length:Int):=oq
  clear hbel hin0 hx hbb0 hiv
  gi_wp2_with ((gi_at_mapUpdate;refine Jb E4 _ rfl _ _ _ rfl (w.heap.size+1+1+1+1) L nm _ rfl rfl rfl (HM.out.below bq) ?_;intro arr clock hm2))
  refine⟨⟨i+1,by go_num,oq,⟨_,hm2,HPT.out _⟩,HUP.out.trans (YI ((Upon.refl _ _).alloc _) _)⟩,by simp[intOf];omega⟩
 have hie':decide ((i:Int)<(nodes.length:Int))=false:=ZX oq
 have hC3:=hid (HCI.out.upon HUP.out oq)
 have hA3:Boxed wr (w.heap.size+1) 3 (.int .i64 0):=(HUP.out.block _ oq oq).trans bA2.out
 have hE3:Boxed wr (w.heap.size+1+1) 38 (.int .i64 0):=(HUP.out.block _ oq oq).trans bE2.out
 have hM3:Boxed wr (w.heap.size+1+1+1+1+1) 257 (.map (some (w.heap.size+1+1+1))):=(HUP.out.block _ oq oq).trans bM2.out
 have hN3:=bM1
 clear hbel
 gi_wp2_with (refine⟨trivial,?_⟩;gi_at_call 71;refine(Zs.2 (HWI.out _)).mono ?_;rintro e w' ⟨rfl,rfl⟩)
 have bS:=Boxed.new wr 24 (.slice af flows.length cf)
 have hB1:Below wr.heap.size wr (wr.alloc (.cells #[.slice af flows.length cf] 24)):=(Zg _ _).alloc (Zc _) _
 have hsz1:(wr.alloc (.cells #[.slice af flows.length cf] 24)).heap.size=wr.heap.size+1:=by simp
 have hC4:=hC3.out
 have hD4:=HCJ.out
 obtain⟨W1,hW1⟩:∃W1,wr.alloc (.cells #[.slice af flows.length cf] 24)=W1:=⟨_,rfl⟩
 rw[hW1] at bS hB1 hsz1 ⊢
 clear hW1
 have hw1:Below w.heap.size w W1:=HBEL2.out.trans (hB1.mono oq)
 have hA5:Boxed W1 (w.heap.size+1) 3 (.int .i64 0):=(hB1.block _ oq).trans hA3
 have hE5:Boxed W1 (w.heap.size+1+1) 38 (.int .i64 0):=(hB1.block _ oq).trans hE3
 have HX:=hid (show ∀W,Below W1.heap.size W1 W→Boxed W (w.heap.size+1+1+1+1+1) 257 (.map (some (w.heap.size+1+1+1)))∧Boxed W (w.heap.size+1+1+1+1+1+1) 159 (.map (some (w.heap.size+1+1+1+1)))∧Boxed W (w.heap.size+1) 3 (.int .i64 0)∧Boxed W (w.heap.size+1+1) 38 (.int .i64 0)∧CI W (w.heap.size+1+1+1)∧CI W (w.heap.size+1+1+1+1)∧Below w.heap.size w W from by
  intro W hW
  have h1:Below wr.heap.size wr W:=hB1.trans (hW.mono oq)
  exact⟨(h1.block _ oq).trans hM3,(h1.block _ oq).trans hN3,(h1.block _ oq).trans hA3,(h1.block _ oq).trans hE3,hC4.below h1,hD4.below h1,HBEL2.out.trans (h1.mono oq)⟩)
 have HWL:=hid hw1
 have hszw:w.heap.size≤W1.heap.size:=oq
 clear hN3 hA3 hE3 hM3 hC3 hC4 hD4 hB1 HM HL HCI HCJ bM1 cM
 refine wpIn_rangeFunc_ownH (encs:=fun x:VX w=>#[.agg #[.int .i64 x.e.k,.string x.e.nm,.int .i64 x.e.n,.int .i64 x.e.d,.slice x.ad x.e.args.len x.cap,.int .i64 x.e.a]]) rfl oq (gf:=114) (lb:=#[.pointer (some ⟨wr.heap.size,0,none⟩)]) rfl trivial (enters_of Tryz.func114 kq rfl)
  (Uk (W0:=w) Fence.wide rfl trivial trivial rfl _ wr.heap.size flows af cf HF.out HC.out.1 HC.out.2 W1 oq HWL.out bS.cell) (fun h k=>h.trans k) (fun W l o o' hl h hc _=>KC.putObj W l o o' oq h hc) (Zg _ _) (fun _=>rfl)
  (fun pre W=>Below W1.heap.size W1 W)
  (fun c pre W=>∃a er,((Boxed W (w.heap.size+1) 3 (.int .i64 a)∧Boxed W (w.heap.size+1+1) 38 (.int .i64 er))∧Below w.heap.size w W)∧c=.ret)
  (ownFrom_below (Zc _) (Zc _))
  (fun c s X Y row hs hg hrw=>by
   obtain⟨a,er,⟨⟨h1,h2⟩,h3⟩,h4⟩:=hs
   exact⟨a,er,⟨⟨boxed_own _ _ (fun(_:Unit)=>Value.int .i64 a) () X Y row h1 hg (fun r e=>(hrw r e).2),boxed_own _ _ (fun(_:Unit)=>Value.int .i64 er) () X Y row h2 hg (fun r e=>(hrw r e).2)⟩,ownFrom_below (β:=Unit) (Zc _) hszw () X Y row h3 hg hrw⟩,h4⟩)
  (Zg _ _)
  (fun x a' W=>∃Bx,W1.heap.size≤Bx∧W.heap[Bx]?=some (.cells #[.int .i64 x.e.k,.string x.e.nm,.int .i64 x.e.n,.int .i64 x.e.d,.slice x.ad x.e.args.len x.cap,.int .i64 x.e.a] 92 (0,0)) ∧
   a'={ tmps:=#[.agg #[.slice an nodes.length cn,.slice ai ins.length ci,.slice af flows.length cf,.slice ao outs.length co],.pointer (some ⟨w.heap.size,0,none⟩),.pointer (some ⟨w.heap.size+1,0,none⟩),.pointer (some ⟨w.heap.size+1+1,0,none⟩),.pointer (some ⟨w.heap.size+1+1+1+1+1,0,none⟩),.pointer (some ⟨w.heap.size+1+1+1+1+1+1,0,none⟩),undef,u7,undef,u9,undef,u11,.pointer (some ⟨Bx,0,none⟩),undef,.map (some (w.heap.size+1+1+1)),.map (some (w.heap.size+1+1+1+1)),.pointer (some ⟨w.heap.size,1,none⟩),.slice ai ins.length ci,.int .i64 (ins.length:Int),.int .i64 (i1:Int),.bool false,u21,u22,u23,u24,u25,u26,u27,u28,.pointer (some ⟨w.heap.size,2,none⟩),.slice af flows.length cf,.int .i64 (flows.length:Int),.int .i64 (i2:Int),.bool false,u34,u35,u36,u37,u38,u39,u40,u41,.pointer (some ⟨w.heap.size,0,none⟩),.slice an nodes.length cn,.int .i64 (nodes.length:Int),.int .i64 (i:Int),.bool false,u47,u48,u49,u50,u51,u52,u53,u54,u55,.pointer (some ⟨w.heap.size,2,none⟩),.slice af flows.length cf,.func (.func 114) #[] #[.pointer (some ⟨wr.heap.size,0,none⟩)],.agg #[.int .i64 x.e.k,.string x.e.nm,.int .i64 x.e.n,.int .i64 x.e.d,.slice x.ad x.e.args.len x.cap,.int .i64 x.e.a],undef,undef,undef,undef,undef,undef,undef,undef,undef],defers:=[] })
  (fun x a' _ X Y row hs hg hrw=>by
   obtain⟨Bx,h1,h2,h3⟩:=hs
   refine⟨Bx,h1,(hg.block Bx (Zq.1 h2).1 (fun e=>?_)).trans h2,h3⟩
   obtain⟨_,o,ho,hc⟩:=hrw Bx e.symm
   rw[h2] at ho;cases ho;cases hc)
  ?assign ?body ?done ?stop
 case assign =>
  rintro l pre x W K hBW hK
  gi_wp2
  exact hK _ _ ((KeepsOthers.alloc _ _).from _) ((KC.refl _ W).alloc (Zm hszw hBW.size) _) (hBW.alloc hBW.size _) ⟨W.heap.size,hBW.size,Yt W _,rfl⟩
 case body =>
  rintro l pre ⟨⟨k1,nm1,n1,d1,args1,a1⟩,ad1,cap1,hok⟩ a' W hl ⟨r,hr⟩ hBW ⟨Bx,hBx,hxb,rfl⟩ hlt
  simp only at hxb
  obtain⟨bM2,bN2,bA2,bE2,hcm2,hm2,hbw2⟩:=HX.out W hBW
  have cM:=bM2.cell
  have cN:=bN2.cell
  obtain⟨⟨x0,x1,x2,x3,x4,x5⟩,xf⟩:=Y0 hxb
  have hsW:=hBW.size
  have HCC:=hid (zD (w:=W) (w.heap.size+1+1+1) (w.heap.size+1+1+1+1) k1 n1 d1 a1 nm1 ad1 args1.len cap1 hcm2 hm2)
  have HBW:=hid hBW
  clear hcm2 hm2 hBW
  gi_wp2_with (refine⟨trivial,?_⟩;gi_at_call 159;refine(CallsIn.inRound l (Zs.2 HCC.out)).mono ?_;rintro e w2 ⟨⟨er,rfl⟩,hb2⟩;have bA3:Boxed w2 (w.heap.size+1) 3 (.int .i64 0):=(hb2.block _ bA2.lt).trans bA2;have bE3:Boxed w2 (w.heap.size+1+1) 38 (.int .i64 0):=(hb2.block _ bE2.lt).trans bE2;have cA3:=bA3.cell;have fA3:=bA3.frozen;have cE3:=bE3.cell;have fE3:=bE3.frozen;have bX3:=(hb2.block _ (Zb hxb)).trans hxb;obtain⟨⟨v0,v1,v2,v3,v4,v5⟩,vf⟩:=Y0 bX3;clear x0 x1 x2 x3 x4 x5 xf)
  ·exact⟨(show KeepsFrom W1.heap.size W w2 from ⟨hb2.size,fun k o _ hk _=>(hb2.block k (Zb hk)).trans hk⟩).trans (((KeepsOthers.setCell _ _ _).trans (KeepsOthers.setCell _ _ _)).from _),a1,er,⟨⟨(bA3.set _).other oq _,(bE3.other oq _).set _⟩,((hbw2.trans (hb2.mono oq)).setCell (p:=⟨w.heap.size+1,0,none⟩) (by simp) _).setCell (p:=⟨w.heap.size+1+1,0,none⟩) (by simp;omega) _⟩,rfl⟩
  exact⟨⟨hb2.size,fun k o _ hk _=>(hb2.block k (Zb hk)).trans hk⟩,(KC.refl _ W).of_below hb2 (Zm hszw hsW),HBW.out.trans (hb2.mono hsW)⟩
 case done =>
  rintro D zs W hD hzs hBW hK
  obtain⟨bM2,bN2,bA1,bE1,hcm2,hm2,hB1⟩:=HX.out W hBW
  have cA:=bA1.cell
  have fA:=bA1.frozen
  have cE:=bE1.cell
  have fE:=bE1.frozen
  gi_wp2
  have hK2:((W.setCell ⟨w.heap.size+1,0,none⟩ (.int .i64 0)).setCell ⟨w.heap.size+1+1,0,none⟩ (.int .i64 0)).heap[D]?=some (.deferred (some [])):=((KeepsOthers.setCell _ _ _).trans (KeepsOthers.setCell _ _ _)).same D _ hK rfl
  refine⟨by simp,.inl ⟨_,_,rfl,run_takeDeferred hK2,?_⟩⟩
  have bA3:=(((bA1.set (.int .i64 0)).other (show w.heap.size+1≠w.heap.size+1+1 by omega) (.int .i64 0)).kept (grownBy_putObj' _ D (.deferred none)) (by intro e;injection e with e;omega)).cell
  have bE3:=(((bE1.other (show w.heap.size+1+1≠w.heap.size+1 by omega) (.int .i64 0)).set (.int .i64 0)).kept (grownBy_putObj' _ D (.deferred none)) (by intro e;injection e with e;omega)).cell
  refine⟨.tuple #[.int .i64 0,.int .i64 0],?_,?_,?_⟩
  ·simp only[results,Tryz.results142];go_simp
  ·exact⟨0,0,rfl⟩
  exact((hB1.setCell (p:=⟨w.heap.size+1,0,none⟩) (by simp) _).setCell (p:=⟨w.heap.size+1+1,0,none⟩) (by simp;omega) _).trans (KC.putObj (n₀:=w.heap.size) _ D _ _ oq hK2 rfl).below
 rintro D c pre W hD hpre ⟨a,er,⟨⟨bA1,bE1⟩,hB1⟩,rfl⟩ hK
 have cA:=bA1.cell
 have fA:=bA1.frozen
 have cE:=bE1.cell
 have fE:=bE1.frozen
 gi_wp2
 refine⟨by simp,.inl ⟨_,_,rfl,run_takeDeferred hK,?_⟩⟩
 have bA3:=(bA1.kept (grownBy_putObj' _ D (.deferred none)) (by intro e;injection e with e;omega)).cell
 have bE3:=(bE1.kept (grownBy_putObj' _ D (.deferred none)) (by intro e;injection e with e;omega)).cell
 refine⟨.tuple #[.int .i64 a,.int .i64 er],?_,?_,?_⟩
 ·simp only[results,Tryz.results142];go_simp
 ·exact⟨a,er,rfl⟩
 exact hB1.trans (KC.putObj (n₀:=w.heap.size) _ D _ _ oq hK rfl).below
end Go.Proofs.YtlhlcdjiafdoeaaGreatDoor.syn
