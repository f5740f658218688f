/- Parts of the proof. -/
import Derived.Test.YtlhlcdjiafdoeaaGreatDoorV09
import Derived.Test.YtlhlcdjiafdoeaaGreatDoorV11
set_option linter.all false
set_option maxRecDepth 100000
set_option maxHeartbeats 16000000
namespace Go.Proofs.YtlhlcdjiafdoeaaGreatDoor.syn
open Go.RowKit
theorem ZbT:∀(l:PL) (n most:Int),1≤n→n≤most+1→szL l n most≤most→szL l n most=n+(l.sz:Int):=by
 intro l
 induction l with
 | nil=>intro n most h1 h2 h3;simp only[szL,PL.sz];omega
 | cons k nm n' d args a tl ih1 ih2 =>
  intro n most h1 h2 h3
  rw[szL] at h3 ⊢
  by_cases h:n≤most
  ·rw[Z0 h] at h3 ⊢
   have b1:=Gw args 1 (most-n) oq oq
   have b2:=Gw tl (n+szL args 1 (most-n)) most oq oq
   have e1:=ih1 1 (most-n) oq oq oq
   have e2:=ih2 (n+szL args 1 (most-n)) most oq oq h3
   rw[e2,e1]
   simp only[PL.sz];omega
  rw[ZZ h] at h3;omega
def xB (p:PG):Prop:=p.nodes.length≤140737488351232∧p.ins.length≤140737488351232∧p.flows.length≤140737488351232∧p.outs.length≤140737488351232
structure Vs (p:PG):Prop where
 lens:p.nodes.length+p.ins.length+p.flows.length+p.outs.length≤40
 nodes:∀x∈p.nodes,szL x.body.args 1 100≤100∧x.ps.length≤6∧1≤x.ps.length∧inB x.bud 1 1000=true∧JG x.body=true
 flows:∀x∈p.flows,szL x.e.args 1 100≤100∧YF x.e=true
 ins:∀x∈p.ins,inB x.per 1 1000=true∧inB x.ph 0 1000=true
 outs:∀x∈p.outs,inB x.dl 1 1000=true
def uK (p:PG) (x:Ending):Prop:=∃b:Bool,x=.returned (.bool b)∧(b=true→Vs p)
theorem Xa {w:World} {b:Nat} {v0 v1 v2 v3 v4 v5 v6 v7 v8 v9:Value} {t:TypeId} (h:w.heap[b]?=some (.cells #[v0,v1,v2,v3,v4,v5,v6,v7,v8,v9] t (0,0))) :
  (w.cell? ⟨b,0,none⟩=some v0∧w.cell? ⟨b,1,none⟩=some v1∧w.cell? ⟨b,2,none⟩=some v2∧w.cell? ⟨b,3,none⟩=some v3∧w.cell? ⟨b,4,none⟩=some v4∧w.cell? ⟨b,5,none⟩=some v5∧w.cell? ⟨b,6,none⟩=some v6∧w.cell? ⟨b,7,none⟩=some v7∧w.cell? ⟨b,8,none⟩=some v8∧w.cell? ⟨b,9,none⟩=some v9)∧∀o,w.frozen? ⟨b,o,none⟩=false:=by
 refine⟨⟨?_,?_,?_,?_,?_,?_,?_,?_,?_,?_⟩,?_⟩
 all_goals first|(intro o;simp[World.frozen?,h])|simp[World.cell?,h]
theorem Qb {w:World} {b:Nat} {v0 v1 v2 v3 v4 v5 v6 v7:Value} {t:TypeId} (h:w.heap[b]?=some (.cells #[v0,v1,v2,v3,v4,v5,v6,v7] t (0,0))) :
  (w.cell? ⟨b,0,none⟩=some v0∧w.cell? ⟨b,1,none⟩=some v1∧w.cell? ⟨b,2,none⟩=some v2∧w.cell? ⟨b,3,none⟩=some v3∧w.cell? ⟨b,4,none⟩=some v4∧w.cell? ⟨b,5,none⟩=some v5∧w.cell? ⟨b,6,none⟩=some v6∧w.cell? ⟨b,7,none⟩=some v7)∧∀o,w.frozen? ⟨b,o,none⟩=false:=by
 refine⟨⟨?_,?_,?_,?_,?_,?_,?_,?_⟩,?_⟩
 all_goals first|(intro o;simp[World.frozen?,h])|simp[World.cell?,h]
def jg (w:World) (p:PG) (an ai af ao:Option Addr) (cn ci cf co:Nat) (len:Nat) (S:Nat→Prop) (v:Value) (wr:World):Prop :=
 ∃i:Nat,v=.int .i64 (i:Int)∧i≤len∧XS wr w.heap.size p an ai af ao cn ci cf co∧Below w.heap.size w wr∧S i
def Zcm (w W:World) (len:Nat) (v:Value) (wr:World):Prop:=∃k:Nat,v=.int .i64 (k:Int)∧k≤len∧Below W.heap.size W wr
theorem OuC.later {w wr:World} {b o:Nat} {f:OU} (h:OuC w b o f) (hb:Below w.heap.size w wr) (hlt:b<w.heap.size):OuC wr b o f:=yH w wr b o f hb hlt h
theorem VP {α:Type} {l:List α} {P:α→Prop} (h:∀j (hj:j<l.length),j<l.length→P l[j]):∀x∈l,P x:=by
 intro x hx
 obtain⟨j,hj,rfl⟩:=Yj hx
 exact h j hj hj
theorem Vd {α:Type} {l:List α} {P:α→Prop} {i:Nat} (h:∀j (hj:j<l.length),j<i→P l[j]) {x:α} (hi:∀hj:i<l.length,l[i]=x) (hx:P x):∀j (hj:j<l.length),j<i+1→P l[j]:=by
 intro j hj hji
 by_cases h1:j<i
 ·exact h j hj h1
 have:j=i:=oq
 subst this
 rw[hi hj];exact hx
theorem gy {w:World} (p:PG) (an ai af ao:Option Addr) (cn ci cf co:Nat) (hp:AP w p an ai af ao cn ci cf co) (hsm:xB p) :
  Calls Tryz.prog 15 #[pv p an ai af ao cn ci cf co] w fun x w'=>uK p x∧Below w.heap.size w w':=by
 obtain⟨nodes,ins,flows,outs⟩:=p
 have HN:=hid hp.nodes
 have HI:=hid hp.ins
 have HF:=hid hp.flows
 have HO:=hid hp.outs
 have hcap:=hp.caps
 simp only at hcap
 obtain⟨hsm1,hsm2,hsm3,hsm4⟩:=hsm
 simp only at hsm1 hsm2 hsm3 hsm4
 clear hp
 unfold pv
 simp only
 by_cases hsum:nodes.length+ins.length+flows.length+outs.length≤40
 ·have hsi:¬((40:Int)<(nodes.length:Int)+(ins.length:Int)+(flows.length:Int)+(outs.length:Int)):=oq
  have hsi':(nodes.length:Int)+(ins.length:Int)+(flows.length:Int)+(outs.length:Int)≤40:=oq
  go_enter Tryz.func15,Tryz.ntmps15
  go_wp2
  go_loopw [3] (fun v wr=>Hid (jg w ⟨nodes,ins,flows,outs⟩ an ai af ao cn ci cf co nodes.length (fun i=>∀j (hj:j<nodes.length),j<i→(szL nodes[j].body.args 1 100≤100∧nodes[j].ps.length≤6∧1≤nodes[j].ps.length∧inB nodes[j].bud 1 1000=true∧JG nodes[j].body=true)) v wr)) (fun i _=>nodes.length-(intOf i).toNat)
  case atStart=>exact⟨0,rfl,Zk _,Yt w _,bq,fun j hj h=>absurd h oq⟩
  obtain⟨i,rfl,hi,hpb,hbel,hS⟩:=hrel.out
  clear hrel
  try simp only at hS
  unfold XS at hpb
  simp only at hpb
  obtain⟨⟨x0,x1,x2,x3⟩,xf⟩:=Yu hpb
  have HPB:=hid hpb
  have HBEL:=hid hbel
  have hplt:=Zb hpb
  have hszr:=hbel.size
  have HS:=hid hS
  clear hpb hS
  by_cases hlt:i<nodes.length
  ·obtain⟨bb,oo,rfl,hbb0,hnd0⟩:=HN.out.at hlt
   have hnd:=Jw w wr bb _ _ hbel hbb0 hnd0
   have hbb:=Zd hbb0 hszr
   obtain⟨x,hx⟩:∃x,nodes[i]=x:=⟨_,rfl⟩
   have HX:=hid hx
   rw[hx] at hnd
   obtain⟨nm,ps,bud,⟨k1,nm1,n1,d1,args1,a1⟩,fa⟩:=x
   obtain⟨pa,pc,ad,cap,y0,y1,y2,y3,y4,y5,y6,y7,y8,y9,hae,⟨hps1,hps2,hps⟩,hfn⟩:=hnd.cells
   have HA:=hid hae
   have HPS:=hid hps
   have hie:(i:Int)<(nodes.length:Int):=oq
   have HRI:=hid (fun w=>XJ nm w hfn.1)
   have HNU:=hid (fun w=>Xq bud 1 1000 w)
   have HSZ:=hid (fun w' (h:AE w' ⟨k1,nm1,n1,d1,args1,a1⟩ ad cap)=>Gq ⟨k1,nm1,n1,d1,args1,a1⟩ w' ad cap 100 h oq oq)
   have HDP:=hid (fun w' (h:AE w' ⟨k1,nm1,n1,d1,args1,a1⟩ ad cap)=>jr ⟨k1,nm1,n1,d1,args1,a1⟩ w' ad cap 30 h oq)
   have HBO:=hid (fun w' (h:AE w' ⟨k1,nm1,n1,d1,args1,a1⟩ ad cap)=>uW ⟨k1,nm1,n1,d1,args1,a1⟩ w' ad cap h)
   unfold ev at HSZ HDP HBO
   simp only at HSZ HDP HBO
   rw[show((30:Nat):Int)=30 from rfl] at HDP
   have hsb:=Gw args1 1 100 oq oq
   have hdb:=qb ⟨k1,nm1,n1,d1,args1,a1⟩ 30
   generalize hse:szL args1 1 100=se at HSZ hsb
   generalize dpE ⟨k1,nm1,n1,d1,args1,a1⟩ 30=de at HDP hdb
   have HSE:=hid hse
   clear hbel hnd hnd0 hx hae hps hfn hbb0 hse
   cases hno:Xp nm with
   | false =>
    rw[hno] at HRI
    go_wp2_with (first|(go_at_call 30;refine(HRI.out _).mono ?_;rintro e w1 ⟨rfl,hb1⟩;have s1:wr.heap.size<w1.heap.size:=Yv hb1 oq;have t1:w.heap.size<w1.heap.size:=Yv hb1 oq;have HN1:=hid ((hb1.block wr.heap.size oq).trans (Yt wr _));have HP1:=hid ((hb1.block w.heap.size oq).trans ((Za _ _ _ hplt).trans HPB.out));obtain⟨⟨n1_0,n1_1,n1_2,n1_3,n1_4,n1_5,n1_6,n1_7,n1_8,n1_9⟩,nf1⟩:=Xa HN1.out;obtain⟨⟨q1_0,q1_1,q1_2,q1_3⟩,qf1⟩:=Yu HP1.out))
    go_ret
    exact⟨⟨false,rfl,fun h=>by cases h⟩,bq⟩
   | true =>
    rw[hno] at HRI
    by_cases hp1:ps.length<1
    ·have hp1i:(ps.length:Int)<1:=oq
     go_wp2_with (first|(go_at_call 30;refine(HRI.out _).mono ?_;rintro e w1 ⟨rfl,hb1⟩;have s1:wr.heap.size<w1.heap.size:=Yv hb1 oq;have t1:w.heap.size<w1.heap.size:=Yv hb1 oq;have HN1:=hid ((hb1.block wr.heap.size oq).trans (Yt wr _));have HP1:=hid ((hb1.block w.heap.size oq).trans ((Za _ _ _ hplt).trans HPB.out));obtain⟨⟨n1_0,n1_1,n1_2,n1_3,n1_4,n1_5,n1_6,n1_7,n1_8,n1_9⟩,nf1⟩:=Xa HN1.out;obtain⟨⟨q1_0,q1_1,q1_2,q1_3⟩,qf1⟩:=Yu HP1.out))
     go_ret
     exact⟨⟨false,rfl,fun h=>by cases h⟩,bq⟩
    have hp1i:(1:Int)≤(ps.length:Int):=oq
    by_cases hp6:6<ps.length
    ·have hp6i:(6:Int)<(ps.length:Int):=oq
     go_wp2_with (first|(go_at_call 30;refine(HRI.out _).mono ?_;rintro e w1 ⟨rfl,hb1⟩;have s1:wr.heap.size<w1.heap.size:=Yv hb1 oq;have t1:w.heap.size<w1.heap.size:=Yv hb1 oq;have HN1:=hid ((hb1.block wr.heap.size oq).trans (Yt wr _));have HP1:=hid ((hb1.block w.heap.size oq).trans ((Za _ _ _ hplt).trans HPB.out));obtain⟨⟨n1_0,n1_1,n1_2,n1_3,n1_4,n1_5,n1_6,n1_7,n1_8,n1_9⟩,nf1⟩:=Xa HN1.out;obtain⟨⟨q1_0,q1_1,q1_2,q1_3⟩,qf1⟩:=Yu HP1.out))
     go_ret
     exact⟨⟨false,rfl,fun h=>by cases h⟩,bq⟩
    have hp6i:(ps.length:Int)≤6:=oq
    cases hbu:inB bud 1 1000 with
    | false =>
     rw[hbu] at HNU
     go_wp2_with (first|(go_at_call 30;refine(HRI.out _).mono ?_;rintro e w1 ⟨rfl,hb1⟩;have s1:wr.heap.size<w1.heap.size:=Yv hb1 oq;have t1:w.heap.size<w1.heap.size:=Yv hb1 oq;have HN1:=hid ((hb1.block wr.heap.size oq).trans (Yt wr _));have HP1:=hid ((hb1.block w.heap.size oq).trans ((Za _ _ _ hplt).trans HPB.out));obtain⟨⟨n1_0,n1_1,n1_2,n1_3,n1_4,n1_5,n1_6,n1_7,n1_8,n1_9⟩,nf1⟩:=Xa HN1.out;obtain⟨⟨q1_0,q1_1,q1_2,q1_3⟩,qf1⟩:=Yu HP1.out)|(go_at_call 31;with_reducible refine(HNU.out _).mono ?_;rintro e w_ ⟨rfl,rfl⟩))
     go_ret
     exact⟨⟨false,rfl,fun h=>by cases h⟩,bq⟩
    | true =>
     rw[hbu] at HNU
     by_cases hsz:(100:Int)<se
     ·go_wp2_with (first|(go_at_call 30;refine(HRI.out _).mono ?_;rintro e w1 ⟨rfl,hb1⟩;have s1:wr.heap.size<w1.heap.size:=Yv hb1 oq;have t1:w.heap.size<w1.heap.size:=Yv hb1 oq;have HN1:=hid ((hb1.block wr.heap.size oq).trans (Yt wr _));have HP1:=hid ((hb1.block w.heap.size oq).trans ((Za _ _ _ hplt).trans HPB.out));obtain⟨⟨n1_0,n1_1,n1_2,n1_3,n1_4,n1_5,n1_6,n1_7,n1_8,n1_9⟩,nf1⟩:=Xa HN1.out;obtain⟨⟨q1_0,q1_1,q1_2,q1_3⟩,qf1⟩:=Yu HP1.out)|(go_at_call 31;with_reducible refine(HNU.out _).mono ?_;rintro e w_ ⟨rfl,rfl⟩)|(go_at_call 32;refine(HSZ.out _ (HA.out.below bq)).mono ?_;rintro e w2 ⟨rfl,hb2⟩;have s2:wr.heap.size<w2.heap.size:=Yv hb2 oq;have t2:w.heap.size<w2.heap.size:=Yv hb2 oq;have HN2:=hid ((hb2.block wr.heap.size oq).trans (HN1.out));have HP2:=hid ((hb2.block w.heap.size oq).trans (HP1.out));obtain⟨⟨n2_0,n2_1,n2_2,n2_3,n2_4,n2_5,n2_6,n2_7,n2_8,n2_9⟩,nf2⟩:=Xa HN2.out;obtain⟨⟨q2_0,q2_1,q2_2,q2_3⟩,qf2⟩:=Yu HP2.out))
      go_ret
      exact⟨⟨false,rfl,fun h=>by cases h⟩,bq⟩
     have hszi:se≤100:=oq
     by_cases hdp:(20:Int)<de
     ·go_wp2_with (first|(go_at_call 30;refine(HRI.out _).mono ?_;rintro e w1 ⟨rfl,hb1⟩;have s1:wr.heap.size<w1.heap.size:=Yv hb1 oq;have t1:w.heap.size<w1.heap.size:=Yv hb1 oq;have HN1:=hid ((hb1.block wr.heap.size oq).trans (Yt wr _));have HP1:=hid ((hb1.block w.heap.size oq).trans ((Za _ _ _ hplt).trans HPB.out));obtain⟨⟨n1_0,n1_1,n1_2,n1_3,n1_4,n1_5,n1_6,n1_7,n1_8,n1_9⟩,nf1⟩:=Xa HN1.out;obtain⟨⟨q1_0,q1_1,q1_2,q1_3⟩,qf1⟩:=Yu HP1.out)|(go_at_call 31;with_reducible refine(HNU.out _).mono ?_;rintro e w_ ⟨rfl,rfl⟩)|(go_at_call 32;refine(HSZ.out _ (HA.out.below bq)).mono ?_;rintro e w2 ⟨rfl,hb2⟩;have s2:wr.heap.size<w2.heap.size:=Yv hb2 oq;have t2:w.heap.size<w2.heap.size:=Yv hb2 oq;have HN2:=hid ((hb2.block wr.heap.size oq).trans (HN1.out));have HP2:=hid ((hb2.block w.heap.size oq).trans (HP1.out));obtain⟨⟨n2_0,n2_1,n2_2,n2_3,n2_4,n2_5,n2_6,n2_7,n2_8,n2_9⟩,nf2⟩:=Xa HN2.out;obtain⟨⟨q2_0,q2_1,q2_2,q2_3⟩,qf2⟩:=Yu HP2.out)|(go_at_call 33;refine(HDP.out _ (HA.out.below bq)).mono ?_;rintro e w3 ⟨rfl,hb3⟩;have s3:wr.heap.size<w3.heap.size:=Yv hb3 oq;have t3:w.heap.size<w3.heap.size:=Yv hb3 oq;have HN3:=hid ((hb3.block wr.heap.size oq).trans (HN2.out));have HP3:=hid ((hb3.block w.heap.size oq).trans (HP2.out));obtain⟨⟨n3_0,n3_1,n3_2,n3_3,n3_4,n3_5,n3_6,n3_7,n3_8,n3_9⟩,nf3⟩:=Xa HN3.out;obtain⟨⟨q3_0,q3_1,q3_2,q3_3⟩,qf3⟩:=Yu HP3.out))
      go_ret
      exact⟨⟨false,rfl,fun h=>by cases h⟩,bq⟩
     have hdpi:de≤20:=oq
     cases hbo:JG ⟨k1,nm1,n1,d1,args1,a1⟩ with
     | false =>
      rw[hbo] at HBO
      go_wp2_with (first|(go_at_call 30;refine(HRI.out _).mono ?_;rintro e w1 ⟨rfl,hb1⟩;have s1:wr.heap.size<w1.heap.size:=Yv hb1 oq;have t1:w.heap.size<w1.heap.size:=Yv hb1 oq;have HN1:=hid ((hb1.block wr.heap.size oq).trans (Yt wr _));have HP1:=hid ((hb1.block w.heap.size oq).trans ((Za _ _ _ hplt).trans HPB.out));obtain⟨⟨n1_0,n1_1,n1_2,n1_3,n1_4,n1_5,n1_6,n1_7,n1_8,n1_9⟩,nf1⟩:=Xa HN1.out;obtain⟨⟨q1_0,q1_1,q1_2,q1_3⟩,qf1⟩:=Yu HP1.out)|(go_at_call 31;with_reducible refine(HNU.out _).mono ?_;rintro e w_ ⟨rfl,rfl⟩)|(go_at_call 32;refine(HSZ.out _ (HA.out.below bq)).mono ?_;rintro e w2 ⟨rfl,hb2⟩;have s2:wr.heap.size<w2.heap.size:=Yv hb2 oq;have t2:w.heap.size<w2.heap.size:=Yv hb2 oq;have HN2:=hid ((hb2.block wr.heap.size oq).trans (HN1.out));have HP2:=hid ((hb2.block w.heap.size oq).trans (HP1.out));obtain⟨⟨n2_0,n2_1,n2_2,n2_3,n2_4,n2_5,n2_6,n2_7,n2_8,n2_9⟩,nf2⟩:=Xa HN2.out;obtain⟨⟨q2_0,q2_1,q2_2,q2_3⟩,qf2⟩:=Yu HP2.out)|(go_at_call 33;refine(HDP.out _ (HA.out.below bq)).mono ?_;rintro e w3 ⟨rfl,hb3⟩;have s3:wr.heap.size<w3.heap.size:=Yv hb3 oq;have t3:w.heap.size<w3.heap.size:=Yv hb3 oq;have HN3:=hid ((hb3.block wr.heap.size oq).trans (HN2.out));have HP3:=hid ((hb3.block w.heap.size oq).trans (HP2.out));obtain⟨⟨n3_0,n3_1,n3_2,n3_3,n3_4,n3_5,n3_6,n3_7,n3_8,n3_9⟩,nf3⟩:=Xa HN3.out;obtain⟨⟨q3_0,q3_1,q3_2,q3_3⟩,qf3⟩:=Yu HP3.out)|(go_at_call 34;refine(HBO.out _ (HA.out.below bq)).mono ?_;rintro e w4 ⟨rfl,hb4⟩;have s4:wr.heap.size<w4.heap.size:=Yv hb4 oq;have t4:w.heap.size<w4.heap.size:=Yv hb4 oq;have HN4:=hid ((hb4.block wr.heap.size oq).trans (HN3.out));have HP4:=hid ((hb4.block w.heap.size oq).trans (HP3.out));obtain⟨⟨n4_0,n4_1,n4_2,n4_3,n4_4,n4_5,n4_6,n4_7,n4_8,n4_9⟩,nf4⟩:=Xa HN4.out;obtain⟨⟨q4_0,q4_1,q4_2,q4_3⟩,qf4⟩:=Yu HP4.out))
      go_ret
      exact⟨⟨false,rfl,fun h=>by cases h⟩,bq⟩
     | true =>
      rw[hbo] at HBO
      go_wp2_with (first|(go_at_call 30;refine(HRI.out _).mono ?_;rintro e w1 ⟨rfl,hb1⟩;have s1:wr.heap.size<w1.heap.size:=Yv hb1 oq;have t1:w.heap.size<w1.heap.size:=Yv hb1 oq;have HN1:=hid ((hb1.block wr.heap.size oq).trans (Yt wr _));have HP1:=hid ((hb1.block w.heap.size oq).trans ((Za _ _ _ hplt).trans HPB.out));obtain⟨⟨n1_0,n1_1,n1_2,n1_3,n1_4,n1_5,n1_6,n1_7,n1_8,n1_9⟩,nf1⟩:=Xa HN1.out;obtain⟨⟨q1_0,q1_1,q1_2,q1_3⟩,qf1⟩:=Yu HP1.out)|(go_at_call 31;with_reducible refine(HNU.out _).mono ?_;rintro e w_ ⟨rfl,rfl⟩)|(go_at_call 32;refine(HSZ.out _ (HA.out.below bq)).mono ?_;rintro e w2 ⟨rfl,hb2⟩;have s2:wr.heap.size<w2.heap.size:=Yv hb2 oq;have t2:w.heap.size<w2.heap.size:=Yv hb2 oq;have HN2:=hid ((hb2.block wr.heap.size oq).trans (HN1.out));have HP2:=hid ((hb2.block w.heap.size oq).trans (HP1.out));obtain⟨⟨n2_0,n2_1,n2_2,n2_3,n2_4,n2_5,n2_6,n2_7,n2_8,n2_9⟩,nf2⟩:=Xa HN2.out;obtain⟨⟨q2_0,q2_1,q2_2,q2_3⟩,qf2⟩:=Yu HP2.out)|(go_at_call 33;refine(HDP.out _ (HA.out.below bq)).mono ?_;rintro e w3 ⟨rfl,hb3⟩;have s3:wr.heap.size<w3.heap.size:=Yv hb3 oq;have t3:w.heap.size<w3.heap.size:=Yv hb3 oq;have HN3:=hid ((hb3.block wr.heap.size oq).trans (HN2.out));have HP3:=hid ((hb3.block w.heap.size oq).trans (HP2.out));obtain⟨⟨n3_0,n3_1,n3_2,n3_3,n3_4,n3_5,n3_6,n3_7,n3_8,n3_9⟩,nf3⟩:=Xa HN3.out;obtain⟨⟨q3_0,q3_1,q3_2,q3_3⟩,qf3⟩:=Yu HP3.out)|(go_at_call 34;refine(HBO.out _ (HA.out.below bq)).mono ?_;rintro e w4 ⟨rfl,hb4⟩;have s4:wr.heap.size<w4.heap.size:=Yv hb4 oq;have t4:w.heap.size<w4.heap.size:=Yv hb4 oq;have HN4:=hid ((hb4.block wr.heap.size oq).trans (HN3.out));have HP4:=hid ((hb4.block w.heap.size oq).trans (HP3.out));obtain⟨⟨n4_0,n4_1,n4_2,n4_3,n4_4,n4_5,n4_6,n4_7,n4_8,n4_9⟩,nf4⟩:=Xa HN4.out;obtain⟨⟨q4_0,q4_1,q4_2,q4_3⟩,qf4⟩:=Yu HP4.out))
      have HB4:=hid (show Below w.heap.size w w4 from bq)
      have hpsl:ps.length≤6:=oq
      have HPS4:=hid (HPS.out.below Qu (show Below wr.heap.size wr w4 from bq))
      have HBU:=hid hbu
      have HBO2:=hid hbo
      have hsz4:w.heap.size≤w4.heap.size:=Nat.le_of_lt t4
      clear HRI HNU HSZ HDP HBO hb1 hb2 hb3 hb4 HN1 HN2 HN3 HP1 HP2 HP3 n4_0 n4_1 n4_2 n4_3 n4_4 n4_5 n4_6 n4_7 n4_8 n4_9 q4_0 q4_1 q4_2 q4_3
      go_loopw [5] (fun v wr'=>Hid (Zcm w w4 ps.length v wr')) (fun k _=>ps.length-(intOf k).toNat)
      case atStart=>exact⟨0,rfl,Zk _,Zg _ _⟩
      obtain⟨k,rfl,hk,hb5⟩:=hrel.out
      clear hrel
      have hsz5:=hb5.size
      have HN5:=hid ((hb5.block _ s4).trans HN4.out)
      have HP5:=hid ((hb5.block _ t4).trans HP4.out)
      obtain⟨⟨m0,m1,m2,m3,m4,m5,m6,m7,m8,m9⟩,mf⟩:=Xa HN5.out
      obtain⟨⟨o0,o1,o2,o3⟩,of_⟩:=Yu HP5.out
      have HB5:=hid (HB4.out.trans (hb5.mono hsz4))
      by_cases hkl:k<ps.length
      ·obtain⟨pb,po,rfl,hpb,hpc⟩:=HPS.out.at hkl
       have HPSk:=HPS4.out.below Qu hb5
       obtain⟨pb,po,hpa,hpb,hpc0,hpsz⟩:=HPSk.at hkl
       first|subst hpa|(injection hpa with hpa;injection hpa with h1_ h2_;subst h1_;subst h2_)
       rw[Z6] at hpc0
       generalize ps[k]=s at hpc0 hpsz
       have hkl':(k:Int)<(ps.length:Int):=oq
       have HRI:=hid (fun w=>XJ s w hpsz)
       have HB6:=hid hb5
       clear hb5 HPSk hpsz
       cases hno:Xp s with
       | false =>
        rw[hno] at HRI
        go_wp2_with (go_at_call 30;refine(HRI.out _).mono ?_;rintro e w6 ⟨rfl,hb6⟩)
        go_ret
        exact⟨⟨false,rfl,fun h=>by cases h⟩,HB5.out.trans (hb6.mono (Zm hsz4 hsz5))⟩
       | true =>
        rw[hno] at HRI
        go_wp2_with (go_at_call 30;refine(HRI.out _).mono ?_;rintro e w6 ⟨rfl,hb6⟩)
        go_roundw
        case rel=>first|exact⟨k+1,by go_num,oq,HB6.out.trans (hb6.mono hsz5)⟩|((repeat apply Ye);exact⟨⟨k+1,by go_num,oq,HB6.out.trans (hb6.mono hsz5)⟩,rfl⟩)
        simp[intOf];omega
      have hkl':(k:Int)=(ps.length:Int):=oq
      clear hb5
      go_wp2
      refine⟨⟨i+1,by go_num,oq,HP5.out,HB5.out,Vd (P:=fun x=>szL x.body.args 1 100≤100∧x.ps.length≤6∧1≤x.ps.length∧inB x.bud 1 1000=true∧JG x.body=true) HS.out (fun _=>HX.out) ⟨by show szL args1 1 100≤100;rw[HSE.out];exact hszi,hpsl,by show 1≤ps.length;omega,HBU.out,HBO2.out⟩⟩,by simp[intOf];omega⟩
  have hSN:=VP (P:=fun x=>szL x.body.args 1 100≤100∧x.ps.length≤6∧1≤x.ps.length∧inB x.bud 1 1000=true∧JG x.body=true) (l:=nodes) (fun j hj _=>HS.out j hj oq)
  have HSN:=hid hSN
  clear HS hbel hSN
  go_wp2
  go_loopw [6] (fun v wr=>Hid (jg w ⟨nodes,ins,flows,outs⟩ an ai af ao cn ci cf co ins.length (fun i=>∀j (hj:j<ins.length),j<i→(inB ins[j].per 1 1000=true∧inB ins[j].ph 0 1000=true)) v wr)) (fun i _=>ins.length-(intOf i).toNat)
  case atStart=>exact⟨0,rfl,Zk _,HPB.out,HBEL.out,fun j hj h=>absurd h oq⟩
  clear HPB HBEL hplt hszr x0 x1 x2 x3 xf
  obtain⟨i,rfl,hi,hpb,hbel,hS⟩:=hrel.out
  clear hrel
  try simp only at hS
  unfold XS at hpb
  simp only at hpb
  obtain⟨⟨x0,x1,x2,x3⟩,xf⟩:=Yu hpb
  have HPB:=hid hpb
  have HBEL:=hid hbel
  have hplt:=Zb hpb
  have hszr:=hbel.size
  have HS:=hid hS
  clear hpb hS
  by_cases hlt:i<ins.length
  ·obtain⟨bb,oo,rfl,hbb0,hin0⟩:=HI.out.at hlt
   have hin:=KM w wr bb _ _ hbel hbb0 hin0
   have hbb:=Zd hbb0 hszr
   obtain⟨x,hx⟩:∃x,ins[i]=x:=⟨_,rfl⟩
   have HX:=hid hx
   rw[hx] at hin
   obtain⟨nm,per,ph,fa⟩:=x
   obtain⟨y0,y1,y2,y3,hfn⟩:=hin
   simp only at y0 y1 y2 y3 hfn
   have hie:(i:Int)<(ins.length:Int):=oq
   have HRI:=hid (fun w=>XJ nm w hfn.1)
   have HNU:=hid (fun w=>Xq per 1 1000 w)
   have HNV:=hid (fun w=>Xq ph 0 1000 w)
   clear hbel hin0 hx hfn hbb0
   cases hno:Xp nm with
   | false =>
    rw[hno] at HRI
    go_wp2_with (first|(go_at_call 30;refine(HRI.out _).mono ?_;rintro e w1 ⟨rfl,hb1⟩;have s1:wr.heap.size<w1.heap.size:=Yv hb1 oq;have t1:w.heap.size<w1.heap.size:=Yv hb1 oq;have HN1:=hid ((hb1.block wr.heap.size oq).trans (Yt wr _));have HP1:=hid ((hb1.block w.heap.size oq).trans ((Za _ _ _ hplt).trans HPB.out));obtain⟨⟨n1_0,n1_1,n1_2,n1_3⟩,nf1⟩:=Yu HN1.out;obtain⟨⟨q1_0,q1_1,q1_2,q1_3⟩,qf1⟩:=Yu HP1.out))
    go_ret
    exact⟨⟨false,rfl,fun h=>by cases h⟩,bq⟩
   | true =>
    rw[hno] at HRI
    cases hbu:inB per 1 1000 with
    | false =>
     rw[hbu] at HNU
     go_wp2_with (first|(go_at_call 30;refine(HRI.out _).mono ?_;rintro e w1 ⟨rfl,hb1⟩;have s1:wr.heap.size<w1.heap.size:=Yv hb1 oq;have t1:w.heap.size<w1.heap.size:=Yv hb1 oq;have HN1:=hid ((hb1.block wr.heap.size oq).trans (Yt wr _));have HP1:=hid ((hb1.block w.heap.size oq).trans ((Za _ _ _ hplt).trans HPB.out));obtain⟨⟨n1_0,n1_1,n1_2,n1_3⟩,nf1⟩:=Yu HN1.out;obtain⟨⟨q1_0,q1_1,q1_2,q1_3⟩,qf1⟩:=Yu HP1.out)|(go_at_call 31;with_reducible refine(HNU.out _).mono ?_;rintro e w_ ⟨rfl,rfl⟩)|(go_at_call 31;with_reducible refine(HNV.out _).mono ?_;rintro e w_ ⟨rfl,rfl⟩))
     go_ret
     exact⟨⟨false,rfl,fun h=>by cases h⟩,bq⟩
    | true =>
     rw[hbu] at HNU
     cases hbv:inB ph 0 1000 with
     | false =>
      rw[hbv] at HNV
      go_wp2_with (first|(go_at_call 30;refine(HRI.out _).mono ?_;rintro e w1 ⟨rfl,hb1⟩;have s1:wr.heap.size<w1.heap.size:=Yv hb1 oq;have t1:w.heap.size<w1.heap.size:=Yv hb1 oq;have HN1:=hid ((hb1.block wr.heap.size oq).trans (Yt wr _));have HP1:=hid ((hb1.block w.heap.size oq).trans ((Za _ _ _ hplt).trans HPB.out));obtain⟨⟨n1_0,n1_1,n1_2,n1_3⟩,nf1⟩:=Yu HN1.out;obtain⟨⟨q1_0,q1_1,q1_2,q1_3⟩,qf1⟩:=Yu HP1.out)|(go_at_call 31;with_reducible refine(HNU.out _).mono ?_;rintro e w_ ⟨rfl,rfl⟩)|(go_at_call 31;with_reducible refine(HNV.out _).mono ?_;rintro e w_ ⟨rfl,rfl⟩))
      go_ret
      exact⟨⟨false,rfl,fun h=>by cases h⟩,bq⟩
     | true =>
      rw[hbv] at HNV
      go_wp2_with (first|(go_at_call 30;refine(HRI.out _).mono ?_;rintro e w1 ⟨rfl,hb1⟩;have s1:wr.heap.size<w1.heap.size:=Yv hb1 oq;have t1:w.heap.size<w1.heap.size:=Yv hb1 oq;have HN1:=hid ((hb1.block wr.heap.size oq).trans (Yt wr _));have HP1:=hid ((hb1.block w.heap.size oq).trans ((Za _ _ _ hplt).trans HPB.out));obtain⟨⟨n1_0,n1_1,n1_2,n1_3⟩,nf1⟩:=Yu HN1.out;obtain⟨⟨q1_0,q1_1,q1_2,q1_3⟩,qf1⟩:=Yu HP1.out)|(go_at_call 31;with_reducible refine(HNU.out _).mono ?_;rintro e w_ ⟨rfl,rfl⟩)|(go_at_call 31;with_reducible refine(HNV.out _).mono ?_;rintro e w_ ⟨rfl,rfl⟩))
      refine⟨⟨i+1,by go_num,oq,HP1.out,bq,Vd (P:=fun x=>inB x.per 1 1000=true∧inB x.ph 0 1000=true) HS.out (fun _=>HX.out) ⟨hbu,hbv⟩⟩,by simp[intOf];omega⟩
  have hSI:=VP (P:=fun x=>inB x.per 1 1000=true∧inB x.ph 0 1000=true) (l:=ins) (fun j hj _=>HS.out j hj oq)
  have HSI:=hid hSI
  clear HS hbel hSI
  go_wp2
  go_loopw [8] (fun v wr=>Hid (jg w ⟨nodes,ins,flows,outs⟩ an ai af ao cn ci cf co flows.length (fun i=>∀j (hj:j<flows.length),j<i→(szL flows[j].e.args 1 100≤100∧YF flows[j].e=true)) v wr)) (fun i _=>flows.length-(intOf i).toNat)
  case atStart=>exact⟨0,rfl,Zk _,HPB.out,HBEL.out,fun j hj h=>absurd h oq⟩
  clear HPB HBEL hplt hszr x0 x1 x2 x3 xf
  obtain⟨i,rfl,hi,hpb,hbel,hS⟩:=hrel.out
  clear hrel
  try simp only at hS
  unfold XS at hpb
  simp only at hpb
  obtain⟨⟨x0,x1,x2,x3⟩,xf⟩:=Yu hpb
  have HPB:=hid hpb
  have HBEL:=hid hbel
  have hplt:=Zb hpb
  have hszr:=hbel.size
  have HS:=hid hS
  clear hpb hS
  by_cases hlt:i<flows.length
  ·obtain⟨bb,oo,rfl,hbb0,hfl0⟩:=HF.out.at hlt
   have hfl:=hfl0.later hbel hbb0
   have hbb:=Zd hbb0 hszr
   obtain⟨x,hx⟩:∃x,flows[i]=x:=⟨_,rfl⟩
   have HX:=hid hx
   rw[hx] at hfl
   obtain⟨nm,⟨k1,nm1,n1,d1,args1,a1⟩,fa⟩:=x
   obtain⟨ad,cap,y0,y1,y2,y3,y4,y5,y6,y7,hae,hfn⟩:=hfl.cells
   have HA:=hid hae
   have hie:(i:Int)<(flows.length:Int):=oq
   have HRI:=hid (fun w=>XJ nm w hfn.1)
   have HSZ:=hid (fun w' (h:AE w' ⟨k1,nm1,n1,d1,args1,a1⟩ ad cap)=>Gq ⟨k1,nm1,n1,d1,args1,a1⟩ w' ad cap 100 h oq oq)
   have HDP:=hid (fun w' (h:AE w' ⟨k1,nm1,n1,d1,args1,a1⟩ ad cap)=>jr ⟨k1,nm1,n1,d1,args1,a1⟩ w' ad cap 30 h oq)
   have HEX:=hid (fun w' (h:AE w' ⟨k1,nm1,n1,d1,args1,a1⟩ ad cap)=>kp ⟨k1,nm1,n1,d1,args1,a1⟩ w' ad cap h)
   unfold ev at HSZ HDP HEX
   simp only at HSZ HDP HEX
   rw[show((30:Nat):Int)=30 from rfl] at HDP
   have hsb:=Gw args1 1 100 oq oq
   have hdb:=qb ⟨k1,nm1,n1,d1,args1,a1⟩ 30
   generalize hse:szL args1 1 100=se at HSZ hsb
   generalize dpE ⟨k1,nm1,n1,d1,args1,a1⟩ 30=de at HDP hdb
   have HSE:=hid hse
   clear hbel hfl hfl0 hx hae hfn hbb0 hse
   cases hno:Xp nm with
   | false =>
    rw[hno] at HRI
    go_wp2_with (first|(go_at_call 30;refine(HRI.out _).mono ?_;rintro e w1 ⟨rfl,hb1⟩;have s1:wr.heap.size<w1.heap.size:=Yv hb1 oq;have t1:w.heap.size<w1.heap.size:=Yv hb1 oq;have HN1:=hid ((hb1.block wr.heap.size oq).trans (Yt wr _));have HP1:=hid ((hb1.block w.heap.size oq).trans ((Za _ _ _ hplt).trans HPB.out));obtain⟨⟨n1_0,n1_1,n1_2,n1_3,n1_4,n1_5,n1_6,n1_7⟩,nf1⟩:=Qb HN1.out;obtain⟨⟨q1_0,q1_1,q1_2,q1_3⟩,qf1⟩:=Yu HP1.out))
    go_ret
    exact⟨⟨false,rfl,fun h=>by cases h⟩,bq⟩
   | true =>
    rw[hno] at HRI
    by_cases hsz:(100:Int)<se
    ·go_wp2_with (first|(go_at_call 30;refine(HRI.out _).mono ?_;rintro e w1 ⟨rfl,hb1⟩;have s1:wr.heap.size<w1.heap.size:=Yv hb1 oq;have t1:w.heap.size<w1.heap.size:=Yv hb1 oq;have HN1:=hid ((hb1.block wr.heap.size oq).trans (Yt wr _));have HP1:=hid ((hb1.block w.heap.size oq).trans ((Za _ _ _ hplt).trans HPB.out));obtain⟨⟨n1_0,n1_1,n1_2,n1_3,n1_4,n1_5,n1_6,n1_7⟩,nf1⟩:=Qb HN1.out;obtain⟨⟨q1_0,q1_1,q1_2,q1_3⟩,qf1⟩:=Yu HP1.out)|(go_at_call 32;refine(HSZ.out _ (HA.out.below bq)).mono ?_;rintro e w2 ⟨rfl,hb2⟩;have s2:wr.heap.size<w2.heap.size:=Yv hb2 oq;have t2:w.heap.size<w2.heap.size:=Yv hb2 oq;have HN2:=hid ((hb2.block wr.heap.size oq).trans (HN1.out));have HP2:=hid ((hb2.block w.heap.size oq).trans (HP1.out));obtain⟨⟨n2_0,n2_1,n2_2,n2_3,n2_4,n2_5,n2_6,n2_7⟩,nf2⟩:=Qb HN2.out;obtain⟨⟨q2_0,q2_1,q2_2,q2_3⟩,qf2⟩:=Yu HP2.out))
     go_ret
     exact⟨⟨false,rfl,fun h=>by cases h⟩,bq⟩
    have hszi:se≤100:=oq
    by_cases hdp:(20:Int)<de
    ·go_wp2_with (first|(go_at_call 30;refine(HRI.out _).mono ?_;rintro e w1 ⟨rfl,hb1⟩;have s1:wr.heap.size<w1.heap.size:=Yv hb1 oq;have t1:w.heap.size<w1.heap.size:=Yv hb1 oq;have HN1:=hid ((hb1.block wr.heap.size oq).trans (Yt wr _));have HP1:=hid ((hb1.block w.heap.size oq).trans ((Za _ _ _ hplt).trans HPB.out));obtain⟨⟨n1_0,n1_1,n1_2,n1_3,n1_4,n1_5,n1_6,n1_7⟩,nf1⟩:=Qb HN1.out;obtain⟨⟨q1_0,q1_1,q1_2,q1_3⟩,qf1⟩:=Yu HP1.out)|(go_at_call 32;refine(HSZ.out _ (HA.out.below bq)).mono ?_;rintro e w2 ⟨rfl,hb2⟩;have s2:wr.heap.size<w2.heap.size:=Yv hb2 oq;have t2:w.heap.size<w2.heap.size:=Yv hb2 oq;have HN2:=hid ((hb2.block wr.heap.size oq).trans (HN1.out));have HP2:=hid ((hb2.block w.heap.size oq).trans (HP1.out));obtain⟨⟨n2_0,n2_1,n2_2,n2_3,n2_4,n2_5,n2_6,n2_7⟩,nf2⟩:=Qb HN2.out;obtain⟨⟨q2_0,q2_1,q2_2,q2_3⟩,qf2⟩:=Yu HP2.out)|(go_at_call 33;refine(HDP.out _ (HA.out.below bq)).mono ?_;rintro e w3 ⟨rfl,hb3⟩;have s3:wr.heap.size<w3.heap.size:=Yv hb3 oq;have t3:w.heap.size<w3.heap.size:=Yv hb3 oq;have HN3:=hid ((hb3.block wr.heap.size oq).trans (HN2.out));have HP3:=hid ((hb3.block w.heap.size oq).trans (HP2.out));obtain⟨⟨n3_0,n3_1,n3_2,n3_3,n3_4,n3_5,n3_6,n3_7⟩,nf3⟩:=Qb HN3.out;obtain⟨⟨q3_0,q3_1,q3_2,q3_3⟩,qf3⟩:=Yu HP3.out))
     go_ret
     exact⟨⟨false,rfl,fun h=>by cases h⟩,bq⟩
    have hdpi:de≤20:=oq
    cases hbo:YF ⟨k1,nm1,n1,d1,args1,a1⟩ with
    | false =>
     rw[hbo] at HEX
     go_wp2_with (first|(go_at_call 30;refine(HRI.out _).mono ?_;rintro e w1 ⟨rfl,hb1⟩;have s1:wr.heap.size<w1.heap.size:=Yv hb1 oq;have t1:w.heap.size<w1.heap.size:=Yv hb1 oq;have HN1:=hid ((hb1.block wr.heap.size oq).trans (Yt wr _));have HP1:=hid ((hb1.block w.heap.size oq).trans ((Za _ _ _ hplt).trans HPB.out));obtain⟨⟨n1_0,n1_1,n1_2,n1_3,n1_4,n1_5,n1_6,n1_7⟩,nf1⟩:=Qb HN1.out;obtain⟨⟨q1_0,q1_1,q1_2,q1_3⟩,qf1⟩:=Yu HP1.out)|(go_at_call 32;refine(HSZ.out _ (HA.out.below bq)).mono ?_;rintro e w2 ⟨rfl,hb2⟩;have s2:wr.heap.size<w2.heap.size:=Yv hb2 oq;have t2:w.heap.size<w2.heap.size:=Yv hb2 oq;have HN2:=hid ((hb2.block wr.heap.size oq).trans (HN1.out));have HP2:=hid ((hb2.block w.heap.size oq).trans (HP1.out));obtain⟨⟨n2_0,n2_1,n2_2,n2_3,n2_4,n2_5,n2_6,n2_7⟩,nf2⟩:=Qb HN2.out;obtain⟨⟨q2_0,q2_1,q2_2,q2_3⟩,qf2⟩:=Yu HP2.out)|(go_at_call 33;refine(HDP.out _ (HA.out.below bq)).mono ?_;rintro e w3 ⟨rfl,hb3⟩;have s3:wr.heap.size<w3.heap.size:=Yv hb3 oq;have t3:w.heap.size<w3.heap.size:=Yv hb3 oq;have HN3:=hid ((hb3.block wr.heap.size oq).trans (HN2.out));have HP3:=hid ((hb3.block w.heap.size oq).trans (HP2.out));obtain⟨⟨n3_0,n3_1,n3_2,n3_3,n3_4,n3_5,n3_6,n3_7⟩,nf3⟩:=Qb HN3.out;obtain⟨⟨q3_0,q3_1,q3_2,q3_3⟩,qf3⟩:=Yu HP3.out)|(go_at_call 35;refine(HEX.out _ (HA.out.below bq)).mono ?_;rintro e w4 ⟨rfl,hb4⟩;have s4:wr.heap.size<w4.heap.size:=Yv hb4 oq;have t4:w.heap.size<w4.heap.size:=Yv hb4 oq;have HN4:=hid ((hb4.block wr.heap.size oq).trans (HN3.out));have HP4:=hid ((hb4.block w.heap.size oq).trans (HP3.out));obtain⟨⟨n4_0,n4_1,n4_2,n4_3,n4_4,n4_5,n4_6,n4_7⟩,nf4⟩:=Qb HN4.out;obtain⟨⟨q4_0,q4_1,q4_2,q4_3⟩,qf4⟩:=Yu HP4.out))
     go_ret
     exact⟨⟨false,rfl,fun h=>by cases h⟩,bq⟩
    | true =>
     rw[hbo] at HEX
     go_wp2_with (first|(go_at_call 30;refine(HRI.out _).mono ?_;rintro e w1 ⟨rfl,hb1⟩;have s1:wr.heap.size<w1.heap.size:=Yv hb1 oq;have t1:w.heap.size<w1.heap.size:=Yv hb1 oq;have HN1:=hid ((hb1.block wr.heap.size oq).trans (Yt wr _));have HP1:=hid ((hb1.block w.heap.size oq).trans ((Za _ _ _ hplt).trans HPB.out));obtain⟨⟨n1_0,n1_1,n1_2,n1_3,n1_4,n1_5,n1_6,n1_7⟩,nf1⟩:=Qb HN1.out;obtain⟨⟨q1_0,q1_1,q1_2,q1_3⟩,qf1⟩:=Yu HP1.out)|(go_at_call 32;refine(HSZ.out _ (HA.out.below bq)).mono ?_;rintro e w2 ⟨rfl,hb2⟩;have s2:wr.heap.size<w2.heap.size:=Yv hb2 oq;have t2:w.heap.size<w2.heap.size:=Yv hb2 oq;have HN2:=hid ((hb2.block wr.heap.size oq).trans (HN1.out));have HP2:=hid ((hb2.block w.heap.size oq).trans (HP1.out));obtain⟨⟨n2_0,n2_1,n2_2,n2_3,n2_4,n2_5,n2_6,n2_7⟩,nf2⟩:=Qb HN2.out;obtain⟨⟨q2_0,q2_1,q2_2,q2_3⟩,qf2⟩:=Yu HP2.out)|(go_at_call 33;refine(HDP.out _ (HA.out.below bq)).mono ?_;rintro e w3 ⟨rfl,hb3⟩;have s3:wr.heap.size<w3.heap.size:=Yv hb3 oq;have t3:w.heap.size<w3.heap.size:=Yv hb3 oq;have HN3:=hid ((hb3.block wr.heap.size oq).trans (HN2.out));have HP3:=hid ((hb3.block w.heap.size oq).trans (HP2.out));obtain⟨⟨n3_0,n3_1,n3_2,n3_3,n3_4,n3_5,n3_6,n3_7⟩,nf3⟩:=Qb HN3.out;obtain⟨⟨q3_0,q3_1,q3_2,q3_3⟩,qf3⟩:=Yu HP3.out)|(go_at_call 35;refine(HEX.out _ (HA.out.below bq)).mono ?_;rintro e w4 ⟨rfl,hb4⟩;have s4:wr.heap.size<w4.heap.size:=Yv hb4 oq;have t4:w.heap.size<w4.heap.size:=Yv hb4 oq;have HN4:=hid ((hb4.block wr.heap.size oq).trans (HN3.out));have HP4:=hid ((hb4.block w.heap.size oq).trans (HP3.out));obtain⟨⟨n4_0,n4_1,n4_2,n4_3,n4_4,n4_5,n4_6,n4_7⟩,nf4⟩:=Qb HN4.out;obtain⟨⟨q4_0,q4_1,q4_2,q4_3⟩,qf4⟩:=Yu HP4.out))
     refine⟨⟨i+1,by go_num,oq,HP4.out,bq,Vd (P:=fun x=>szL x.e.args 1 100≤100∧YF x.e=true) HS.out (fun _=>HX.out) ⟨by show szL args1 1 100≤100;rw[HSE.out];exact hszi,hbo⟩⟩,by simp[intOf];omega⟩
  have hSF:=VP (P:=fun x=>szL x.e.args 1 100≤100∧YF x.e=true) (l:=flows) (fun j hj _=>HS.out j hj oq)
  have HSF:=hid hSF
  clear HS hbel hSF
  go_wp2
  go_loopw [10] (fun v wr=>Hid (jg w ⟨nodes,ins,flows,outs⟩ an ai af ao cn ci cf co outs.length (fun i=>∀j (hj:j<outs.length),j<i→inB outs[j].dl 1 1000=true) v wr)) (fun i _=>outs.length-(intOf i).toNat)
  case atStart=>exact⟨0,rfl,Zk _,HPB.out,HBEL.out,fun j hj h=>absurd h oq⟩
  clear HPB HBEL hplt hszr x0 x1 x2 x3 xf
  obtain⟨i,rfl,hi,hpb,hbel,hS⟩:=hrel.out
  clear hrel
  try simp only at hS
  unfold XS at hpb
  simp only at hpb
  obtain⟨⟨x0,x1,x2,x3⟩,xf⟩:=Yu hpb
  have HPB:=hid hpb
  have HBEL:=hid hbel
  have hplt:=Zb hpb
  have hszr:=hbel.size
  have HS:=hid hS
  clear hpb hS
  by_cases hlt:i<outs.length
  ·obtain⟨bb,oo,rfl,hbb0,hou0⟩:=HO.out.at hlt
   have hou:=hou0.later hbel hbb0
   have hbb:=Zd hbb0 hszr
   obtain⟨x,hx⟩:∃x,outs[i]=x:=⟨_,rfl⟩
   have HX:=hid hx
   rw[hx] at hou
   obtain⟨nm,fl,dl,fa⟩:=x
   obtain⟨y0,y1,y2,y3,hfn⟩:=hou
   simp only at y0 y1 y2 y3 hfn
   have hie:(i:Int)<(outs.length:Int):=oq
   have HRI:=hid (fun w=>XJ nm w hfn.1)
   have HRJ:=hid (fun w=>XJ fl w hfn.2.1)
   have HNU:=hid (fun w=>Xq dl 1 1000 w)
   clear hbel hou0 hx hfn hbb0
   cases hno:Xp nm with
   | false =>
    rw[hno] at HRI
    go_wp2_with (first|(go_at_call 30;refine(HRI.out _).mono ?_;rintro e w1 ⟨rfl,hb1⟩;have s1:wr.heap.size<w1.heap.size:=Yv hb1 oq;have t1:w.heap.size<w1.heap.size:=Yv hb1 oq;have HN1:=hid ((hb1.block wr.heap.size oq).trans (Yt wr _));have HP1:=hid ((hb1.block w.heap.size oq).trans ((Za _ _ _ hplt).trans HPB.out));obtain⟨⟨n1_0,n1_1,n1_2,n1_3⟩,nf1⟩:=Yu HN1.out;obtain⟨⟨q1_0,q1_1,q1_2,q1_3⟩,qf1⟩:=Yu HP1.out;clear HRI))
    go_ret
    exact⟨⟨false,rfl,fun h=>by cases h⟩,bq⟩
   | true =>
    rw[hno] at HRI
    cases hno2:Xp fl with
    | false =>
     rw[hno2] at HRJ
     go_wp2_with (first|(go_at_call 30;refine(HRI.out _).mono ?_;rintro e w1 ⟨rfl,hb1⟩;have s1:wr.heap.size<w1.heap.size:=Yv hb1 oq;have t1:w.heap.size<w1.heap.size:=Yv hb1 oq;have HN1:=hid ((hb1.block wr.heap.size oq).trans (Yt wr _));have HP1:=hid ((hb1.block w.heap.size oq).trans ((Za _ _ _ hplt).trans HPB.out));obtain⟨⟨n1_0,n1_1,n1_2,n1_3⟩,nf1⟩:=Yu HN1.out;obtain⟨⟨q1_0,q1_1,q1_2,q1_3⟩,qf1⟩:=Yu HP1.out;clear HRI)|(go_at_call 30;refine(HRJ.out _).mono ?_;rintro e w2 ⟨rfl,hb2⟩;have s2:wr.heap.size<w2.heap.size:=Yv hb2 oq;have t2:w.heap.size<w2.heap.size:=Yv hb2 oq;have HN2:=hid ((hb2.block wr.heap.size oq).trans (HN1.out));have HP2:=hid ((hb2.block w.heap.size oq).trans (HP1.out));obtain⟨⟨n2_0,n2_1,n2_2,n2_3⟩,nf2⟩:=Yu HN2.out;obtain⟨⟨q2_0,q2_1,q2_2,q2_3⟩,qf2⟩:=Yu HP2.out))
     go_ret
     exact⟨⟨false,rfl,fun h=>by cases h⟩,bq⟩
    | true =>
     rw[hno2] at HRJ
     cases hbu:inB dl 1 1000 with
     | false =>
      rw[hbu] at HNU
      go_wp2_with (first|(go_at_call 30;refine(HRI.out _).mono ?_;rintro e w1 ⟨rfl,hb1⟩;have s1:wr.heap.size<w1.heap.size:=Yv hb1 oq;have t1:w.heap.size<w1.heap.size:=Yv hb1 oq;have HN1:=hid ((hb1.block wr.heap.size oq).trans (Yt wr _));have HP1:=hid ((hb1.block w.heap.size oq).trans ((Za _ _ _ hplt).trans HPB.out));obtain⟨⟨n1_0,n1_1,n1_2,n1_3⟩,nf1⟩:=Yu HN1.out;obtain⟨⟨q1_0,q1_1,q1_2,q1_3⟩,qf1⟩:=Yu HP1.out;clear HRI)|(go_at_call 30;refine(HRJ.out _).mono ?_;rintro e w2 ⟨rfl,hb2⟩;have s2:wr.heap.size<w2.heap.size:=Yv hb2 oq;have t2:w.heap.size<w2.heap.size:=Yv hb2 oq;have HN2:=hid ((hb2.block wr.heap.size oq).trans (HN1.out));have HP2:=hid ((hb2.block w.heap.size oq).trans (HP1.out));obtain⟨⟨n2_0,n2_1,n2_2,n2_3⟩,nf2⟩:=Yu HN2.out;obtain⟨⟨q2_0,q2_1,q2_2,q2_3⟩,qf2⟩:=Yu HP2.out)|(go_at_call 31;with_reducible refine(HNU.out _).mono ?_;rintro e w_ ⟨rfl,rfl⟩))
      go_ret
      exact⟨⟨false,rfl,fun h=>by cases h⟩,bq⟩
     | true =>
      rw[hbu] at HNU
      go_wp2_with (first|(go_at_call 30;refine(HRI.out _).mono ?_;rintro e w1 ⟨rfl,hb1⟩;have s1:wr.heap.size<w1.heap.size:=Yv hb1 oq;have t1:w.heap.size<w1.heap.size:=Yv hb1 oq;have HN1:=hid ((hb1.block wr.heap.size oq).trans (Yt wr _));have HP1:=hid ((hb1.block w.heap.size oq).trans ((Za _ _ _ hplt).trans HPB.out));obtain⟨⟨n1_0,n1_1,n1_2,n1_3⟩,nf1⟩:=Yu HN1.out;obtain⟨⟨q1_0,q1_1,q1_2,q1_3⟩,qf1⟩:=Yu HP1.out;clear HRI)|(go_at_call 30;refine(HRJ.out _).mono ?_;rintro e w2 ⟨rfl,hb2⟩;have s2:wr.heap.size<w2.heap.size:=Yv hb2 oq;have t2:w.heap.size<w2.heap.size:=Yv hb2 oq;have HN2:=hid ((hb2.block wr.heap.size oq).trans (HN1.out));have HP2:=hid ((hb2.block w.heap.size oq).trans (HP1.out));obtain⟨⟨n2_0,n2_1,n2_2,n2_3⟩,nf2⟩:=Yu HN2.out;obtain⟨⟨q2_0,q2_1,q2_2,q2_3⟩,qf2⟩:=Yu HP2.out)|(go_at_call 31;with_reducible refine(HNU.out _).mono ?_;rintro e w_ ⟨rfl,rfl⟩))
      refine⟨⟨i+1,by go_num,oq,HP2.out,bq,Vd (P:=fun x=>inB x.dl 1 1000=true) HS.out (fun _=>HX.out) hbu⟩,by simp[intOf];omega⟩
  have hSO:=VP (P:=fun x=>inB x.dl 1 1000=true) (l:=outs) (fun j hj _=>HS.out j hj oq)
  have HSO:=hid hSO
  clear HS hbel hSO
  go_wp2
  go_ret
  exact⟨⟨true,rfl,fun _=>⟨hsum,HSN.out,HSF.out,HSI.out,HSO.out⟩⟩,HBEL.out⟩
 have hsi:(40:Int)<(nodes.length:Int)+(ins.length:Int)+(flows.length:Int)+(outs.length:Int):=oq
 go_enter Tryz.func15,Tryz.ntmps15
 go_wp2
 go_ret
 exact⟨⟨false,rfl,fun h=>by cases h⟩,bq⟩
end Go.Proofs.YtlhlcdjiafdoeaaGreatDoor.syn
