/-
  Parts of the proof: Ref6N, Flt19.
-/
import Derived.Deep.RegionHeld3
import Derived.Test.YtgigilkpndhddaaGreatDoorQ17
import Derived.Test.YtgigilkpndhddaaGreatDoorQ43
import Derived.Test.YtgigilkpndhddaaGreatDoorQ44
namespace Go.Proofs.YtgigilkpndhddaaGreatDoor.syn
set_option linter.unusedVariables false
set_option linter.unusedSimpArgs false
set_option linter.unnecessarySimpa false
set_option maxRecDepth 100000
set_option maxHeartbeats 16000000
open Go.RowKit
theorem jA {W w1:World} (h:Below W.drew.heap.size W.drew w1):Below W.heap.size W w1:=⟨h.os,h.tape,h.output,h.size,h.block⟩
theorem YQ {W w2:World} (hb:Below W.heap.size W w2) {b o:Nat} {v:Value} (hlt:b<W.heap.size) (h:W.cell? ⟨b,o,none⟩=some v):w2.cell? ⟨b,o,none⟩=some v:=(hb.cell (p:=⟨b,o,none⟩) hlt).trans h
structure UJ (p:PG):Prop where
 ins:∀i (h:i<p.ins.length),YH p p.ins[i].nm=(i:Int)
 flows:∀i (h:i<p.flows.length),YH p p.flows[i].nm=(p.ins.length:Int)+(i:Int)∧nq1 p p.flows[i].e.k p.flows[i].e.nm p.flows[i].e.args.len=true∧nqL p p.flows[i].e.args=true
 outs:∀i (h:i<p.outs.length),(p.ins.length:Int)≤YH p p.outs[i].fl
 nodes:∀i (h:i<p.nodes.length),XY p p.nodes[i].nm=(i:Int)
def kU (p:PG) (x:Ending):Prop:=∃b:Bool,x=.returned (.bool b)∧(b=true→UJ p)
def j7 (w:World) (p:PG) (an ai af ao:Option Addr) (cn ci cf co:Nat) (len:Nat) (S:Nat→Prop) (v:Value) (wr:World):Prop :=
 ∃i:Nat,v=.int .i64 (i:Int)∧i≤len∧XS wr w.heap.size p an ai af ao cn ci cf co∧Below w.heap.size w wr∧S i
def Zck (W:World) (len:Nat) (v:Value) (wr:World):Prop:=∃k:Nat,v=.int .i64 (k:Int)∧k≤len∧Below W.heap.size W wr
theorem V5 {α:Type} {l:List α} {P:Nat→α→Prop} {i:Nat} (h:∀j (hj:j<l.length),j<i→P j l[j]) (hi:∀hj:i<l.length,P i l[i]):∀j (hj:j<l.length),j<i+1→P j l[j]:=by
 intro j hj hji
 by_cases h1:j<i
 ·exact h j hj h1
 have:j=i:=oq
 subst this;exact hi hj
theorem vU {w:World} (nodes:List ND) (ins:List IN) (flows:List FL) (outs:List OU) (an ai af ao:Option Addr) (cn ci cf co:Nat) (hp:AP w ⟨nodes,ins,flows,outs⟩ an ai af ao cn ci cf co) (h1:nodes.length≤1000) (h2:ins.length≤1000) (h3:flows.length≤1000) (h4:outs.length≤1000) (hps:∀x∈nodes,x.ps.length≤1000) :
  Calls Tryz.prog 18 #[pv ⟨nodes,ins,flows,outs⟩ an ai af ao cn ci cf co] w fun x w'=>kU ⟨nodes,ins,flows,outs⟩ x∧Below w.heap.size w w':=by
 have HP:=hid hp
 have HPSL:=hid hps
 clear hp hps
 unfold pv
 simp only
 go_enter Tryz.func18,Tryz.ntmps18
 go_wp2
 go_loopw [3] (fun v wr=>Hid (j7 w ⟨nodes,ins,flows,outs⟩ an ai af ao cn ci cf co nodes.length (fun i=>∀j (hj:j<nodes.length),j<i→XY ⟨nodes,ins,flows,outs⟩ nodes[j].nm=(j:Int)) v wr)) (fun i _=>nodes.length-(intOf i).toNat)
 case atStart=>exact⟨0,rfl,Zk _,Yp w _,bq,fun j hj h=>absurd h oq⟩
 obtain⟨i,rfl,hi,hpb,hbel,hS⟩:=hrel.out
 clear hrel
 try simp only at hS
 unfold XS at hpb
 simp only at hpb
 obtain⟨⟨x0,x1,x2,x3⟩,xf⟩:=Yq hpb
 have HPB:=hid hpb
 have HBEL:=hid hbel
 have hplt:=Zb hpb
 have hszr:=hbel.size
 have HS:=hid hS
 clear hpb hS
 by_cases hlt:i<nodes.length
 ·obtain⟨bb,oo,rfl,hbb0,hnd0⟩:=HP.out.nodes.at hlt
  have hnd:=JI w wr bb _ _ hbel hbb0 hnd0
  have hbb:=Zd hbb0 hszr
  have hpsl:=HPSL.out nodes[i] (Zi hlt)
  obtain⟨x,hx⟩:∃x,nodes[i]=x:=⟨_,rfl⟩
  rw[hx] at hnd hpsl
  obtain⟨nm,ps,bud,⟨k1,nm1,n1,d1,args1,a1⟩,fa⟩:=x
  obtain⟨pa,pc,ad,cap,y0,y1,y2,y3,y4,y5,y6,y7,y8,y9,hae,⟨hps1,hps2,hps⟩,hfn⟩:=hnd.cells
  simp only at hpsl
  have HA:=hid hae
  have HPS:=hid hps
  have hie:(i:Int)<(nodes.length:Int):=oq
  have HND:=hid (fun(w':World) (h:Below wr.heap.size wr w')=>yo (w:=w') ⟨nodes,ins,flows,outs⟩ (some ⟨bb,oo,none⟩) ai af ao cn ci cf co nm ((HP.out.below HBEL.out).below h) h1)
  have HBO:=hid (fun(w':World) (h:Below wr.heap.size wr w')=>uF ⟨k1,nm1,n1,d1,args1,a1⟩ w' nm nm1 ps pa pc bud k1 n1 d1 a1 fa ad args1.len cap ad cap (HPS.out.below Qq h) hpsl (HA.out.below h))
  unfold pv at HND
  unfold Gk at HBO
  simp only at HND HBO
  have HXN:=hid hx
  clear hbel hnd hnd0 hx hae hps hfn hbb0
  by_cases hnx:XY ⟨nodes,ins,flows,outs⟩ nm=(i:Int)
  ·rw[hnx] at HND
   have HSN:=hid (V5 (P:=fun j (x:ND)=>XY ⟨nodes,ins,flows,outs⟩ x.nm=(j:Int)) HS.out (fun hj=>by rw[HXN.out];exact hnx))
   clear hnx
   have hii:((i:Int) != (i:Int))=false:=by simp
   go_wp2_with (first|(go_at_call 44;go_loud (refine(HND.out _ bq).mono ?_;rintro x w1 ⟨rfl,hb1⟩;have s1:wr.heap.size<w1.heap.size:=Yr hb1 oq;have t1:w.heap.size<w1.heap.size:=Yr hb1 oq;have HN1:=hid ((hb1.block wr.heap.size oq).trans (Yp wr _));have HP1:=hid ((hb1.block w.heap.size oq).trans ((Za _ _ _ hplt).trans HPB.out));obtain⟨⟨n1_0,n1_1,n1_2,n1_3,n1_4,n1_5,n1_6,n1_7,n1_8,n1_9⟩,nf1⟩:=QK HN1.out;obtain⟨⟨q1_0,q1_1,q1_2,q1_3⟩,qf1⟩:=Yq HP1.out))|(go_at_call 45;go_loud (refine(HBO.out _ bq).mono ?_;rintro x w2 ⟨⟨b2,rfl⟩,hb2⟩;have s2:wr.heap.size<w2.heap.size:=Yr hb2 oq;have t2:w.heap.size<w2.heap.size:=Yr hb2 oq;have HN2:=hid ((hb2.block wr.heap.size oq).trans (HN1.out));have HP2:=hid ((hb2.block w.heap.size oq).trans (HP1.out));obtain⟨⟨n2_0,n2_1,n2_2,n2_3,n2_4,n2_5,n2_6,n2_7,n2_8,n2_9⟩,nf2⟩:=QK HN2.out;obtain⟨⟨q2_0,q2_1,q2_2,q2_3⟩,qf2⟩:=Yq HP2.out;cases b2)))
   all_goals (try (go_ret;exact⟨⟨false,rfl,fun h=>by cases h⟩,bq⟩))
   have HB2:=hid (show Below w.heap.size w w2 from bq)
   have HPS4:=hid (HPS.out.below Qq (show Below wr.heap.size wr w2 from bq))
   have hsz2:w.heap.size≤w2.heap.size:=Nat.le_of_lt t2
   clear HND HBO hb1 hb2 HN1 HP1 n1_0 n1_1 n1_2 n1_3 n1_4 n1_5 n1_6 n1_7 n1_8 n1_9 q1_0 q1_1 q1_2 q1_3 n2_0 n2_1 n2_2 n2_3 n2_4 n2_5 n2_6 n2_7 n2_8 n2_9 q2_0 q2_1 q2_2 q2_3
   go_loopw [5] (fun v wr'=>Hid (Zck w2 ps.length v wr')) (fun k _=>ps.length-(intOf k).toNat)
   case atStart=>exact⟨0,rfl,Zk _,Zg _ _⟩
   obtain⟨k,rfl,hk,hb5⟩:=hrel.out
   clear hrel
   have HN5:=hid ((hb5.block _ s2).trans HN2.out)
   have HP5:=hid ((hb5.block _ t2).trans HP2.out)
   obtain⟨⟨m0,m1,m2,m3,m4,m5,m6,m7,m8,m9⟩,mf⟩:=QK HN5.out
   have HB5:=hid (HB2.out.trans (hb5.mono hsz2))
   have HB5k:=hid hb5
   by_cases hkl:k<ps.length
   ·have hkl':(k:Int)<(ps.length:Int):=oq
    clear hb5
    go_wp2
    go_loopw [6] (fun v wr'=>Hid (Zck w2 k v wr')) (fun j _=>k-(intOf j).toNat)
    case atStart=>exact⟨0,rfl,Zk _,HB5k.out⟩
    clear HN5 HP5 m0 m1 m2 m3 m4 m5 m6 m7 m8 m9 mf HB5 HB5k
    obtain⟨j,rfl,hj,hb5⟩:=hrel.out
    clear hrel
    have HN5:=hid ((hb5.block _ s2).trans HN2.out)
    have HP5:=hid ((hb5.block _ t2).trans HP2.out)
    obtain⟨⟨m0,m1,m2,m3,m4,m5,m6,m7,m8,m9⟩,mf⟩:=QK HN5.out
    have HB5:=hid (HB2.out.trans (hb5.mono hsz2))
    have HB5k:=hid hb5
    by_cases hjl:j<k
    ·have hjl':(j:Int)<(k:Int):=oq
     have hpr:=HPS4.out.below Qq hb5
     obtain⟨pb,po,hpa,hpb,hpj,hpjs⟩:=hpr.at (show j<ps.length by omega)
     obtain⟨pb',po',hpa',_,hpk,hpks⟩:=hpr.at hkl
     rw[hpa] at hpa' m1
     injection hpa' with hpa';injection hpa' with e1_ e2_;subst e1_;subst e2_
     rw[Z8] at hpj hpk
     generalize ps[j]=sj at hpj hpjs
     generalize ps[k]=sk at hpk hpks
     have hq:=QW sj sk
     have hjp:(j:Int)<(ps.length:Int):=oq
     clear hb5 hpr hpjs hpks hpa
     by_cases he:sj=sk
     ·rw[Z0 he] at hq
      clear he
      go_wp2
      go_quiet (fail)
      go_wp2
      go_ret
      exact⟨⟨false,rfl,fun h=>by cases h⟩,bq⟩
     rw[ZZ he] at hq
     clear he
     go_wp2
     go_quiet (fail)
     go_wp2
     first|exact⟨⟨j+1,by go_num,oq,bq⟩,by simp[intOf];omega⟩|(go_roundw;(case rel=>first|exact⟨j+1,by go_num,oq,bq⟩|((repeat apply Yg);exact⟨⟨j+1,by go_num,oq,bq⟩,rfl⟩));(case measure=>simp[intOf];omega))
    have hjl':(j:Int)=(k:Int):=oq
    clear hb5
    go_wp2
    first|exact⟨⟨k+1,by go_num,oq,HB5k.out⟩,by simp[intOf];omega⟩|(go_roundw;(case rel=>first|exact⟨k+1,by go_num,oq,HB5k.out⟩|((repeat apply Yg);exact⟨⟨k+1,by go_num,oq,HB5k.out⟩,rfl⟩));(case measure=>simp[intOf];omega))
   have hkl':(k:Int)=(ps.length:Int):=oq
   clear hb5
   go_wp2
   first|exact⟨⟨i+1,by go_num,oq,HP5.out,HB5.out,HSN.out⟩,by simp[intOf];omega⟩|(go_roundw;(case rel=>first|exact⟨i+1,by go_num,oq,HP5.out,HB5.out,HSN.out⟩|((repeat apply Yg);exact⟨⟨i+1,by go_num,oq,HP5.out,HB5.out,HSN.out⟩,rfl⟩));(case measure=>simp[intOf];omega))
  have hnxn:(XY ⟨nodes,ins,flows,outs⟩ nm != (i:Int))=true:=by rw[bne,ZY.2 hnx];rfl
  have hnxi:¬XY ⟨nodes,ins,flows,outs⟩ nm=(i:Int):=hnx
  go_wp2_with (first|(go_at_call 44;go_loud (refine(HND.out _ bq).mono ?_;rintro x w1 ⟨rfl,hb1⟩;have s1:wr.heap.size<w1.heap.size:=Yr hb1 oq;have t1:w.heap.size<w1.heap.size:=Yr hb1 oq;have HN1:=hid ((hb1.block wr.heap.size oq).trans (Yp wr _));have HP1:=hid ((hb1.block w.heap.size oq).trans ((Za _ _ _ hplt).trans HPB.out));obtain⟨⟨n1_0,n1_1,n1_2,n1_3,n1_4,n1_5,n1_6,n1_7,n1_8,n1_9⟩,nf1⟩:=QK HN1.out;obtain⟨⟨q1_0,q1_1,q1_2,q1_3⟩,qf1⟩:=Yq HP1.out)))
  all_goals first|(exfalso;exact hnxi (by assumption))|(go_ret;exact⟨⟨false,rfl,fun h=>by cases h⟩,bq⟩)
 clear hbel
 have HSN2:=hid (show ∀j (hj:j<nodes.length),XY ⟨nodes,ins,flows,outs⟩ nodes[j].nm=(j:Int) from fun j hj=>HS.out j hj oq)
 go_wp2
 go_loopw [7] (fun v wr=>Hid (j7 w ⟨nodes,ins,flows,outs⟩ an ai af ao cn ci cf co ins.length (fun i=>∀j (hj:j<ins.length),j<i→YH ⟨nodes,ins,flows,outs⟩ ins[j].nm=(j:Int)) v wr)) (fun i _=>ins.length-(intOf i).toNat)
 case atStart=>exact⟨0,rfl,Zk _,HPB.out,HBEL.out,fun j hj h=>absurd h oq⟩
 clear HPB HBEL hplt hszr x0 x1 x2 x3 xf
 obtain⟨i,rfl,hi,hpb,hbel,hS⟩:=hrel.out
 clear hrel
 try simp only at hS
 unfold XS at hpb
 simp only at hpb
 obtain⟨⟨x0,x1,x2,x3⟩,xf⟩:=Yq hpb
 have HPB:=hid hpb
 have HBEL:=hid hbel
 have hplt:=Zb hpb
 have hszr:=hbel.size
 have HS:=hid hS
 clear hpb hS
 by_cases hlt:i<ins.length
 ·obtain⟨bb,oo,rfl,hbb0,hin0⟩:=HP.out.ins.at hlt
  have hin:=KJ w wr bb _ _ hbel hbb0 hin0
  have hbb:=Zd hbb0 hszr
  obtain⟨y0,_⟩:=hin
  have hie:(i:Int)<(ins.length:Int):=oq
  have HX:=hid (show ∀hj:i<ins.length,ins[i].nm=ins[i].nm from fun _=>rfl)
  generalize hnm:ins[i].nm=nmx at y0
  have HNM:=hid hnm
  have HFL:=hid (fun(w':World) (h:Below wr.heap.size wr w')=>Uj (w:=w') ⟨nodes,ins,flows,outs⟩ an (some ⟨bb,oo,none⟩) af ao cn ci cf co nmx ((HP.out.below HBEL.out).below h) h2 h3)
  unfold pv at HFL
  simp only at HFL
  clear hbel hin0 hbb0 hnm HX
  by_cases hfx:YH ⟨nodes,ins,flows,outs⟩ nmx=(i:Int)
  ·rw[hfx] at HFL
   have hq:((i:Int) == (i:Int))=true:=by simp
   have HFX:=hid hfx
   clear hfx
   go_wp2
   go_region_with (go_at_call 46;go_loud (refine(HFL.out _ bq).mono ?_;rintro x w2 ⟨rfl,hb2⟩))
   all_goals go_wp2
   all_goals (exact⟨⟨i+1,by go_num,oq,(hb2.block _ hplt).trans HPB.out,bq,V5 (α:=IN) (P:=fun j (x:IN)=>YH ⟨nodes,ins,flows,outs⟩ x.nm=(j:Int)) HS.out (fun hj=>by show YH ⟨nodes,ins,flows,outs⟩ ins[i].nm=(i:Int);rw[HNM.out];exact HFX.out)⟩,by simp[intOf];omega⟩)
  have hfx':((YH ⟨nodes,ins,flows,outs⟩ nmx) == (i:Int))=false:=ZY.2 hfx
  have hfxn:((YH ⟨nodes,ins,flows,outs⟩ nmx) != (i:Int))=true:=by rw[bne,hfx'];rfl
  go_wp2
  go_region_with (go_at_call 46;go_loud (refine(HFL.out _ bq).mono ?_;rintro x w2 ⟨rfl,hb2⟩))
  all_goals go_wp2
  all_goals (go_ret;exact⟨⟨false,rfl,fun h=>by cases h⟩,bq⟩)
 have HSI:=hid (show ∀j (hj:j<ins.length),YH ⟨nodes,ins,flows,outs⟩ ins[j].nm=(j:Int) from fun j hj=>HS.out j hj oq)
 clear HS hbel
 go_wp2
 go_loopw [8] (fun v wr=>Hid (j7 w ⟨nodes,ins,flows,outs⟩ an ai af ao cn ci cf co flows.length (fun i=>∀j (hj:j<flows.length),j<i→(YH ⟨nodes,ins,flows,outs⟩ flows[j].nm=(ins.length:Int)+(j:Int)∧nq1 ⟨nodes,ins,flows,outs⟩ flows[j].e.k flows[j].e.nm flows[j].e.args.len=true∧nqL ⟨nodes,ins,flows,outs⟩ flows[j].e.args=true)) v wr)) (fun i _=>flows.length-(intOf i).toNat)
 case atStart=>exact⟨0,rfl,Zk _,HPB.out,HBEL.out,fun j hj h=>absurd h oq⟩
 clear HPB HBEL hplt hszr x0 x1 x2 x3 xf
 obtain⟨i,rfl,hi,hpb,hbel,hS⟩:=hrel.out
 clear hrel
 try simp only at hS
 unfold XS at hpb
 simp only at hpb
 obtain⟨⟨x0,x1,x2,x3⟩,xf⟩:=Yq hpb
 have HPB:=hid hpb
 have HBEL:=hid hbel
 have hplt:=Zb hpb
 have hszr:=hbel.size
 have HS:=hid hS
 clear hpb hS
 by_cases hlt:i<flows.length
 ·obtain⟨bb,oo,rfl,hbb0,hfl0⟩:=HP.out.flows.at hlt
  have hfl:=JU w wr bb _ _ hbel hbb0 hfl0
  have hbb:=Zd hbb0 hszr
  obtain⟨x,hx⟩:∃x,flows[i]=x:=⟨_,rfl⟩
  have HX:=hid hx
  rw[hx] at hfl
  obtain⟨nm,⟨k1,nm1_,n1,d1,args1,a1⟩,fa⟩:=x
  obtain⟨ad,cap,y0,y1,y2,y3,y4,y5,y6,y7,hae,hfn⟩:=hfl.cells
  have HA:=hid hae
  have HFC:=hid hfl
  have hie:(i:Int)<(flows.length:Int):=oq
  have HFL:=hid (fun(w':World) (h:Below wr.heap.size wr w')=>Uj (w:=w') ⟨nodes,ins,flows,outs⟩ an ai (some ⟨bb,oo,none⟩) ao cn ci cf co nm ((HP.out.below HBEL.out).below h) h2 h3)
  have HEX:=hid (fun(w':World) (h:Below wr.heap.size wr w')=>uS ⟨nodes,ins,flows,outs⟩ an ai (some ⟨bb,oo,none⟩) ao cn ci cf co h1 h2 h3 ⟨k1,nm1_,n1,d1,args1,a1⟩ w' ad cap ((HP.out.below HBEL.out).below h) (HA.out.below h))
  unfold pv at HFL HEX
  unfold Gp at HEX
  simp only at HFL HEX
  clear hbel hfl hfl0 hbb0 hx hae hfn
  by_cases hfx:YH ⟨nodes,ins,flows,outs⟩ nm=(ins.length:Int)+(i:Int)
  ·rw[hfx] at HFL
   have HFX:=hid hfx
   clear hfx
   have hii:(((ins.length:Int)+(i:Int)) != ((ins.length:Int)+(i:Int)))=false:=by simp
   have hwr:IntKind.i64.wrap ((ins.length:Int)+(i:Int))=(ins.length:Int)+(i:Int):=ZK _ oq
   go_wp2
   go_region_held3 (fun w'=>w'.cell? ⟨w.heap.size,0,none⟩=some (.slice an nodes.length cn)∧w'.cell? ⟨w.heap.size,1,none⟩=some (.slice ai ins.length ci)∧w'.cell? ⟨w.heap.size,2,none⟩=some (.slice (some ⟨bb,oo,none⟩) flows.length cf)∧w'.cell? ⟨w.heap.size,3,none⟩=some (.slice ao outs.length co)∧w'.cell? ⟨bb,oo+i*8,none⟩=some (.string nm)∧w'.cell? ⟨bb,oo+i*8+1,none⟩=some (.int .i64 k1)∧w'.cell? ⟨bb,oo+i*8+2,none⟩=some (.string nm1_)∧w'.cell? ⟨bb,oo+i*8+3,none⟩=some (.int .i64 n1)∧w'.cell? ⟨bb,oo+i*8+4,none⟩=some (.int .i64 d1)∧w'.cell? ⟨bb,oo+i*8+5,none⟩=some (.slice ad args1.len cap)∧w'.cell? ⟨bb,oo+i*8+6,none⟩=some (.int .i64 a1)∧w'.cell? ⟨bb,oo+i*8+7,none⟩=some (.int .i64 fa)) (go_keep) (first|(go_at_call 46;go_loud (refine(HFL.out _ bq).mono ?_;rintro x w2 ⟨rfl,hb2⟩;have hb2k:Below wr.heap.size wr w2:=(by first|exact hb2|exact jA hb2);have s2:w.heap.size<w2.heap.size:=Zd hplt hb2k.size;have s3:bb<w2.heap.size:=Zd hbb hb2k.size;have k2_0:w2.cell? ⟨w.heap.size,0,none⟩=some (.slice an nodes.length cn):=YQ hb2k hplt x0;have k2_1:w2.cell? ⟨w.heap.size,1,none⟩=some (.slice ai ins.length ci):=YQ hb2k hplt x1;have k2_2:w2.cell? ⟨w.heap.size,2,none⟩=some (.slice (some ⟨bb,oo,none⟩) flows.length cf):=YQ hb2k hplt x2;have k2_3:w2.cell? ⟨w.heap.size,3,none⟩=some (.slice ao outs.length co):=YQ hb2k hplt x3;have k2_4:w2.cell? ⟨bb,oo+i*8,none⟩=some (.string nm):=YQ hb2k hbb y0;have k2_5:w2.cell? ⟨bb,oo+i*8+1,none⟩=some (.int .i64 k1):=YQ hb2k hbb y1;have k2_6:w2.cell? ⟨bb,oo+i*8+2,none⟩=some (.string nm1_):=YQ hb2k hbb y2;have k2_7:w2.cell? ⟨bb,oo+i*8+3,none⟩=some (.int .i64 n1):=YQ hb2k hbb y3;have k2_8:w2.cell? ⟨bb,oo+i*8+4,none⟩=some (.int .i64 d1):=YQ hb2k hbb y4;have k2_9:w2.cell? ⟨bb,oo+i*8+5,none⟩=some (.slice ad args1.len cap):=YQ hb2k hbb y5;have k2_10:w2.cell? ⟨bb,oo+i*8+6,none⟩=some (.int .i64 a1):=YQ hb2k hbb y6;have k2_11:w2.cell? ⟨bb,oo+i*8+7,none⟩=some (.int .i64 fa):=YQ hb2k hbb y7))|(go_at_call 47;go_loud (refine(HEX.out _ bq).mono ?_;rintro x w3 ⟨⟨b2,rfl,hbt⟩,hb3⟩;have hb3k:Below w2.heap.size w2 w3:=(by first|exact hb3|exact jA hb3);have k3_0:w3.cell? ⟨w.heap.size,0,none⟩=some (.slice an nodes.length cn):=YQ hb3k s2 k2_0;have k3_1:w3.cell? ⟨w.heap.size,1,none⟩=some (.slice ai ins.length ci):=YQ hb3k s2 k2_1;have k3_2:w3.cell? ⟨w.heap.size,2,none⟩=some (.slice (some ⟨bb,oo,none⟩) flows.length cf):=YQ hb3k s2 k2_2;have k3_3:w3.cell? ⟨w.heap.size,3,none⟩=some (.slice ao outs.length co):=YQ hb3k s2 k2_3;have k3_4:w3.cell? ⟨bb,oo+i*8,none⟩=some (.string nm):=YQ hb3k s3 k2_4;have k3_5:w3.cell? ⟨bb,oo+i*8+1,none⟩=some (.int .i64 k1):=YQ hb3k s3 k2_5;have k3_6:w3.cell? ⟨bb,oo+i*8+2,none⟩=some (.string nm1_):=YQ hb3k s3 k2_6;have k3_7:w3.cell? ⟨bb,oo+i*8+3,none⟩=some (.int .i64 n1):=YQ hb3k s3 k2_7;have k3_8:w3.cell? ⟨bb,oo+i*8+4,none⟩=some (.int .i64 d1):=YQ hb3k s3 k2_8;have k3_9:w3.cell? ⟨bb,oo+i*8+5,none⟩=some (.slice ad args1.len cap):=YQ hb3k s3 k2_9;have k3_10:w3.cell? ⟨bb,oo+i*8+6,none⟩=some (.int .i64 a1):=YQ hb3k s3 k2_10;have k3_11:w3.cell? ⟨bb,oo+i*8+7,none⟩=some (.int .i64 fa):=YQ hb3k s3 k2_11)))
   all_goals cases b2
   all_goals go_wp2
   all_goals first|(go_ret;exact⟨⟨false,rfl,fun h=>by cases h⟩,bq⟩)|exact⟨⟨i+1,by go_num,oq,(hb3k.block _ s2).trans ((hb2k.block _ hplt).trans HPB.out),bq,V5 (α:=FL) (P:=fun j (x:FL)=>YH ⟨nodes,ins,flows,outs⟩ x.nm=(ins.length:Int)+(j:Int)∧nq1 ⟨nodes,ins,flows,outs⟩ x.e.k x.e.nm x.e.args.len=true∧nqL ⟨nodes,ins,flows,outs⟩ x.e.args=true) HS.out (fun hj=>by rw[HX.out];exact⟨HFX.out,hbt rfl⟩)⟩,by simp[intOf];omega⟩
  obtain⟨fx,hfx0⟩:∃fx,YH ⟨nodes,ins,flows,outs⟩ nm=fx:=⟨_,rfl⟩
  rw[hfx0] at HFL hfx
  have hfxe:(fx == ((ins.length:Int)+(i:Int)))=false:=ZY.2 hfx
  have hfxn:(fx != ((ins.length:Int)+(i:Int)))=true:=by rw[bne,hfxe];rfl
  have hfxd:decide (fx=(ins.length:Int)+(i:Int))=false:=ZZ hfx
  clear hfx0
  have hwr:IntKind.i64.wrap ((ins.length:Int)+(i:Int))=(ins.length:Int)+(i:Int):=ZK _ oq
  go_wp2
  refine ZO (S:=(fun w'=>w'.cell? ⟨w.heap.size,0,none⟩=some (.slice an nodes.length cn)∧w'.cell? ⟨w.heap.size,1,none⟩=some (.slice ai ins.length ci)∧w'.cell? ⟨w.heap.size,2,none⟩=some (.slice (some ⟨bb,oo,none⟩) flows.length cf)∧w'.cell? ⟨w.heap.size,3,none⟩=some (.slice ao outs.length co)∧w'.cell? ⟨bb,oo+i*8,none⟩=some (.string nm)∧w'.cell? ⟨bb,oo+i*8+1,none⟩=some (.int .i64 k1)∧w'.cell? ⟨bb,oo+i*8+2,none⟩=some (.string nm1_)∧w'.cell? ⟨bb,oo+i*8+3,none⟩=some (.int .i64 n1)∧w'.cell? ⟨bb,oo+i*8+4,none⟩=some (.int .i64 d1)∧w'.cell? ⟨bb,oo+i*8+5,none⟩=some (.slice ad args1.len cap)∧w'.cell? ⟨bb,oo+i*8+6,none⟩=some (.int .i64 a1)∧w'.cell? ⟨bb,oo+i*8+7,none⟩=some (.int .i64 fa))) kq ?_ (fun hHeld=>?_)
  ·go_keep
  refine tk 0 (by assumption) ?_
  refine tk 1 (by assumption) ?_
  refine tk 2 (by assumption) ?_
  refine tk 3 (by assumption) ?_
  refine tk 4 (by assumption) ?_
  refine tk 5 (by assumption) ?_
  refine tk 6 (by assumption) ?_
  refine tk 8 (by assumption) ?_
  refine tk 9 (by assumption) ?_
  refine tk 10 (by assumption) ?_
  refine tk 11 (by assumption) ?_
  refine tk 12 (by assumption) ?_
  refine ZV (rs:=[7]) kq (by simp) ?_
  refine ZH rfl (fun K hK=>?_) AllReadyH.nil
  try simp only[List.getElem_toArray,List.getElem_cons_succ,List.getElem_cons_zero,Array.getInternal_eq_getElem]
  go_simp
  (go_at_call 46;go_loud (refine(HFL.out _ bq).mono ?_;rintro x w2 ⟨rfl,hb2⟩;have hb2k:Below wr.heap.size wr w2:=(by first|exact hb2|exact jA hb2);have s2:w.heap.size<w2.heap.size:=Zd hplt hb2k.size;have s3:bb<w2.heap.size:=Zd hbb hb2k.size;have k2_0:w2.cell? ⟨w.heap.size,0,none⟩=some (.slice an nodes.length cn):=YQ hb2k hplt x0;have k2_1:w2.cell? ⟨w.heap.size,1,none⟩=some (.slice ai ins.length ci):=YQ hb2k hplt x1;have k2_2:w2.cell? ⟨w.heap.size,2,none⟩=some (.slice (some ⟨bb,oo,none⟩) flows.length cf):=YQ hb2k hplt x2;have k2_3:w2.cell? ⟨w.heap.size,3,none⟩=some (.slice ao outs.length co):=YQ hb2k hplt x3;have k2_4:w2.cell? ⟨bb,oo+i*8,none⟩=some (.string nm):=YQ hb2k hbb y0;have k2_5:w2.cell? ⟨bb,oo+i*8+1,none⟩=some (.int .i64 k1):=YQ hb2k hbb y1;have k2_6:w2.cell? ⟨bb,oo+i*8+2,none⟩=some (.string nm1_):=YQ hb2k hbb y2;have k2_7:w2.cell? ⟨bb,oo+i*8+3,none⟩=some (.int .i64 n1):=YQ hb2k hbb y3;have k2_8:w2.cell? ⟨bb,oo+i*8+4,none⟩=some (.int .i64 d1):=YQ hb2k hbb y4;have k2_9:w2.cell? ⟨bb,oo+i*8+5,none⟩=some (.slice ad args1.len cap):=YQ hb2k hbb y5;have k2_10:w2.cell? ⟨bb,oo+i*8+6,none⟩=some (.int .i64 a1):=YQ hb2k hbb y6;have k2_11:w2.cell? ⟨bb,oo+i*8+7,none⟩=some (.int .i64 fa):=YQ hb2k hbb y7))
  refine hK.out _ _ ?_ (fun hHeld2=>?_)
  ·go_keep
  clear hK K
  refine tk 13 (by assumption) ?_
  refine tk 14 (by assumption) ?_
  refine tu 15 (by assumption) ?_
  refine tu 16 (by assumption) ?_
  refine tu 17 (by assumption) ?_
  refine tu 18 (by assumption) ?_
  refine tu 19 (by assumption) ?_
  refine tu 20 (by assumption) ?_
  refine tu 21 (by assumption) ?_
  refine tu 22 (by assumption) ?_
  refine tu 23 (by assumption) ?_
  refine tk 24 (by assumption) ?_
  refine Zy kq ?_ _
  all_goals go_wp2
  all_goals first|(go_ret;exact⟨⟨false,rfl,fun h=>by cases h⟩,bq⟩)
 have HSF:=hid (show ∀j (hj:j<flows.length),(YH ⟨nodes,ins,flows,outs⟩ flows[j].nm=(ins.length:Int)+(j:Int)∧nq1 ⟨nodes,ins,flows,outs⟩ flows[j].e.k flows[j].e.nm flows[j].e.args.len=true∧nqL ⟨nodes,ins,flows,outs⟩ flows[j].e.args=true) from fun j hj=>HS.out j hj oq)
 clear HS hbel
 go_wp2
 go_loopw [9] (fun v wr=>Hid (j7 w ⟨nodes,ins,flows,outs⟩ an ai af ao cn ci cf co outs.length (fun i=>∀j (hj:j<outs.length),j<i→(ins.length:Int)≤YH ⟨nodes,ins,flows,outs⟩ outs[j].fl) v wr)) (fun i _=>outs.length-(intOf i).toNat)
 case atStart=>exact⟨0,rfl,Zk _,HPB.out,HBEL.out,fun j hj h=>absurd h (Yk _)⟩
 clear HPB HBEL hplt hszr x0 x1 x2 x3 xf
 obtain⟨i,rfl,hi,hpb,hbel,hS⟩:=hrel.out
 clear hrel
 try simp only at hS
 unfold XS at hpb
 simp only at hpb
 obtain⟨⟨x0,x1,x2,x3⟩,xf⟩:=Yq hpb
 have HPB:=hid hpb
 have HBEL:=hid hbel
 have hplt:=Zb hpb
 have hszr:=hbel.size
 have HS:=hid hS
 clear hpb hS
 by_cases hlt:i<outs.length
 ·obtain⟨bb,oo,rfl,hbb0,hou0⟩:=HP.out.outs.at hlt
  have hou:=xP w wr bb _ _ hbel hbb0 hou0
  have hbb:=Zd hbb0 hszr
  obtain⟨x,hx⟩:∃x,outs[i]=x:=⟨_,rfl⟩
  rw[hx] at hou
  obtain⟨nm,fl,dl,fa⟩:=x
  obtain⟨y0,y1,y2,y3,hfn⟩:=hou
  simp only at y0 y1 y2 y3
  have hie:(i:Int)<(outs.length:Int):=oq
  obtain⟨W1,hW1⟩:∃W1,wr.alloc (Obj.cells #[.string nm,.string fl,.int .i64 dl,.int .i64 fa] 113)=W1:=⟨_,rfl⟩
  obtain⟨ob,hob⟩:∃ob,wr.heap.size=ob:=⟨_,rfl⟩
  have HO1:=hid (show W1.heap[ob]?=some _ from by rw[←hW1,←hob];exact Yp wr _)
  have HP1:=hid (show W1.heap[w.heap.size]?=some _ from by rw[←hW1];exact(Za _ _ _ hplt).trans HPB.out)
  have HB1:=hid (show Below w.heap.size w W1 from by rw[←hW1];exact hbel.alloc hszr _)
  have hw1:W1.heap.size=ob+1:=by rw[←hW1,←hob];simp
  have HXO:=hid hx
  clear hbel hou0 hbb0 hx hfn
  go_wp2
  try rw[hW1]
  try rw[hob]
  rw[hob] at hplt hszr hbb
  clear hW1 hob x0 x1 x2 x3 xf y0 y1 y2 y3 HPB HBEL
  go_loopw [11] (fun v wr'=>Hid (Zck W1 i v wr')) (fun j _=>i-(intOf j).toNat)
  case atStart=>exact⟨0,rfl,Zk _,Zg _ _⟩
  obtain⟨j,rfl,hj,hb5⟩:=hrel.out
  clear hrel
  have hs5:=hb5.size
  have HO5:=hid ((hb5.block ob oq).trans HO1.out)
  have HP5:=hid ((hb5.block w.heap.size oq).trans HP1.out)
  obtain⟨⟨o0,o1,o2,o3⟩,of_⟩:=Yq HO5.out
  obtain⟨⟨z0,z1,z2,z3⟩,zf⟩:=Yq HP5.out
  have HB5:=hid (HB1.out.trans (hb5.mono oq))
  have HB5k:=hid hb5
  by_cases hjl:j<i
  ·have hjl':(j:Int)<(i:Int):=oq
   have hrow:=HP.out.outs.below xP HB5.out
   obtain⟨bb2,oo2,hbo2,hbbl,hoj⟩:=hrow.at (show j<outs.length by omega)
   injection hbo2 with hbo2;injection hbo2 with e1_ e2_;subst e1_;subst e2_
   obtain⟨yj,_⟩:=hoj
   generalize outs[j].nm=sj at yj
   have hq:=QW sj nm
   have hjp:(j:Int)<(outs.length:Int):=oq
   clear hb5 hrow
   by_cases he:sj=nm
   ·rw[Z0 he] at hq
    clear he
    go_wp2
    go_quiet (fail)
    go_wp2
    go_ret
    exact⟨⟨false,rfl,fun h=>by cases h⟩,bq⟩
   rw[ZZ he] at hq
   clear he
   go_wp2
   go_quiet (fail)
   go_wp2
   first|exact⟨⟨j+1,by go_num,oq,bq⟩,by simp[intOf];omega⟩|(go_roundw;(case rel=>first|exact⟨j+1,by go_num,oq,bq⟩|((repeat apply Yg);exact⟨⟨j+1,by go_num,oq,bq⟩,rfl⟩));(case measure=>simp[intOf];omega))
  have hjl':(j:Int)=(i:Int):=oq
  have HFL:=hid (fun(w':World) (h:Below wr.heap.size wr w')=>Uj (w:=w') ⟨nodes,ins,flows,outs⟩ an ai af (some ⟨bb,oo,none⟩) cn ci cf co fl ((HP.out.below HB5.out).below h) h2 h3)
  unfold pv at HFL
  simp only at HFL
  clear hb5
  have hpl5:w.heap.size<wr.heap.size:=oq
  by_cases hfx:YH ⟨nodes,ins,flows,outs⟩ fl<(ins.length:Int)
  ·have hfd:decide (YH ⟨nodes,ins,flows,outs⟩ fl<(ins.length:Int))=true:=Z0 hfx
   go_wp2
   go_region_with (first|(go_at_call 46;go_loud (refine(HFL.out _ bq).mono ?_;rintro x w2 ⟨rfl,hb2⟩;have s2:w.heap.size<w2.heap.size:=Yr hb2 oq;have hp2:=(hb2.block _ hpl5).trans HP5.out;obtain⟨⟨p2_0,p2_1,p2_2,p2_3⟩,pf2⟩:=Yq hp2;clear hp2)))
   all_goals go_wp2
   all_goals (go_ret;exact⟨⟨false,rfl,fun h=>by cases h⟩,bq⟩)
  have hfd:decide (YH ⟨nodes,ins,flows,outs⟩ fl<(ins.length:Int))=false:=ZZ hfx
  have hfi:(ins.length:Int)≤YH ⟨nodes,ins,flows,outs⟩ fl:=oq
  have HONE:=hid (V5 (α:=OU) (P:=fun j (x:OU)=>(ins.length:Int)≤YH ⟨nodes,ins,flows,outs⟩ x.fl) HS.out (fun hj=>by rw[HXO.out];exact hfi))
  go_wp2
  go_region_with (first|(go_at_call 46;go_loud (refine(HFL.out _ bq).mono ?_;rintro x w2 ⟨rfl,hb2⟩;have s2:w.heap.size<w2.heap.size:=Yr hb2 oq;have hp2:=(hb2.block _ hpl5).trans HP5.out;obtain⟨⟨p2_0,p2_1,p2_2,p2_3⟩,pf2⟩:=Yq hp2;clear hp2)))
  all_goals go_wp2
  all_goals first|exact⟨⟨i+1,by go_num,oq,(hb2.block _ hpl5).trans HP5.out,bq,HONE.out⟩,by simp[intOf];omega⟩|(go_roundw;(case rel=>first|exact⟨i+1,by go_num,oq,(hb2.block _ hpl5).trans HP5.out,bq,HONE.out⟩|((repeat apply Yg);exact⟨⟨i+1,by go_num,oq,(hb2.block _ hpl5).trans HP5.out,bq,HONE.out⟩,rfl⟩));(case measure=>simp[intOf];omega))
 clear hbel
 go_wp2
 go_ret
 exact⟨⟨true,rfl,fun _=>⟨HSI.out,HSF.out,fun j hj=>HS.out j hj (Zd (show j<outs.length from hj) oq),HSN2.out⟩⟩,HBEL.out⟩
open Go.RowKit Go.Shelf
def xI (p:PG):IE:=inI ((YI p.flows 0).map Prod.snd) 0 (fun _=>none)
def fI (p:PG):IE:=inI (p.flows.map (·.nm)) 0 (fun _=>none)
def iI (p:PG):IE:=inI (p.ins.map (·.nm)) 0 (fun _=>none)
def nI (p:PG):IE:=inI (p.nodes.map (·.nm)) 0 (fun _=>none)
def zj (p:PG) (env:Env):Env:=U8 env p.flows (YX p.ins)
theorem Km {p:PG} {nm:ByteArray} {j:Nat} (h:fI p nm=some j):∃hj:j<p.flows.length,p.flows[j].nm=nm:=by
 rcases GU _ 0 _ nm j h with ⟨h1,_,h3⟩|h1
 ·have h4:j<p.flows.length:=by simpa using h1
  refine⟨h4,?_⟩
  simpa using h3
 cases h1
theorem eV {p:PG} {nm:ByteArray} (h:(p.ins.length:Int)≤YH p nm):∃f∈p.flows,f.nm=nm:=by
 unfold YH at h
 cases h1:XQ IN.nm nm p.ins 0 with
 | some i =>
  rw[h1] at h
  obtain⟨j,hj,x,hx,_⟩:=VG IN.nm nm p.ins 0 i h1
  have:=(ZA.1 hx).1
  simp only at h
  omega
 | none =>
  rw[h1] at h
  cases h2:XQ FL.nm nm p.flows 0 with
  | none=>rw[h2] at h;simp only at h;omega
  | some i =>
   obtain⟨j,hj,x,hx,hxn⟩:=VG FL.nm nm p.flows 0 i h2
   exact⟨x,Ya hx,hxn⟩
theorem eA {p:PG} {nm:ByteArray} (h:(p.ins.length:Int)≤YH p nm):∃j,fI p nm=some j∧j<p.flows.length:=by
 obtain⟨f,hf,hn⟩:=eV h
 have h1:=Ey (p.flows.map (·.nm)) 0 (fun _=>none) nm (Ye.2 ⟨f,hf,hn⟩)
 cases h2:fI p nm with
 | none=>exact absurd h2 h1
 | some j=>exact⟨j,rfl,(Km h2).1⟩
theorem Eu:∀(l:List IN) (e:Env) (nm:ByteArray),UT l e nm≠none→(∃x∈l,x.nm=nm)∨e nm≠none
 | [],e,nm,h=>.inr h
 | x::l,e,nm,h=>by
  rcases Eu l _ nm h with ⟨y,hy,hn⟩|h1
  ·exact .inl ⟨y,List.mem_cons_of_mem _ hy,hn⟩
  by_cases he:nm=x.nm
  ·exact .inl ⟨x,by simp,he.symm⟩
  refine .inr ?_
  unfold upd at h1
  rw[Z1 he] at h1
  exact h1
theorem zx {p:PG} {env:Env} (hok:Jy p) (hN:UJ p) (hC:qD p env):∀e:PE,YE e=true→Y7 p.flows p.ins.length (xI p) (fI p) (iI p) e:=by
 have hu:∀i j (hi:i<p.flows.length) (hj:j<p.flows.length),p.flows[i].nm=p.flows[j].nm→i=j:=by
  intro i j hi hj h
  have h1:=(hN.flows i hi).1
  have h2:=(hN.flows j hj).1
  rw[h] at h1
  omega
 have h0:∀nm,YX p.ins nm≠none→fI p nm=none:=by
  intro nm h
  cases hf:fI p nm with
  | none=>rfl
  | some j =>
   exfalso
   obtain⟨hj,hjn⟩:=Km hf
   have h1:=(hN.flows j hj).1
   rw[hjn] at h1
   rcases Eu p.ins _ nm h with ⟨x,hx,hxn⟩|h2
   ·obtain⟨i,hi,hxi⟩:=Yl hx
    have h3:=hN.ins i hi
    rw[hxi,hxn] at h3
    omega
   exact h2 rfl
 have hf:=qH (nI:=p.ins.length) (xIx:=xI p) (iIx:=iI p) hC.gr h0 (fun f hf=>(hok.flows f hf).2) hu (fun nm j h=>Km h)
 intro e hex
 refine kp (fun nm j hj=>?_) _ e (ZW _) hex
 obtain⟨hjl,hjn⟩:=Km hj
 obtain⟨pp,q,_,hq⟩:=hC.flows _ (Zi hjl)
 rw[hjn] at hq
 exact hf nm (by rw[hq];simp) j hj
theorem zK:∀(l:List ByteArray) (i:Nat) (e:IE) (B:Nat),i+l.length≤B→(∀k j,e k=some j→j≤B)→∀k j,inI l i e k=some j→j≤B:=by
 intro l i e B hB he k j h
 rcases GU l i e k j h with ⟨h1,h2,_⟩|h1
 ·omega
 exact he k j h1
def VC (p:PG) (env:Env) (base:Nat) (w:World) (v:Value):Prop :=
 ∃vI vN vT vL,v=.agg #[vI,vN,vT,vL]∧Y6 xi 62 2 w base vI (p.ins.map (fun x=>(x.per,x.ph)))∧Y6 Ui 90 10 w base vN p.nodes ∧
  Y6 (QI base) 65 4 w base vT ((YI p.flows 0).map (tkR p (xI p) (fI p) (iI p) (nI p) (zj p env)))∧Y6 (QS base) 71 5 w base vL (p.outs.map (tlR p (xI p) (fI p) (iI p) (zj p env)))
def QE:Value:=.agg #[.slice none 0 0,.slice none 0 0,.slice none 0 0,.slice none 0 0]
def vi (p:PG) (base:Nat) (x:Ending) (w':World):Prop :=
 (∃a e,e≠0∧x=.returned (.tuple #[QE,.int .i64 a,.int .i64 e])) ∨
  ∃v env,x=.returned (.tuple #[v,.int .i64 0,.int .i64 0])∧VC p env base w' v∧qD p env∧(YI p.flows 0).length≤30∧JC p (xI p) (fI p) (iI p) p.flows 0=true
theorem VC.below {p:PG} {env:Env} {base:Nat} {w w':World} {v:Value} (h:VC p env base w v) (hb:Below w.heap.size w w'):VC p env base w' v:=by
 obtain⟨vI,vN,vT,vL,h0,h1,h2,h3,h4⟩:=h
 exact⟨vI,vN,vT,vL,h0,h1.below hb (fun c x hc=>hc),h2.below hb (fun c x hc=>hc.below hb),h3.below hb (fun c x hc=>hc.below hb),h4.below hb (fun c x hc=>hc.below hb)⟩
theorem VC.mono {p:PG} {env:Env} {base base':Nat} {w:World} {v:Value} (h:VC p env base w v) (hb:base'≤base):VC p env base' w v:=by
 obtain⟨vI,vN,vT,vL,h0,h1,h2,h3,h4⟩:=h
 exact⟨vI,vN,vT,vL,h0,h1.mono hb (fun c x hc=>hc),h2.mono hb (fun c x hc=>hc),h3.mono hb (fun c x hc=>hc.mono hb),h4.mono hb (fun c x hc=>VF hc hb)⟩
theorem VC.form {p:PG} {env:Env} {base:Nat} {w:World} {v:Value} (h:VC p env base w v):∃aI cI aN cN aT cT aL cL,v=.agg #[.slice aI p.ins.length cI,.slice aN p.nodes.length cN,.slice aT (YI p.flows 0).length cT,.slice aL p.outs.length cL]:=by
 obtain⟨vI,vN,vT,vL,rfl,h1,h2,h3,h4⟩:=h
 obtain⟨aI,cI,rfl⟩:=h1.form
 obtain⟨aN,cN,rfl⟩:=h2.form
 obtain⟨aT,cT,rfl⟩:=h3.form
 obtain⟨aL,cL,rfl⟩:=h4.form
 simp only[Zo]
 exact⟨aI,cI,aN,cN,aT,cT,aL,cL,rfl⟩
theorem eh {w:World} (p:PG) (an ai af ao:Option Addr) (cn ci cf co:Nat) (hp:AP w p an ai af ao cn ci cf co) (hz:NZ w p.nodes an) (hok:Jy p) (hN:UJ p) (hps:∀x∈p.nodes,x.ps.length≤1000) (l:List (Int × Int)) (bc:Nat) (hbc:bc<w.heap.size) (hl:l.length≤1000) (hc:zl w bc l) :
  Calls Tryz.prog 20 #[pv p an ai af ao cn ci cf co,.slice (some ⟨bc,0,none⟩) l.length l.length] w fun x w'=>vi p w.heap.size x w'∧Below w.heap.size w w':=by
 have HASK:=hid (fun(w':World) (hb:Below w.heap.size w w')=>kE (w:=w') p an ai af ao cn ci cf co (hp.below hb) (hz.below hp.nodes hb) hok l bc (Zd hbc hb.size) hl (fun i h=>⟨(hb.cell (p:=⟨bc,i*2,none⟩) hbc).trans (hc i h).1,(hb.cell (p:=⟨bc,i*2+1,none⟩) hbc).trans (hc i h).2⟩))
 have HNEW:=hid (fun(w':World) (hb:Below w.heap.size w w') (env:Env) (he:p.flows.map (fun f=>Jw env f.nm)=l)=>zc (w:=w') p an ai af ao cn ci cf co (hp.below hb) hok env bc (Zd hbc hb.size) l he (fun i h=>⟨(hb.cell (p:=⟨bc,i*2,none⟩) hbc).trans (hc i h).1,(hb.cell (p:=⟨bc,i*2+1,none⟩) hbc).trans (hc i h).2⟩))
 have HP:=hid hp
 have HOK:=hid hok
 have HNM:=hid hN
 have HPS:=hid hps
 clear hp hz hok hN hps hc
 unfold pv at *
 go_enter Tryz.func20,Tryz.ntmps20
 go_upto_region 1 with fail
 obtain⟨W2,hW2⟩:∃W2,(w.alloc (.cells #[.slice an p.nodes.length cn,.slice ai p.ins.length ci,.slice af p.flows.length cf,.slice ao p.outs.length co] 27)).alloc (.cells #[.slice none 0 0,.slice none 0 0,.slice none 0 0,.slice none 0 0] 34)=W2:=⟨_,rfl⟩
 rw[hW2]
 have hB:Below w.heap.size w W2:=by rw[←hW2];exact bq
 have hs2:w.heap.size+2≤W2.heap.size:=by rw[←hW2];simp
 have hq0:W2.heap[w.heap.size]?=some (.cells #[.slice an p.nodes.length cn,.slice ai p.ins.length ci,.slice af p.flows.length cf,.slice ao p.outs.length co] 27 (0,0)):=by rw[←hW2];exact(Za _ _ _ (by simp)).trans (Yp w _)
 have hq1:W2.heap[w.heap.size+1]?=some (.cells #[.slice none 0 0,.slice none 0 0,.slice none 0 0,.slice none 0 0] 34 (0,0)):=by rw[←hW2];simpa using Yp (w.alloc (.cells #[.slice an p.nodes.length cn,.slice ai p.ins.length ci,.slice af p.flows.length cf,.slice ao p.outs.length co] 27)) (.cells #[.slice none 0 0,.slice none 0 0,.slice none 0 0,.slice none 0 0] 34)
 have HB:=hid hB
 have HQ0:=hid hq0
 have HQ1:=hid hq1
 obtain⟨⟨x0,x1,x2,x3⟩,xf⟩:=Yq hq0
 clear hW2 hB hq0 hq1
 have hl0:w.heap.size<W2.heap.size:=oq
 have hl1:w.heap.size+1<W2.heap.size:=oq
 go_wp2_with (first
  | (go_at_call 53;refine(HASK.out _ HB.out).mono ?_;rintro x w3 ⟨(⟨a3,e3,he3,rfl⟩|⟨rfl,env,hck,hle⟩),hb3⟩<;>(have hz3:=hb3.size;have hlt3:w.heap.size+1<w3.heap.size:=oq;have HA3:=hid (HB.out.trans (hb3.mono oq));have HV:=hid ((hb3.block _ hl1).trans HQ1.out);obtain⟨⟨y0,y1,y2,y3⟩,yf⟩:=Yq ((hb3.block _ hl0).trans HQ0.out);obtain⟨⟨v0,v1,v2,v3⟩,vf⟩:=Yq HV.out;first|(have hne3:(e3 != 0)=true:=bne_iff_ne.2 he3)|(have HCK:=hid hck;have HLE:=hid hle;clear hck hle);clear hb3))
  | (go_at_call 54;refine(HNEW.out w3 HA3.out env HLE.out.symm).mono ?_;rintro x w4 ⟨m,mc,mi,mf,mn,mx,Lc,Li,Lf,Ln,rfl,hmk,hLc,hLi,hLf,hLn⟩;have HM4:=hid (Zb8 hmk);have HL4:=hid HM4.out.low;have HMAPS:=hid (Zh hLc (Zh hLi (Zh hLf hLn)));have k3:=Zd hlt3 HL4.out.size;obtain⟨⟨v0,v1,v2,v3⟩,vf⟩:=Yq ((HL4.out.block _ hlt3).trans HV.out);clear hmk hLc hLi hLf hLn)
  | (go_at_call 55;refine(qo p an ai af ao cn ci cf co (HP.out.below HA3.out) HOK.out mc mi mf mn mx m Lc Li Lf Ln HM4.out).mono ?_;rintro x w5 hnum;rcases hnum with ⟨a5,rfl,h30,hb5⟩|⟨rfl,h30,hup,Lx,hM5,hIx⟩<;>((first|(have HL5:=hid hb5;clear hb5)|(have HL5:=hid hM5.low;have HM5:=hid hM5;have HIX:=hid hIx;clear hM5 hIx hup));have k3:=Zd hlt3 HL5.out.size;obtain⟨⟨v0,v1,v2,v3⟩,vf⟩:=Yq ((HL5.out.block _ hlt3).trans HV.out)))
  | (go_at_call 56;refine(qp p an ai af ao cn ci cf co (HP.out.below HA3.out) HOK.out mc mi mf mn mx m Lc Li Lf Ln Lx HM5.out (xI p) (fI p) (iI p) HIX.out HMAPS.out.2.2.1 HMAPS.out.2.1 (zK _ _ _ 1000 (by rw[Zo];omega) (fun k j h=>by cases h)) (zx HOK.out HNM.out HCK.out)).mono ?_;rintro x w6 ⟨(⟨rfl,hfew⟩|⟨a6,rfl,hfew⟩),hb6⟩<;>(have HL6:=hid (HL5.out.trans (hb6.mono HL5.out.size));have HM6:=hid (HM5.out.grow hb6);have k3:=Zd hlt3 HL6.out.size;obtain⟨⟨v0,v1,v2,v3⟩,vf⟩:=Yq ((HL6.out.block _ hlt3).trans HV.out);clear hb6))
  | (go_at_call 57;refine(gp p an ai af ao cn ci cf co (HP.out.below HA3.out) HOK.out mc mi mf mn mx m Lc Li Lf Ln Lx HM6.out (xI p) (fI p) (iI p) (nI p) HIX.out HMAPS.out.2.2.1 HMAPS.out.2.1 HMAPS.out.2.2.2 (zK _ _ _ 1000 (by rw[Zo];omega) (fun k j h=>by cases h)) (zj p env) HMAPS.out.1 (zx HOK.out HNM.out HCK.out) HPS.out h30 (fun o ho=>by obtain⟨i,hi,hoi⟩:=Yl ho;have:=HNM.out.outs i hi;rw[hoi] at this;exact eA this)).mono ?_;rintro x w7 ⟨⟨vI,vN,vT,vL,rfl,r1,r2,r3,r4⟩,hb7⟩;have HR:=hid (Zh r1 (Zh r2 (Zh r3 r4)));obtain⟨aI,cI,rfl⟩:=r1.form;obtain⟨aN,cN,rfl⟩:=r2.form;obtain⟨aT,cT,rfl⟩:=r3.form;obtain⟨aL,cL,rfl⟩:=r4.form;have HL7:=hid (HL6.out.trans (hb7.mono HL6.out.size));have HS7:=hid HL6.out.size;have k3:=Zd hlt3 HL7.out.size;obtain⟨⟨v0,v1,v2,v3⟩,vf⟩:=Yq ((HL7.out.block _ hlt3).trans HV.out);clear hb7 r1 r2 r3 r4))
 all_goals first
  | (refine Zl (v:=.tuple #[QE,.int .i64 a6,.int .i64 8]) ?_ rfl ⟨.inl ⟨a6,8,by decide,rfl⟩,?_⟩;(focus (unfold QE;simp only[results,Tryz.results20];go_simp));exact bq)
  | (refine Zl (v:=.tuple #[QE,.int .i64 a5,.int .i64 8]) ?_ rfl ⟨.inl ⟨a5,8,by decide,rfl⟩,?_⟩;(focus (unfold QE;simp only[results,Tryz.results20];go_simp));exact bq)
  | (refine Zl (v:=.tuple #[QE,.int .i64 a3,.int .i64 e3]) ?_ rfl ⟨.inl ⟨a3,e3,he3,rfl⟩,?_⟩;(focus (unfold QE;simp only[results,Tryz.results20];go_simp));exact bq)
  | skip
 have hst:YM 34 w7 ((((w7.setCell ⟨w.heap.size+1,0,none⟩ (.slice aI (p.ins.map (fun x=>(x.per,x.ph))).length cI)).setCell ⟨w.heap.size+1,1,none⟩ (.slice aN p.nodes.length cN)).setCell ⟨w.heap.size+1,2,none⟩ (.slice aT ((YI p.flows 0).map (tkR p (xI p) (fI p) (iI p) (nI p) (zj p env))).length cT)).setCell ⟨w.heap.size+1,3,none⟩ (.slice aL (p.outs.map (tlR p (xI p) (fI p) (iI p) (zj p env))).length cL)):=YM.of_upon ((HL7.out.block _ hlt3).trans HV.out) (yT w7 (w.heap.size+1) _ _ _ _)
 have hbse:w.heap.size≤w6.heap.size:=by have:=HA3.out.size;have:=HS7.out;omega
 obtain⟨r1,r2,r3,r4⟩:=HR.out
 have hm:VC p env w.heap.size _ (.agg #[.slice aI (p.ins.map (fun x=>(x.per,x.ph))).length cI,.slice aN p.nodes.length cN,.slice aT ((YI p.flows 0).map (tkR p (xI p) (fI p) (iI p) (nI p) (zj p env))).length cT,.slice aL (p.outs.map (tlR p (xI p) (fI p) (iI p) (zj p env))).length cL]):=⟨_,_,_,_,rfl,(r1.stays hst (by decide) (fun c x hc=>hc)).mono hbse (fun c x hc=>hc),(r2.stays hst (by decide) (fun c x hc=>hc.stays hst (by decide) (by decide))).mono hbse (fun c x hc=>hc),
  (r3.stays hst (by decide) (fun c x hc=>hc.stays hst (by decide) (by decide))).mono hbse (fun c x hc=>hc.mono hbse),(r4.stays hst (by decide) (fun c x hc=>hc.stays hst (by decide))).mono hbse (fun c x hc=>VF hc hbse)⟩
 simp only[Zo] at hm hst
 refine Zl (v:=.tuple #[.agg #[.slice aI p.ins.length cI,.slice aN p.nodes.length cN,.slice aT (YI p.flows 0).length cT,.slice aL p.outs.length cL],.int .i64 0,.int .i64 0]) ?_ rfl ⟨.inr ⟨_,env,rfl,hm,HCK.out,h30,hfew⟩,?_⟩
 ·simp only[results,Tryz.results20];go_simp
 exact bq
end Go.Proofs.YtgigilkpndhddaaGreatDoor.syn
