/- Parts of the proof. -/
import Derived.Deep.RegionHeld3
import Derived.Test.YtlhlcdjiafdoeaaGreatDoorV14
set_option linter.all false
set_option maxRecDepth 100000
set_option maxHeartbeats 16000000
namespace Go.Proofs.YtlhlcdjiafdoeaaGreatDoor.syn
open Go.RowKit
theorem qB {W w1:World} (h:Below W.drew.heap.size W.drew w1):Below W.heap.size W w1:=⟨h.os,h.tape,h.output,h.size,h.block⟩
theorem YR {W w2:World} (hb:Below W.heap.size W w2) {b o:Nat} {v:Value} (hlt:b<W.heap.size) (h:W.cell? ⟨b,o,none⟩=some v):w2.cell? ⟨b,o,none⟩=some v:=(hb.cell (p:=⟨b,o,none⟩) hlt).trans h
structure Um (p:PG):Prop where
 ins:∀i (h:i<p.ins.length),YK p p.ins[i].nm=(i:Int)
 flows:∀i (h:i<p.flows.length),YK p p.flows[i].nm=(p.ins.length:Int)+(i:Int)∧nq1 p p.flows[i].e.k p.flows[i].e.nm p.flows[i].e.args.len=true∧nqL p p.flows[i].e.args=true
 outs:∀i (h:i<p.outs.length),(p.ins.length:Int)≤YK p p.outs[i].fl
 nodes:∀i (h:i<p.nodes.length),XZ p p.nodes[i].nm=(i:Int)
def uH (p:PG) (x:Ending):Prop:=∃b:Bool,x=.returned (.bool b)∧(b=true→Um p)
def jf (w:World) (p:PG) (an ai af ao:Option Addr) (cn ci cf co:Nat) (len:Nat) (S:Nat→Prop) (v:Value) (wr:World):Prop :=
 ∃i:Nat,v=.int .i64 (i:Int)∧i≤len∧XS wr w.heap.size p an ai af ao cn ci cf co∧Below w.heap.size w wr∧S i
def Za9 (W:World) (len:Nat) (v:Value) (wr:World):Prop:=∃k:Nat,v=.int .i64 (k:Int)∧k≤len∧Below W.heap.size W wr
theorem Ub {α:Type} {l:List α} {P:Nat→α→Prop} {i:Nat} (h:∀j (hj:j<l.length),j<i→P j l[j]) (hi:∀hj:i<l.length,P i l[i]):∀j (hj:j<l.length),j<i+1→P j l[j]:=by
 intro j hj hji
 by_cases h1:j<i
 ·exact h j hj h1
 have:j=i:=oq
 subst this;exact hi hj
theorem vK {w:World} (nodes:List ND) (ins:List IN) (flows:List FL) (outs:List OU) (an ai af ao:Option Addr) (cn ci cf co:Nat) (hp:AP w ⟨nodes,ins,flows,outs⟩ an ai af ao cn ci cf co) (h1:nodes.length≤1000) (h2:ins.length≤1000) (h3:flows.length≤1000) (h4:outs.length≤1000) (hps:∀x∈nodes,x.ps.length≤1000) :
  Calls Tryz.prog 16 #[pv ⟨nodes,ins,flows,outs⟩ an ai af ao cn ci cf co] w fun x w'=>uH ⟨nodes,ins,flows,outs⟩ x∧Below w.heap.size w w':=by
 have HP:=hid hp
 have HPSL:=hid hps
 clear hp hps
 unfold pv
 simp only
 go_enter Tryz.func16,Tryz.ntmps16
 go_wp2
 go_loopw [3] (fun v wr=>Hid (jf w ⟨nodes,ins,flows,outs⟩ an ai af ao cn ci cf co nodes.length (fun i=>∀j (hj:j<nodes.length),j<i→XZ ⟨nodes,ins,flows,outs⟩ nodes[j].nm=(j:Int)) v wr)) (fun i _=>nodes.length-(intOf i).toNat)
 case atStart=>exact⟨0,rfl,Zk _,Yt w _,bq,fun j hj h=>absurd h oq⟩
 obtain⟨i,rfl,hi,hpb,hbel,hS⟩:=hrel.out
 clear hrel
 try simp only at hS
 unfold XS at hpb
 simp only at hpb
 obtain⟨⟨x0,x1,x2,x3⟩,xf⟩:=Yu hpb
 have HPB:=hid hpb
 have HBEL:=hid hbel
 have hplt:=Zb hpb
 have hszr:=hbel.size
 have HS:=hid hS
 clear hpb hS
 by_cases hlt:i<nodes.length
 ·obtain⟨bb,oo,rfl,hbb0,hnd0⟩:=HP.out.nodes.at hlt
  have hnd:=Jw w wr bb _ _ hbel hbb0 hnd0
  have hbb:=Zd hbb0 hszr
  have hpsl:=HPSL.out nodes[i] (Zi hlt)
  obtain⟨x,hx⟩:∃x,nodes[i]=x:=⟨_,rfl⟩
  rw[hx] at hnd hpsl
  obtain⟨nm,ps,bud,⟨k1,nm1,n1,d1,args1,a1⟩,fa⟩:=x
  obtain⟨pa,pc,ad,cap,y0,y1,y2,y3,y4,y5,y6,y7,y8,y9,hae,⟨hps1,hps2,hps⟩,hfn⟩:=hnd.cells
  simp only at hpsl
  have HA:=hid hae
  have HPS:=hid hps
  have hie:(i:Int)<(nodes.length:Int):=oq
  have HND:=hid (fun(w':World) (h:Below wr.heap.size wr w')=>yz (w:=w') ⟨nodes,ins,flows,outs⟩ (some ⟨bb,oo,none⟩) ai af ao cn ci cf co nm ((HP.out.below HBEL.out).below h) h1)
  have HBO:=hid (fun(w':World) (h:Below wr.heap.size wr w')=>j3 ⟨k1,nm1,n1,d1,args1,a1⟩ w' nm nm1 ps pa pc bud k1 n1 d1 a1 fa ad args1.len cap ad cap (HPS.out.below Qu h) hpsl (HA.out.below h))
  unfold pv at HND
  unfold K7 at HBO
  simp only at HND HBO
  have HXN:=hid hx
  clear hbel hnd hnd0 hx hae hps hfn hbb0
  by_cases hnx:XZ ⟨nodes,ins,flows,outs⟩ nm=(i:Int)
  ·rw[hnx] at HND
   have HSN:=hid (Ub (P:=fun j (x:ND)=>XZ ⟨nodes,ins,flows,outs⟩ x.nm=(j:Int)) HS.out (fun hj=>by rw[HXN.out];exact hnx))
   clear hnx
   have hii:((i:Int) != (i:Int))=false:=by simp
   go_wp2_with (first|(go_at_call 36;go_loud (refine(HND.out _ bq).mono ?_;rintro x w1 ⟨rfl,hb1⟩;have s1:wr.heap.size<w1.heap.size:=Yv hb1 oq;have t1:w.heap.size<w1.heap.size:=Yv hb1 oq;have HN1:=hid ((hb1.block wr.heap.size oq).trans (Yt wr _));have HP1:=hid ((hb1.block w.heap.size oq).trans ((Za _ _ _ hplt).trans HPB.out));obtain⟨⟨n1_0,n1_1,n1_2,n1_3,n1_4,n1_5,n1_6,n1_7,n1_8,n1_9⟩,nf1⟩:=Qy HN1.out;obtain⟨⟨q1_0,q1_1,q1_2,q1_3⟩,qf1⟩:=Yu HP1.out))|(go_at_call 37;go_loud (refine(HBO.out _ bq).mono ?_;rintro x w2 ⟨⟨b2,rfl⟩,hb2⟩;have s2:wr.heap.size<w2.heap.size:=Yv hb2 oq;have t2:w.heap.size<w2.heap.size:=Yv hb2 oq;have HN2:=hid ((hb2.block wr.heap.size oq).trans (HN1.out));have HP2:=hid ((hb2.block w.heap.size oq).trans (HP1.out));obtain⟨⟨n2_0,n2_1,n2_2,n2_3,n2_4,n2_5,n2_6,n2_7,n2_8,n2_9⟩,nf2⟩:=Qy HN2.out;obtain⟨⟨q2_0,q2_1,q2_2,q2_3⟩,qf2⟩:=Yu HP2.out;cases b2)))
   all_goals (try (go_ret;exact⟨⟨false,rfl,fun h=>by cases h⟩,bq⟩))
   have HB2:=hid (show Below w.heap.size w w2 from bq)
   have HPS4:=hid (HPS.out.below Qu (show Below wr.heap.size wr w2 from bq))
   have hsz2:w.heap.size≤w2.heap.size:=Nat.le_of_lt t2
   clear HND HBO hb1 hb2 HN1 HP1 n1_0 n1_1 n1_2 n1_3 n1_4 n1_5 n1_6 n1_7 n1_8 n1_9 q1_0 q1_1 q1_2 q1_3 n2_0 n2_1 n2_2 n2_3 n2_4 n2_5 n2_6 n2_7 n2_8 n2_9 q2_0 q2_1 q2_2 q2_3
   go_loopw [5] (fun v wr'=>Hid (Za9 w2 ps.length v wr')) (fun k _=>ps.length-(intOf k).toNat)
   case atStart=>exact⟨0,rfl,Zk _,Zg _ _⟩
   obtain⟨k,rfl,hk,hb5⟩:=hrel.out
   clear hrel
   have HN5:=hid ((hb5.block _ s2).trans HN2.out)
   have HP5:=hid ((hb5.block _ t2).trans HP2.out)
   obtain⟨⟨m0,m1,m2,m3,m4,m5,m6,m7,m8,m9⟩,mf⟩:=Qy HN5.out
   have HB5:=hid (HB2.out.trans (hb5.mono hsz2))
   have HB5k:=hid hb5
   by_cases hkl:k<ps.length
   ·have hkl':(k:Int)<(ps.length:Int):=oq
    clear hb5
    go_wp2
    go_loopw [6] (fun v wr'=>Hid (Za9 w2 k v wr')) (fun j _=>k-(intOf j).toNat)
    case atStart=>exact⟨0,rfl,Zk _,HB5k.out⟩
    clear HN5 HP5 m0 m1 m2 m3 m4 m5 m6 m7 m8 m9 mf HB5 HB5k
    obtain⟨j,rfl,hj,hb5⟩:=hrel.out
    clear hrel
    have HN5:=hid ((hb5.block _ s2).trans HN2.out)
    have HP5:=hid ((hb5.block _ t2).trans HP2.out)
    obtain⟨⟨m0,m1,m2,m3,m4,m5,m6,m7,m8,m9⟩,mf⟩:=Qy HN5.out
    have HB5:=hid (HB2.out.trans (hb5.mono hsz2))
    have HB5k:=hid hb5
    by_cases hjl:j<k
    ·have hjl':(j:Int)<(k:Int):=oq
     have hpr:=HPS4.out.below Qu hb5
     obtain⟨pb,po,hpa,hpb,hpj,hpjs⟩:=hpr.at (show j<ps.length by omega)
     obtain⟨pb',po',hpa',_,hpk,hpks⟩:=hpr.at hkl
     rw[hpa] at hpa' m1
     injection hpa' with hpa';injection hpa' with e1_ e2_;subst e1_;subst e2_
     rw[Z6] at hpj hpk
     generalize ps[j]=sj at hpj hpjs
     generalize ps[k]=sk at hpk hpks
     have hq:=QL sj sk
     have hjp:(j:Int)<(ps.length:Int):=oq
     clear hb5 hpr hpjs hpks hpa
     by_cases he:sj=sk
     ·rw[ZY he] at hq
      clear he
      go_wp2
      go_quiet (fail)
      go_wp2
      go_ret
      exact⟨⟨false,rfl,fun h=>by cases h⟩,bq⟩
     rw[ZX he] at hq
     clear he
     go_wp2
     go_quiet (fail)
     go_wp2
     first|exact⟨⟨j+1,by go_num,oq,bq⟩,by simp[intOf];omega⟩|(go_roundw;(case rel=>first|exact⟨j+1,by go_num,oq,bq⟩|((repeat apply Ye);exact⟨⟨j+1,by go_num,oq,bq⟩,rfl⟩));(case measure=>simp[intOf];omega))
    have hjl':(j:Int)=(k:Int):=oq
    clear hb5
    go_wp2
    first|exact⟨⟨k+1,by go_num,oq,HB5k.out⟩,by simp[intOf];omega⟩|(go_roundw;(case rel=>first|exact⟨k+1,by go_num,oq,HB5k.out⟩|((repeat apply Ye);exact⟨⟨k+1,by go_num,oq,HB5k.out⟩,rfl⟩));(case measure=>simp[intOf];omega))
   have hkl':(k:Int)=(ps.length:Int):=oq
   clear hb5
   go_wp2
   first|exact⟨⟨i+1,by go_num,oq,HP5.out,HB5.out,HSN.out⟩,by simp[intOf];omega⟩|(go_roundw;(case rel=>first|exact⟨i+1,by go_num,oq,HP5.out,HB5.out,HSN.out⟩|((repeat apply Ye);exact⟨⟨i+1,by go_num,oq,HP5.out,HB5.out,HSN.out⟩,rfl⟩));(case measure=>simp[intOf];omega))
  have hnxn:(XZ ⟨nodes,ins,flows,outs⟩ nm != (i:Int))=true:=by rw[bne,ZW.2 hnx];rfl
  have hnxi:¬XZ ⟨nodes,ins,flows,outs⟩ nm=(i:Int):=hnx
  go_wp2_with (first|(go_at_call 36;go_loud (refine(HND.out _ bq).mono ?_;rintro x w1 ⟨rfl,hb1⟩;have s1:wr.heap.size<w1.heap.size:=Yv hb1 oq;have t1:w.heap.size<w1.heap.size:=Yv hb1 oq;have HN1:=hid ((hb1.block wr.heap.size oq).trans (Yt wr _));have HP1:=hid ((hb1.block w.heap.size oq).trans ((Za _ _ _ hplt).trans HPB.out));obtain⟨⟨n1_0,n1_1,n1_2,n1_3,n1_4,n1_5,n1_6,n1_7,n1_8,n1_9⟩,nf1⟩:=Qy HN1.out;obtain⟨⟨q1_0,q1_1,q1_2,q1_3⟩,qf1⟩:=Yu HP1.out)))
  all_goals first|(exfalso;exact hnxi (by assumption))|(go_ret;exact⟨⟨false,rfl,fun h=>by cases h⟩,bq⟩)
 clear hbel
 have HSN2:=hid (show ∀j (hj:j<nodes.length),XZ ⟨nodes,ins,flows,outs⟩ nodes[j].nm=(j:Int) from fun j hj=>HS.out j hj oq)
 go_wp2
 go_loopw [7] (fun v wr=>Hid (jf w ⟨nodes,ins,flows,outs⟩ an ai af ao cn ci cf co ins.length (fun i=>∀j (hj:j<ins.length),j<i→YK ⟨nodes,ins,flows,outs⟩ ins[j].nm=(j:Int)) v wr)) (fun i _=>ins.length-(intOf i).toNat)
 case atStart=>exact⟨0,rfl,Zk _,HPB.out,HBEL.out,fun j hj h=>absurd h oq⟩
 clear HPB HBEL hplt hszr x0 x1 x2 x3 xf
 obtain⟨i,rfl,hi,hpb,hbel,hS⟩:=hrel.out
 clear hrel
 try simp only at hS
 unfold XS at hpb
 simp only at hpb
 obtain⟨⟨x0,x1,x2,x3⟩,xf⟩:=Yu hpb
 have HPB:=hid hpb
 have HBEL:=hid hbel
 have hplt:=Zb hpb
 have hszr:=hbel.size
 have HS:=hid hS
 clear hpb hS
 by_cases hlt:i<ins.length
 ·obtain⟨bb,oo,rfl,hbb0,hin0⟩:=HP.out.ins.at hlt
  have hin:=KM w wr bb _ _ hbel hbb0 hin0
  have hbb:=Zd hbb0 hszr
  obtain⟨y0,_⟩:=hin
  have hie:(i:Int)<(ins.length:Int):=oq
  have HX:=hid (show ∀hj:i<ins.length,ins[i].nm=ins[i].nm from fun _=>rfl)
  generalize hnm:ins[i].nm=nmx at y0
  have HNM:=hid hnm
  have HFL:=hid (fun(w':World) (h:Below wr.heap.size wr w')=>V4 (w:=w') ⟨nodes,ins,flows,outs⟩ an (some ⟨bb,oo,none⟩) af ao cn ci cf co nmx ((HP.out.below HBEL.out).below h) h2 h3)
  unfold pv at HFL
  simp only at HFL
  clear hbel hin0 hbb0 hnm HX
  by_cases hfx:YK ⟨nodes,ins,flows,outs⟩ nmx=(i:Int)
  ·rw[hfx] at HFL
   have hq:((i:Int) == (i:Int))=true:=by simp
   have HFX:=hid hfx
   clear hfx
   go_wp2
   go_region_with (go_at_call 38;go_loud (refine(HFL.out _ bq).mono ?_;rintro x w2 ⟨rfl,hb2⟩))
   all_goals go_wp2
   all_goals (exact⟨⟨i+1,by go_num,oq,(hb2.block _ hplt).trans HPB.out,bq,Ub (α:=IN) (P:=fun j (x:IN)=>YK ⟨nodes,ins,flows,outs⟩ x.nm=(j:Int)) HS.out (fun hj=>by show YK ⟨nodes,ins,flows,outs⟩ ins[i].nm=(i:Int);rw[HNM.out];exact HFX.out)⟩,by simp[intOf];omega⟩)
  have hfx':((YK ⟨nodes,ins,flows,outs⟩ nmx) == (i:Int))=false:=ZW.2 hfx
  have hfxn:((YK ⟨nodes,ins,flows,outs⟩ nmx) != (i:Int))=true:=by rw[bne,hfx'];rfl
  go_wp2
  go_region_with (go_at_call 38;go_loud (refine(HFL.out _ bq).mono ?_;rintro x w2 ⟨rfl,hb2⟩))
  all_goals go_wp2
  all_goals (go_ret;exact⟨⟨false,rfl,fun h=>by cases h⟩,bq⟩)
 have HSI:=hid (show ∀j (hj:j<ins.length),YK ⟨nodes,ins,flows,outs⟩ ins[j].nm=(j:Int) from fun j hj=>HS.out j hj oq)
 clear HS hbel
 go_wp2
 go_loopw [8] (fun v wr=>Hid (jf w ⟨nodes,ins,flows,outs⟩ an ai af ao cn ci cf co flows.length (fun i=>∀j (hj:j<flows.length),j<i→(YK ⟨nodes,ins,flows,outs⟩ flows[j].nm=(ins.length:Int)+(j:Int)∧nq1 ⟨nodes,ins,flows,outs⟩ flows[j].e.k flows[j].e.nm flows[j].e.args.len=true∧nqL ⟨nodes,ins,flows,outs⟩ flows[j].e.args=true)) v wr)) (fun i _=>flows.length-(intOf i).toNat)
 case atStart=>exact⟨0,rfl,Zk _,HPB.out,HBEL.out,fun j hj h=>absurd h oq⟩
 clear HPB HBEL hplt hszr x0 x1 x2 x3 xf
 obtain⟨i,rfl,hi,hpb,hbel,hS⟩:=hrel.out
 clear hrel
 try simp only at hS
 unfold XS at hpb
 simp only at hpb
 obtain⟨⟨x0,x1,x2,x3⟩,xf⟩:=Yu hpb
 have HPB:=hid hpb
 have HBEL:=hid hbel
 have hplt:=Zb hpb
 have hszr:=hbel.size
 have HS:=hid hS
 clear hpb hS
 by_cases hlt:i<flows.length
 ·obtain⟨bb,oo,rfl,hbb0,hfl0⟩:=HP.out.flows.at hlt
  have hfl:=JI w wr bb _ _ hbel hbb0 hfl0
  have hbb:=Zd hbb0 hszr
  obtain⟨x,hx⟩:∃x,flows[i]=x:=⟨_,rfl⟩
  have HX:=hid hx
  rw[hx] at hfl
  obtain⟨nm,⟨k1,nm1_,n1,d1,args1,a1⟩,fa⟩:=x
  obtain⟨ad,cap,y0,y1,y2,y3,y4,y5,y6,y7,hae,hfn⟩:=hfl.cells
  have HA:=hid hae
  have HFC:=hid hfl
  have hie:(i:Int)<(flows.length:Int):=oq
  have HFL:=hid (fun(w':World) (h:Below wr.heap.size wr w')=>V4 (w:=w') ⟨nodes,ins,flows,outs⟩ an ai (some ⟨bb,oo,none⟩) ao cn ci cf co nm ((HP.out.below HBEL.out).below h) h2 h3)
  have HEX:=hid (fun(w':World) (h:Below wr.heap.size wr w')=>vh ⟨nodes,ins,flows,outs⟩ an ai (some ⟨bb,oo,none⟩) ao cn ci cf co h1 h2 h3 ⟨k1,nm1_,n1,d1,args1,a1⟩ w' ad cap ((HP.out.below HBEL.out).below h) (HA.out.below h))
  unfold pv at HFL HEX
  unfold Kj at HEX
  simp only at HFL HEX
  clear hbel hfl hfl0 hbb0 hx hae hfn
  by_cases hfx:YK ⟨nodes,ins,flows,outs⟩ nm=(ins.length:Int)+(i:Int)
  ·rw[hfx] at HFL
   have HFX:=hid hfx
   clear hfx
   have hii:(((ins.length:Int)+(i:Int)) != ((ins.length:Int)+(i:Int)))=false:=by simp
   have hwr:IntKind.i64.wrap ((ins.length:Int)+(i:Int))=(ins.length:Int)+(i:Int):=ZJ _ oq
   go_wp2
   go_region_held3 (fun w'=>w'.cell? ⟨w.heap.size,0,none⟩=some (.slice an nodes.length cn)∧w'.cell? ⟨w.heap.size,1,none⟩=some (.slice ai ins.length ci)∧w'.cell? ⟨w.heap.size,2,none⟩=some (.slice (some ⟨bb,oo,none⟩) flows.length cf)∧w'.cell? ⟨w.heap.size,3,none⟩=some (.slice ao outs.length co)∧w'.cell? ⟨bb,oo+i*8,none⟩=some (.string nm)∧w'.cell? ⟨bb,oo+i*8+1,none⟩=some (.int .i64 k1)∧w'.cell? ⟨bb,oo+i*8+2,none⟩=some (.string nm1_)∧w'.cell? ⟨bb,oo+i*8+3,none⟩=some (.int .i64 n1)∧w'.cell? ⟨bb,oo+i*8+4,none⟩=some (.int .i64 d1)∧w'.cell? ⟨bb,oo+i*8+5,none⟩=some (.slice ad args1.len cap)∧w'.cell? ⟨bb,oo+i*8+6,none⟩=some (.int .i64 a1)∧w'.cell? ⟨bb,oo+i*8+7,none⟩=some (.int .i64 fa)) (go_keep) (first|(go_at_call 38;go_loud (refine(HFL.out _ bq).mono ?_;rintro x w2 ⟨rfl,hb2⟩;have hb2k:Below wr.heap.size wr w2:=(by first|exact hb2|exact qB hb2);have s2:w.heap.size<w2.heap.size:=Zd hplt hb2k.size;have s3:bb<w2.heap.size:=Zd hbb hb2k.size;have k2_0:w2.cell? ⟨w.heap.size,0,none⟩=some (.slice an nodes.length cn):=YR hb2k hplt x0;have k2_1:w2.cell? ⟨w.heap.size,1,none⟩=some (.slice ai ins.length ci):=YR hb2k hplt x1;have k2_2:w2.cell? ⟨w.heap.size,2,none⟩=some (.slice (some ⟨bb,oo,none⟩) flows.length cf):=YR hb2k hplt x2;have k2_3:w2.cell? ⟨w.heap.size,3,none⟩=some (.slice ao outs.length co):=YR hb2k hplt x3;have k2_4:w2.cell? ⟨bb,oo+i*8,none⟩=some (.string nm):=YR hb2k hbb y0;have k2_5:w2.cell? ⟨bb,oo+i*8+1,none⟩=some (.int .i64 k1):=YR hb2k hbb y1;have k2_6:w2.cell? ⟨bb,oo+i*8+2,none⟩=some (.string nm1_):=YR hb2k hbb y2;have k2_7:w2.cell? ⟨bb,oo+i*8+3,none⟩=some (.int .i64 n1):=YR hb2k hbb y3;have k2_8:w2.cell? ⟨bb,oo+i*8+4,none⟩=some (.int .i64 d1):=YR hb2k hbb y4;have k2_9:w2.cell? ⟨bb,oo+i*8+5,none⟩=some (.slice ad args1.len cap):=YR hb2k hbb y5;have k2_10:w2.cell? ⟨bb,oo+i*8+6,none⟩=some (.int .i64 a1):=YR hb2k hbb y6;have k2_11:w2.cell? ⟨bb,oo+i*8+7,none⟩=some (.int .i64 fa):=YR hb2k hbb y7))|(go_at_call 39;go_loud (refine(HEX.out _ bq).mono ?_;rintro x w3 ⟨⟨b2,rfl,hbt⟩,hb3⟩;have hb3k:Below w2.heap.size w2 w3:=(by first|exact hb3|exact qB hb3);have k3_0:w3.cell? ⟨w.heap.size,0,none⟩=some (.slice an nodes.length cn):=YR hb3k s2 k2_0;have k3_1:w3.cell? ⟨w.heap.size,1,none⟩=some (.slice ai ins.length ci):=YR hb3k s2 k2_1;have k3_2:w3.cell? ⟨w.heap.size,2,none⟩=some (.slice (some ⟨bb,oo,none⟩) flows.length cf):=YR hb3k s2 k2_2;have k3_3:w3.cell? ⟨w.heap.size,3,none⟩=some (.slice ao outs.length co):=YR hb3k s2 k2_3;have k3_4:w3.cell? ⟨bb,oo+i*8,none⟩=some (.string nm):=YR hb3k s3 k2_4;have k3_5:w3.cell? ⟨bb,oo+i*8+1,none⟩=some (.int .i64 k1):=YR hb3k s3 k2_5;have k3_6:w3.cell? ⟨bb,oo+i*8+2,none⟩=some (.string nm1_):=YR hb3k s3 k2_6;have k3_7:w3.cell? ⟨bb,oo+i*8+3,none⟩=some (.int .i64 n1):=YR hb3k s3 k2_7;have k3_8:w3.cell? ⟨bb,oo+i*8+4,none⟩=some (.int .i64 d1):=YR hb3k s3 k2_8;have k3_9:w3.cell? ⟨bb,oo+i*8+5,none⟩=some (.slice ad args1.len cap):=YR hb3k s3 k2_9;have k3_10:w3.cell? ⟨bb,oo+i*8+6,none⟩=some (.int .i64 a1):=YR hb3k s3 k2_10;have k3_11:w3.cell? ⟨bb,oo+i*8+7,none⟩=some (.int .i64 fa):=YR hb3k s3 k2_11)))
   all_goals cases b2
   all_goals go_wp2
   all_goals first|(go_ret;exact⟨⟨false,rfl,fun h=>by cases h⟩,bq⟩)|exact⟨⟨i+1,by go_num,oq,(hb3k.block _ s2).trans ((hb2k.block _ hplt).trans HPB.out),bq,Ub (α:=FL) (P:=fun j (x:FL)=>YK ⟨nodes,ins,flows,outs⟩ x.nm=(ins.length:Int)+(j:Int)∧nq1 ⟨nodes,ins,flows,outs⟩ x.e.k x.e.nm x.e.args.len=true∧nqL ⟨nodes,ins,flows,outs⟩ x.e.args=true) HS.out (fun hj=>by rw[HX.out];exact⟨HFX.out,hbt rfl⟩)⟩,by simp[intOf];omega⟩
  obtain⟨fx,hfx0⟩:∃fx,YK ⟨nodes,ins,flows,outs⟩ nm=fx:=⟨_,rfl⟩
  rw[hfx0] at HFL hfx
  have hfxe:(fx == ((ins.length:Int)+(i:Int)))=false:=ZW.2 hfx
  have hfxn:(fx != ((ins.length:Int)+(i:Int)))=true:=by rw[bne,hfxe];rfl
  have hfxd:decide (fx=(ins.length:Int)+(i:Int))=false:=ZX hfx
  clear hfx0
  have hwr:IntKind.i64.wrap ((ins.length:Int)+(i:Int))=(ins.length:Int)+(i:Int):=ZJ _ oq
  go_wp2
  refine ZN (S:=(fun w'=>w'.cell? ⟨w.heap.size,0,none⟩=some (.slice an nodes.length cn)∧w'.cell? ⟨w.heap.size,1,none⟩=some (.slice ai ins.length ci)∧w'.cell? ⟨w.heap.size,2,none⟩=some (.slice (some ⟨bb,oo,none⟩) flows.length cf)∧w'.cell? ⟨w.heap.size,3,none⟩=some (.slice ao outs.length co)∧w'.cell? ⟨bb,oo+i*8,none⟩=some (.string nm)∧w'.cell? ⟨bb,oo+i*8+1,none⟩=some (.int .i64 k1)∧w'.cell? ⟨bb,oo+i*8+2,none⟩=some (.string nm1_)∧w'.cell? ⟨bb,oo+i*8+3,none⟩=some (.int .i64 n1)∧w'.cell? ⟨bb,oo+i*8+4,none⟩=some (.int .i64 d1)∧w'.cell? ⟨bb,oo+i*8+5,none⟩=some (.slice ad args1.len cap)∧w'.cell? ⟨bb,oo+i*8+6,none⟩=some (.int .i64 a1)∧w'.cell? ⟨bb,oo+i*8+7,none⟩=some (.int .i64 fa))) kq ?_ (fun hHeld=>?_)
  ·go_keep
  refine tk 0 (by assumption) ?_
  refine tk 1 (by assumption) ?_
  refine tk 2 (by assumption) ?_
  refine tk 3 (by assumption) ?_
  refine tk 4 (by assumption) ?_
  refine tk 5 (by assumption) ?_
  refine tk 6 (by assumption) ?_
  refine tk 8 (by assumption) ?_
  refine tk 9 (by assumption) ?_
  refine tk 10 (by assumption) ?_
  refine tk 11 (by assumption) ?_
  refine tk 12 (by assumption) ?_
  refine wpAnyH_ready (rs:=[7]) kq (by simp) ?_
  refine ZG rfl (fun K hK=>?_) AllReadyH.nil
  try simp only[List.getElem_toArray,List.getElem_cons_succ,List.getElem_cons_zero,Array.getInternal_eq_getElem]
  go_simp
  (go_at_call 38;go_loud (refine(HFL.out _ bq).mono ?_;rintro x w2 ⟨rfl,hb2⟩;have hb2k:Below wr.heap.size wr w2:=(by first|exact hb2|exact qB hb2);have s2:w.heap.size<w2.heap.size:=Zd hplt hb2k.size;have s3:bb<w2.heap.size:=Zd hbb hb2k.size;have k2_0:w2.cell? ⟨w.heap.size,0,none⟩=some (.slice an nodes.length cn):=YR hb2k hplt x0;have k2_1:w2.cell? ⟨w.heap.size,1,none⟩=some (.slice ai ins.length ci):=YR hb2k hplt x1;have k2_2:w2.cell? ⟨w.heap.size,2,none⟩=some (.slice (some ⟨bb,oo,none⟩) flows.length cf):=YR hb2k hplt x2;have k2_3:w2.cell? ⟨w.heap.size,3,none⟩=some (.slice ao outs.length co):=YR hb2k hplt x3;have k2_4:w2.cell? ⟨bb,oo+i*8,none⟩=some (.string nm):=YR hb2k hbb y0;have k2_5:w2.cell? ⟨bb,oo+i*8+1,none⟩=some (.int .i64 k1):=YR hb2k hbb y1;have k2_6:w2.cell? ⟨bb,oo+i*8+2,none⟩=some (.string nm1_):=YR hb2k hbb y2;have k2_7:w2.cell? ⟨bb,oo+i*8+3,none⟩=some (.int .i64 n1):=YR hb2k hbb y3;have k2_8:w2.cell? ⟨bb,oo+i*8+4,none⟩=some (.int .i64 d1):=YR hb2k hbb y4;have k2_9:w2.cell? ⟨bb,oo+i*8+5,none⟩=some (.slice ad args1.len cap):=YR hb2k hbb y5;have k2_10:w2.cell? ⟨bb,oo+i*8+6,none⟩=some (.int .i64 a1):=YR hb2k hbb y6;have k2_11:w2.cell? ⟨bb,oo+i*8+7,none⟩=some (.int .i64 fa):=YR hb2k hbb y7))
  refine hK.out _ _ ?_ (fun hHeld2=>?_)
  ·go_keep
  clear hK K
  refine tk 13 (by assumption) ?_
  refine tk 14 (by assumption) ?_
  refine tu 15 (by assumption) ?_
  refine tu 16 (by assumption) ?_
  refine tu 17 (by assumption) ?_
  refine tu 18 (by assumption) ?_
  refine tu 19 (by assumption) ?_
  refine tu 20 (by assumption) ?_
  refine tu 21 (by assumption) ?_
  refine tu 22 (by assumption) ?_
  refine tu 23 (by assumption) ?_
  refine tk 24 (by assumption) ?_
  refine Zx kq ?_ _
  all_goals go_wp2
  all_goals first|(go_ret;exact⟨⟨false,rfl,fun h=>by cases h⟩,bq⟩)
 have HSF:=hid (show ∀j (hj:j<flows.length),(YK ⟨nodes,ins,flows,outs⟩ flows[j].nm=(ins.length:Int)+(j:Int)∧nq1 ⟨nodes,ins,flows,outs⟩ flows[j].e.k flows[j].e.nm flows[j].e.args.len=true∧nqL ⟨nodes,ins,flows,outs⟩ flows[j].e.args=true) from fun j hj=>HS.out j hj oq)
 clear HS hbel
 go_wp2
 go_loopw [9] (fun v wr=>Hid (jf w ⟨nodes,ins,flows,outs⟩ an ai af ao cn ci cf co outs.length (fun i=>∀j (hj:j<outs.length),j<i→(ins.length:Int)≤YK ⟨nodes,ins,flows,outs⟩ outs[j].fl) v wr)) (fun i _=>outs.length-(intOf i).toNat)
 case atStart=>exact⟨0,rfl,Zk _,HPB.out,HBEL.out,fun j hj h=>absurd h (Yi _)⟩
 clear HPB HBEL hplt hszr x0 x1 x2 x3 xf
 obtain⟨i,rfl,hi,hpb,hbel,hS⟩:=hrel.out
 clear hrel
 try simp only at hS
 unfold XS at hpb
 simp only at hpb
 obtain⟨⟨x0,x1,x2,x3⟩,xf⟩:=Yu hpb
 have HPB:=hid hpb
 have HBEL:=hid hbel
 have hplt:=Zb hpb
 have hszr:=hbel.size
 have HS:=hid hS
 clear hpb hS
 by_cases hlt:i<outs.length
 ·obtain⟨bb,oo,rfl,hbb0,hou0⟩:=HP.out.outs.at hlt
  have hou:=yH w wr bb _ _ hbel hbb0 hou0
  have hbb:=Zd hbb0 hszr
  obtain⟨x,hx⟩:∃x,outs[i]=x:=⟨_,rfl⟩
  rw[hx] at hou
  obtain⟨nm,fl,dl,fa⟩:=x
  obtain⟨y0,y1,y2,y3,hfn⟩:=hou
  simp only at y0 y1 y2 y3
  have hie:(i:Int)<(outs.length:Int):=oq
  obtain⟨W1,hW1⟩:∃W1,wr.alloc (Obj.cells #[.string nm,.string fl,.int .i64 dl,.int .i64 fa] 106)=W1:=⟨_,rfl⟩
  obtain⟨ob,hob⟩:∃ob,wr.heap.size=ob:=⟨_,rfl⟩
  have HO1:=hid (show W1.heap[ob]?=some _ from by rw[←hW1,←hob];exact Yt wr _)
  have HP1:=hid (show W1.heap[w.heap.size]?=some _ from by rw[←hW1];exact(Za _ _ _ hplt).trans HPB.out)
  have HB1:=hid (show Below w.heap.size w W1 from by rw[←hW1];exact hbel.alloc hszr _)
  have hw1:W1.heap.size=ob+1:=by rw[←hW1,←hob];simp
  have HXO:=hid hx
  clear hbel hou0 hbb0 hx hfn
  go_wp2
  try rw[hW1]
  try rw[hob]
  rw[hob] at hplt hszr hbb
  clear hW1 hob x0 x1 x2 x3 xf y0 y1 y2 y3 HPB HBEL
  go_loopw [11] (fun v wr'=>Hid (Za9 W1 i v wr')) (fun j _=>i-(intOf j).toNat)
  case atStart=>exact⟨0,rfl,Zk _,Zg _ _⟩
  obtain⟨j,rfl,hj,hb5⟩:=hrel.out
  clear hrel
  have hs5:=hb5.size
  have HO5:=hid ((hb5.block ob oq).trans HO1.out)
  have HP5:=hid ((hb5.block w.heap.size oq).trans HP1.out)
  obtain⟨⟨o0,o1,o2,o3⟩,of_⟩:=Yu HO5.out
  obtain⟨⟨z0,z1,z2,z3⟩,zf⟩:=Yu HP5.out
  have HB5:=hid (HB1.out.trans (hb5.mono oq))
  have HB5k:=hid hb5
  by_cases hjl:j<i
  ·have hjl':(j:Int)<(i:Int):=oq
   have hrow:=HP.out.outs.below yH HB5.out
   obtain⟨bb2,oo2,hbo2,hbbl,hoj⟩:=hrow.at (show j<outs.length by omega)
   injection hbo2 with hbo2;injection hbo2 with e1_ e2_;subst e1_;subst e2_
   obtain⟨yj,_⟩:=hoj
   generalize outs[j].nm=sj at yj
   have hq:=QL sj nm
   have hjp:(j:Int)<(outs.length:Int):=oq
   clear hb5 hrow
   by_cases he:sj=nm
   ·rw[ZY he] at hq
    clear he
    go_wp2
    go_quiet (fail)
    go_wp2
    go_ret
    exact⟨⟨false,rfl,fun h=>by cases h⟩,bq⟩
   rw[ZX he] at hq
   clear he
   go_wp2
   go_quiet (fail)
   go_wp2
   first|exact⟨⟨j+1,by go_num,oq,bq⟩,by simp[intOf];omega⟩|(go_roundw;(case rel=>first|exact⟨j+1,by go_num,oq,bq⟩|((repeat apply Ye);exact⟨⟨j+1,by go_num,oq,bq⟩,rfl⟩));(case measure=>simp[intOf];omega))
  have hjl':(j:Int)=(i:Int):=oq
  have HFL:=hid (fun(w':World) (h:Below wr.heap.size wr w')=>V4 (w:=w') ⟨nodes,ins,flows,outs⟩ an ai af (some ⟨bb,oo,none⟩) cn ci cf co fl ((HP.out.below HB5.out).below h) h2 h3)
  unfold pv at HFL
  simp only at HFL
  clear hb5
  have hpl5:w.heap.size<wr.heap.size:=oq
  by_cases hfx:YK ⟨nodes,ins,flows,outs⟩ fl<(ins.length:Int)
  ·have hfd:decide (YK ⟨nodes,ins,flows,outs⟩ fl<(ins.length:Int))=true:=ZY hfx
   go_wp2
   go_region_with (first|(go_at_call 38;go_loud (refine(HFL.out _ bq).mono ?_;rintro x w2 ⟨rfl,hb2⟩;have s2:w.heap.size<w2.heap.size:=Yv hb2 oq;have hp2:=(hb2.block _ hpl5).trans HP5.out;obtain⟨⟨p2_0,p2_1,p2_2,p2_3⟩,pf2⟩:=Yu hp2;clear hp2)))
   all_goals go_wp2
   all_goals (go_ret;exact⟨⟨false,rfl,fun h=>by cases h⟩,bq⟩)
  have hfd:decide (YK ⟨nodes,ins,flows,outs⟩ fl<(ins.length:Int))=false:=ZX hfx
  have hfi:(ins.length:Int)≤YK ⟨nodes,ins,flows,outs⟩ fl:=oq
  have HONE:=hid (Ub (α:=OU) (P:=fun j (x:OU)=>(ins.length:Int)≤YK ⟨nodes,ins,flows,outs⟩ x.fl) HS.out (fun hj=>by rw[HXO.out];exact hfi))
  go_wp2
  go_region_with (first|(go_at_call 38;go_loud (refine(HFL.out _ bq).mono ?_;rintro x w2 ⟨rfl,hb2⟩;have s2:w.heap.size<w2.heap.size:=Yv hb2 oq;have hp2:=(hb2.block _ hpl5).trans HP5.out;obtain⟨⟨p2_0,p2_1,p2_2,p2_3⟩,pf2⟩:=Yu hp2;clear hp2)))
  all_goals go_wp2
  all_goals first|exact⟨⟨i+1,by go_num,oq,(hb2.block _ hpl5).trans HP5.out,bq,HONE.out⟩,by simp[intOf];omega⟩|(go_roundw;(case rel=>first|exact⟨i+1,by go_num,oq,(hb2.block _ hpl5).trans HP5.out,bq,HONE.out⟩|((repeat apply Ye);exact⟨⟨i+1,by go_num,oq,(hb2.block _ hpl5).trans HP5.out,bq,HONE.out⟩,rfl⟩));(case measure=>simp[intOf];omega))
 clear hbel
 go_wp2
 go_ret
 exact⟨⟨true,rfl,fun _=>⟨HSI.out,HSF.out,fun j hj=>HS.out j hj (Zd (show j<outs.length from hj) oq),HSN2.out⟩⟩,HBEL.out⟩
end Go.Proofs.YtlhlcdjiafdoeaaGreatDoor.syn
