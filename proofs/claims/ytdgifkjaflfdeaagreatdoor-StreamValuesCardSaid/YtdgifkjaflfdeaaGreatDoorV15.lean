/- Parts of the proof. -/
import Derived.Deep.RegionHeld3
import Derived.Test.YtdgifkjaflfdeaaGreatDoorV14
set_option linter.all false
set_option maxRecDepth 100000
set_option maxHeartbeats 16000000
namespace Go.Proofs.YtdgifkjaflfdeaaGreatDoor.syn
open Tryz
open Go.RowKit
theorem uE{W w1:World}(h:Below W.drew.heap.size W.drew w1):Below W.heap.size W w1:=⟨h.os,h.tape,h.output,h.size,h.block⟩
theorem Y8{W w2:World}(hb:Below W.heap.size W w2){b o:Nat}{v:Value}(hlt:b<W.heap.size)(h:W.cell? ⟨b,o,none⟩=some v):w2.cell? ⟨b,o,none⟩=some v:=(hb.cell (p:=⟨b,o,none⟩) hlt).trans h
structure Qg (p:PG):Prop where
 ins:∀i (h:i<p.ins.length),YR p p.ins[i].nm=(i:Int)
 flows:∀i (h:i<p.flows.length),YR p p.flows[i].nm=(p.ins.length:Int)+(i:Int)∧nq1 p p.flows[i].e.k p.flows[i].e.nm p.flows[i].e.args.len=true∧nqL p p.flows[i].e.args=true
 outs:∀i (h:i<p.outs.length),(p.ins.length:Int)≤YR p p.outs[i].fl
 nodes:∀i (h:i<p.nodes.length),Qk p p.nodes[i].nm=(i:Int)
def Zbb(p:PG)(x:Ending):Prop:=∃b:Bool,x=.returned (.bool b)∧(b=true→Qg p)
def kH(w:World)(p:PG)(an ai af ao:Option Addr)(cn ci cf co:Nat)(len:Nat)(S:Nat→Prop)(v:Value)(wr:World):Prop :=
 ∃i:Nat,v=.int .i64 (i:Int)∧i≤len∧Qb wr w.heap.size p an ai af ao cn ci cf co∧Below w.heap.size w wr∧S i
def Ze7(W:World)(len:Nat)(v:Value)(wr:World):Prop:=∃k:Nat,v=.int .i64 (k:Int)∧k≤len∧Below W.heap.size W wr
theorem U4{α:Type}{l:List α}{P:Nat→α→Prop}{i:Nat}(h:∀j (f:j<l.length),j<i→P j l[j])(hi:∀f:i<l.length,P i l[i]):∀j (f:j<l.length),j<i+1→P j l[j]:=by
 intro j f m;by_cases g:j<i
 ·exact h j f g
 have:j=i:=oq;subst this;exact hi f
theorem Zav{w:World}(g:List ND)(q:List IN)(f:List FL)(m:List OU)(an ai af ao:Option Addr)(Z Y X co:Nat)(hp:AP w ⟨g,q,f,m⟩ an ai af ao Z Y X co)(h1:g.length≤1000)(h2:q.length≤1000)(h3:f.length≤1000)(h4:m.length≤1000)(au:∀x∈g,x.ps.length≤1000) :
  Calls prog 29 #[pv ⟨g,q,f,m⟩ an ai af ao Z Y X co] w fun x w'=>Zbb ⟨g,q,f,m⟩ x∧Below w.heap.size w w':=by
 have HP:=hid hp;have da:=hid au;clear hp au;unfold pv;simp only;go_enter func29,ntmps29;go_wp2;go_loopw [3] (fun v wr=>Hid (kH w ⟨g,q,f,m⟩ an ai af ao Z Y X co g.length (fun i=>∀j (M:j<g.length),j<i→Qk ⟨g,q,f,m⟩ g[j].nm=(j:Int)) v wr)) (fun i _=>g.length-(intOf i).toNat)
 case atStart=>exact⟨0,rfl,Zk _,Yw w _,bq,fun j M h=>absurd h oq⟩
 obtain⟨i,rfl,hi,A,hbel,hS⟩:=hrel.out;clear hrel
 try simp only at hS
 unfold Qb at A;simp only at A;obtain⟨⟨x0,x1,x2,x3⟩,xf⟩:=Yx A;have J:=hid A;have HBEL:=hid hbel;have y:=Zb A;have H:=hbel.size;have HS:=hid hS;clear A hS;by_cases U:i<g.length
 ·obtain⟨z,C,rfl,D,bg⟩:=HP.out.nodes.at U;have cw:=Vb w wr z _ _ hbel D bg;have F:=Zd D H;have av:=da.out g[i] (Zi U);obtain⟨x,hx⟩:=ez (g[i]);rw[hx] at cw av;obtain⟨T,ps,em,⟨k1,nm1,n1,d1,G,a1⟩,fa⟩:=x;obtain⟨pa,pc,ad,cap,y0,y1,y2,y3,y4,y5,y6,y7,y8,y9,aj,⟨fi,fj,au⟩,al⟩:=cw.cells;simp only at av;have HA:=hid aj;have cy:=hid au;have cv:(i:Int)<(g.length:Int):=oq;have ac:=hid (fun(w':World) (h:Below wr.heap.size wr w')=>qR (w:=w') ⟨g,q,f,m⟩ (some ⟨z,C,none⟩) ai af ao Z Y X co T ((HP.out.below HBEL.out).below h) h1);have ay:=hid (fun(w':World) (h:Below wr.heap.size wr w')=>eL ⟨k1,nm1,n1,d1,G,a1⟩ w' T nm1 ps pa pc em k1 n1 d1 a1 fa ad G.len cap ad cap (cy.out.below QQ h) av (HA.out.below h));unfold pv at ac;unfold Ex at ay;simp only at ac ay;have ek:=hid hx;clear hbel cw bg hx aj au al D;by_cases ap:Qk ⟨g,q,f,m⟩ T=(i:Int)
  ·rw[ap] at ac;have cu:=hid (U4 (P:=fun j (x:ND)=>Qk ⟨g,q,f,m⟩ x.nm=(j:Int)) HS.out (fun M=>by rw[ek.out];exact ap));clear ap;have eq:((i:Int) != (i:Int))=false:=by simp
   go_wp2_with (first|(go_at_call 71;go_loud (refine(ac.out _ bq).mono ?_;rintro x w1 ⟨rfl,hb1⟩;have s1:wr.heap.size<w1.heap.size:=Yy hb1 oq;have t1:w.heap.size<w1.heap.size:=Yy hb1 oq;have ag:=hid ((hb1.block wr.heap.size oq).trans (Yw wr _));have aa:=hid ((hb1.block w.heap.size oq).trans ((Za _ _ _ y).trans J.out));obtain⟨⟨bx,bz,ca,cb,cc,cd,ce,cg,ch,cj⟩,fc⟩:=QW ag.out;obtain⟨⟨ck,cl,cm,cp⟩,fe⟩:=Yx aa.out))|(go_at_call 72;go_loud (refine(ay.out _ bq).mono ?_;rintro x E ⟨⟨b2,rfl⟩,hb2⟩;have s2:wr.heap.size<E.heap.size:=Yy hb2 oq;have t2:w.heap.size<E.heap.size:=Yy hb2 oq;have cr:=hid ((hb2.block wr.heap.size oq).trans (ag.out));have ct:=hid ((hb2.block w.heap.size oq).trans (aa.out));obtain⟨⟨dm,dn,dp,dq,dr,ds,dt,du,dv,dw⟩,fz⟩:=QW cr.out;obtain⟨⟨eb,ec,ed,ee⟩,ge⟩:=Yx ct.out;cases b2)))
   all_goals (try (go_ret;exact⟨⟨false,rfl,fun h=>by cases h⟩,bq⟩))
   have HB2:=hid (show Below w.heap.size w E from bq);have cz:=hid (cy.out.below QQ (show Below wr.heap.size wr E from bq));have bl:w.heap.size≤E.heap.size:=Nat.le_of_lt t2;clear ac ay hb1 hb2 ag aa bx bz ca cb cc cd ce cg ch cj ck cl cm cp dm dn dp dq dr ds dt du dv dw eb ec ed ee;go_loopw [5] (fun v wr'=>Hid (Ze7 E ps.length v wr')) (fun k _=>ps.length-(intOf k).toNat)
   case atStart=>exact⟨0,rfl,Zk _,Zg _ _⟩
   obtain⟨k,rfl,hk,hb5⟩:=hrel.out;clear hrel;have ba:=hid ((hb5.block _ s2).trans cr.out);have O:=hid ((hb5.block _ t2).trans ct.out);obtain⟨⟨m0,m1,m2,m3,m4,m5,m6,m7,m8,m9⟩,mf⟩:=QW ba.out;have HB5:=hid (HB2.out.trans (hb5.mono bl));have HB5k:=hid hb5;by_cases eu:k<ps.length
   ·have df:(k:Int)<(ps.length:Int):=oq;clear hb5;go_wp2;go_loopw [6] (fun v wr'=>Hid (Ze7 E k v wr')) (fun j _=>k-(intOf j).toNat)
    case atStart=>exact⟨0,rfl,Zk _,HB5k.out⟩
    clear ba O m0 m1 m2 m3 m4 m5 m6 m7 m8 m9 mf HB5 HB5k;obtain⟨j,rfl,M,hb5⟩:=hrel.out;clear hrel;have ba:=hid ((hb5.block _ s2).trans cr.out);have O:=hid ((hb5.block _ t2).trans ct.out);obtain⟨⟨m0,m1,m2,m3,m4,m5,m6,m7,m8,m9⟩,mf⟩:=QW ba.out;have HB5:=hid (HB2.out.trans (hb5.mono bl));have HB5k:=hid hb5;by_cases es:j<k
    ·have am:(j:Int)<(k:Int):=oq;have cx:=cz.out.below QQ hb5;obtain⟨pb,po,di,A,dj,bi⟩:=cx.at (show j<ps.length by omega);obtain⟨gc,gd,ab,_,dk,bj⟩:=cx.at eu;rw[di] at ab m1;injection ab with ab;injection ab with e1_ e2_;subst e1_;subst e2_
     rw[Z6] at dj dk;generalize ps[j]=sj at dj bi;generalize ps[k]=sk at dk bj;have hq:=QR sj sk;have et:(j:Int)<(ps.length:Int):=oq;clear hb5 cx bi bj di;by_cases he:sj=sk
     ·rw[ZY he] at hq;clear he;go_wp2;go_quiet (fail);go_wp2;go_ret;exact⟨⟨false,rfl,fun h=>by cases h⟩,bq⟩
     rw[ZX he] at hq;clear he;go_wp2;go_quiet (fail);go_wp2
     first|exact⟨⟨j+1,by go_num,oq,bq⟩,by simp[intOf];omega⟩|(go_roundw;(case rel=>first|exact⟨j+1,by go_num,oq,bq⟩|((repeat apply Ye);exact⟨⟨j+1,by go_num,oq,bq⟩,rfl⟩));(case measure=>simp[intOf];omega))
    have am:(j:Int)=(k:Int):=oq;clear hb5;go_wp2
    first|exact⟨⟨k+1,by go_num,oq,HB5k.out⟩,by simp[intOf];omega⟩|(go_roundw;(case rel=>first|exact⟨k+1,by go_num,oq,HB5k.out⟩|((repeat apply Ye);exact⟨⟨k+1,by go_num,oq,HB5k.out⟩,rfl⟩));(case measure=>simp[intOf];omega))
   have df:(k:Int)=(ps.length:Int):=oq;clear hb5;go_wp2
   first|exact⟨⟨i+1,by go_num,oq,O.out,HB5.out,cu.out⟩,by simp[intOf];omega⟩|(go_roundw;(case rel=>first|exact⟨i+1,by go_num,oq,O.out,HB5.out,cu.out⟩|((repeat apply Ye);exact⟨⟨i+1,by go_num,oq,O.out,HB5.out,cu.out⟩,rfl⟩));(case measure=>simp[intOf];omega))
  have fh:(Qk ⟨g,q,f,m⟩ T != (i:Int))=true:=by rw[bne,ZW.2 ap];rfl
  have dg:¬Qk ⟨g,q,f,m⟩ T=(i:Int):=ap;go_wp2_with (first|(go_at_call 71;go_loud (refine(ac.out _ bq).mono ?_;rintro x w1 ⟨rfl,hb1⟩;have s1:wr.heap.size<w1.heap.size:=Yy hb1 oq;have t1:w.heap.size<w1.heap.size:=Yy hb1 oq;have ag:=hid ((hb1.block wr.heap.size oq).trans (Yw wr _));have aa:=hid ((hb1.block w.heap.size oq).trans ((Za _ _ _ y).trans J.out));obtain⟨⟨bx,bz,ca,cb,cc,cd,ce,cg,ch,cj⟩,fc⟩:=QW ag.out;obtain⟨⟨ck,cl,cm,cp⟩,fe⟩:=Yx aa.out)))
  all_goals first|(exfalso;exact dg (by assumption))|(go_ret;exact⟨⟨false,rfl,fun h=>by cases h⟩,bq⟩)
 clear hbel;have db:=hid (show ∀j (M:j<g.length),Qk ⟨g,q,f,m⟩ g[j].nm=(j:Int) from fun j M=>HS.out j M oq);go_wp2;go_loopw [7] (fun v wr=>Hid (kH w ⟨g,q,f,m⟩ an ai af ao Z Y X co q.length (fun i=>∀j (M:j<q.length),j<i→YR ⟨g,q,f,m⟩ q[j].nm=(j:Int)) v wr)) (fun i _=>q.length-(intOf i).toNat)
 case atStart=>exact⟨0,rfl,Zk _,J.out,HBEL.out,fun j M h=>absurd h oq⟩
 clear J HBEL y H x0 x1 x2 x3 xf;obtain⟨i,rfl,hi,A,hbel,hS⟩:=hrel.out;clear hrel
 try simp only at hS
 unfold Qb at A;simp only at A;obtain⟨⟨x0,x1,x2,x3⟩,xf⟩:=Yx A;have J:=hid A;have HBEL:=hid hbel;have y:=Zb A;have H:=hbel.size;have HS:=hid hS;clear A hS;by_cases U:i<q.length
 ·obtain⟨z,C,rfl,D,bf⟩:=HP.out.ins.at U;have er:=Eg w wr z _ _ hbel D bf;have F:=Zd D H;obtain⟨y0,_⟩:=er;have cv:(i:Int)<(q.length:Int):=oq;have HX:=hid (show ∀M:i<q.length,q[i].nm=q[i].nm from fun _=>rfl);generalize hnm:q[i].nm=nmx at y0;have ef:=hid hnm;have I:=hid (fun(w':World) (h:Below wr.heap.size wr w')=>UV (w:=w') ⟨g,q,f,m⟩ an (some ⟨z,C,none⟩) af ao Z Y X co nmx ((HP.out.below HBEL.out).below h) h2 h3);unfold pv at I;simp only at I;clear hbel bf D hnm HX;by_cases L:YR ⟨g,q,f,m⟩ nmx=(i:Int)
  ·rw[L] at I;have hq:((i:Int) == (i:Int))=true:=by simp
   have cq:=hid L;clear L;go_wp2;go_region_with (go_at_call 73;go_loud (refine(I.out _ bq).mono ?_;rintro x E ⟨rfl,hb2⟩))
   all_goals go_wp2
   all_goals (exact⟨⟨i+1,by go_num,oq,(hb2.block _ y).trans J.out,bq,U4 (α:=IN) (P:=fun j (x:IN)=>YR ⟨g,q,f,m⟩ x.nm=(j:Int)) HS.out (fun M=>by show YR ⟨g,q,f,m⟩ q[i].nm=(i:Int);rw[ef.out];exact cq.out)⟩,by simp[intOf];omega⟩)
  have dc:((YR ⟨g,q,f,m⟩ nmx) == (i:Int))=false:=ZW.2 L;have de:((YR ⟨g,q,f,m⟩ nmx) != (i:Int))=true:=by rw[bne,dc];rfl
  go_wp2;go_region_with (go_at_call 73;go_loud (refine(I.out _ bq).mono ?_;rintro x E ⟨rfl,hb2⟩))
  all_goals go_wp2
  all_goals (go_ret;exact⟨⟨false,rfl,fun h=>by cases h⟩,bq⟩)
 have ej:=hid (show ∀j (M:j<q.length),YR ⟨g,q,f,m⟩ q[j].nm=(j:Int) from fun j M=>HS.out j M oq);clear HS hbel;go_wp2;go_loopw [8] (fun v wr=>Hid (kH w ⟨g,q,f,m⟩ an ai af ao Z Y X co f.length (fun i=>∀j (M:j<f.length),j<i→(YR ⟨g,q,f,m⟩ f[j].nm=(q.length:Int)+(j:Int)∧nq1 ⟨g,q,f,m⟩ f[j].e.k f[j].e.nm f[j].e.args.len=true∧nqL ⟨g,q,f,m⟩ f[j].e.args=true)) v wr)) (fun i _=>f.length-(intOf i).toNat)
 case atStart=>exact⟨0,rfl,Zk _,J.out,HBEL.out,fun j M h=>absurd h oq⟩
 clear J HBEL y H x0 x1 x2 x3 xf;obtain⟨i,rfl,hi,A,hbel,hS⟩:=hrel.out;clear hrel
 try simp only at hS
 unfold Qb at A;simp only at A;obtain⟨⟨x0,x1,x2,x3⟩,xf⟩:=Yx A;have J:=hid A;have HBEL:=hid hbel;have y:=Zb A;have H:=hbel.size;have HS:=hid hS;clear A hS;by_cases U:i<f.length
 ·obtain⟨z,C,rfl,D,bd⟩:=HP.out.flows.at U;have bc:=Vo w wr z _ _ hbel D bd;have F:=Zd D H;obtain⟨x,hx⟩:=ez (f[i]);have HX:=hid hx;rw[hx] at bc;obtain⟨T,⟨k1,R,n1,d1,G,a1⟩,fa⟩:=x;obtain⟨ad,cap,y0,y1,y2,y3,y4,y5,y6,y7,aj,al⟩:=bc.cells;have HA:=hid aj;have fv:=hid bc;have cv:(i:Int)<(f.length:Int):=oq;have I:=hid (fun(w':World) (h:Below wr.heap.size wr w')=>UV (w:=w') ⟨g,q,f,m⟩ an ai (some ⟨z,C,none⟩) ao Z Y X co T ((HP.out.below HBEL.out).below h) h2 h3);have az:=hid (fun(w':World) (h:Below wr.heap.size wr w')=>eZ ⟨g,q,f,m⟩ an ai (some ⟨z,C,none⟩) ao Z Y X co h1 h2 h3 ⟨k1,R,n1,d1,G,a1⟩ w' ad cap ((HP.out.below HBEL.out).below h) (HA.out.below h));unfold pv at I az;unfold GL at az;simp only at I az;clear hbel bc bd D hx aj al;by_cases L:YR ⟨g,q,f,m⟩ T=(q.length:Int)+(i:Int)
  ·rw[L] at I;have cq:=hid L;clear L;have eq:(((q.length:Int)+(i:Int)) != ((q.length:Int)+(i:Int)))=false:=by simp
   have ew:IntKind.i64.wrap ((q.length:Int)+(i:Int))=(q.length:Int)+(i:Int):=ZJ _ oq;go_wp2;go_region_held3 (fun w'=>w'.cell? ⟨w.heap.size,0,none⟩=some (.slice an g.length Z)∧w'.cell? ⟨w.heap.size,1,none⟩=some (.slice ai q.length Y)∧w'.cell? ⟨w.heap.size,2,none⟩=some (.slice (some ⟨z,C,none⟩) f.length X)∧w'.cell? ⟨w.heap.size,3,none⟩=some (.slice ao m.length co)∧w'.cell? ⟨z,C+i*8,none⟩=some (.string T)∧w'.cell? ⟨z,C+i*8+1,none⟩=some (.int .i64 k1)∧w'.cell? ⟨z,C+i*8+2,none⟩=some (.string R)∧w'.cell? ⟨z,C+i*8+3,none⟩=some (.int .i64 n1)∧w'.cell? ⟨z,C+i*8+4,none⟩=some (.int .i64 d1)∧w'.cell? ⟨z,C+i*8+5,none⟩=some (.slice ad G.len cap)∧w'.cell? ⟨z,C+i*8+6,none⟩=some (.int .i64 a1)∧w'.cell? ⟨z,C+i*8+7,none⟩=some (.int .i64 fa)) (go_keep) (first|(go_at_call 73;go_loud (refine(I.out _ bq).mono ?_;rintro x E ⟨rfl,hb2⟩;have hb2k:Below wr.heap.size wr E:=(by first|exact hb2|exact uE hb2);have s2:w.heap.size<E.heap.size:=Zd y hb2k.size;have s3:z<E.heap.size:=Zd F hb2k.size;have bm:E.cell? ⟨w.heap.size,0,none⟩=some (.slice an g.length Z):=Y8 hb2k y x0;have bn:E.cell? ⟨w.heap.size,1,none⟩=some (.slice ai q.length Y):=Y8 hb2k y x1;have bo:E.cell? ⟨w.heap.size,2,none⟩=some (.slice (some ⟨z,C,none⟩) f.length X):=Y8 hb2k y x2;have bp:E.cell? ⟨w.heap.size,3,none⟩=some (.slice ao m.length co):=Y8 hb2k y x3;have br:E.cell? ⟨z,C+i*8,none⟩=some (.string T):=Y8 hb2k F y0;have bs:E.cell? ⟨z,C+i*8+1,none⟩=some (.int .i64 k1):=Y8 hb2k F y1;have bt:E.cell? ⟨z,C+i*8+2,none⟩=some (.string R):=Y8 hb2k F y2;have bu:E.cell? ⟨z,C+i*8+3,none⟩=some (.int .i64 n1):=Y8 hb2k F y3;have bv:E.cell? ⟨z,C+i*8+4,none⟩=some (.int .i64 d1):=Y8 hb2k F y4;have bw:E.cell? ⟨z,C+i*8+5,none⟩=some (.slice ad G.len cap):=Y8 hb2k F y5;have aw:E.cell? ⟨z,C+i*8+6,none⟩=some (.int .i64 a1):=Y8 hb2k F y6;have ax:E.cell? ⟨z,C+i*8+7,none⟩=some (.int .i64 fa):=Y8 hb2k F y7))|(go_at_call 74;go_loud (refine(az.out _ bq).mono ?_;rintro x w3 ⟨⟨b2,rfl,en⟩,hb3⟩;have hb3k:Below E.heap.size E w3:=(by first|exact hb3|exact uE hb3);have fk:w3.cell? ⟨w.heap.size,0,none⟩=some (.slice an g.length Z):=Y8 hb3k s2 bm;have fm:w3.cell? ⟨w.heap.size,1,none⟩=some (.slice ai q.length Y):=Y8 hb3k s2 bn;have fn:w3.cell? ⟨w.heap.size,2,none⟩=some (.slice (some ⟨z,C,none⟩) f.length X):=Y8 hb3k s2 bo;have fo:w3.cell? ⟨w.heap.size,3,none⟩=some (.slice ao m.length co):=Y8 hb3k s2 bp;have fp:w3.cell? ⟨z,C+i*8,none⟩=some (.string T):=Y8 hb3k s3 br;have fq:w3.cell? ⟨z,C+i*8+1,none⟩=some (.int .i64 k1):=Y8 hb3k s3 bs;have fr:w3.cell? ⟨z,C+i*8+2,none⟩=some (.string R):=Y8 hb3k s3 bt;have fs:w3.cell? ⟨z,C+i*8+3,none⟩=some (.int .i64 n1):=Y8 hb3k s3 bu;have ft:w3.cell? ⟨z,C+i*8+4,none⟩=some (.int .i64 d1):=Y8 hb3k s3 bv;have fu:w3.cell? ⟨z,C+i*8+5,none⟩=some (.slice ad G.len cap):=Y8 hb3k s3 bw;have ex:w3.cell? ⟨z,C+i*8+6,none⟩=some (.int .i64 a1):=Y8 hb3k s3 aw;have fb:w3.cell? ⟨z,C+i*8+7,none⟩=some (.int .i64 fa):=Y8 hb3k s3 ax)))
   all_goals cases b2
   all_goals go_wp2
   all_goals first|(go_ret;exact⟨⟨false,rfl,fun h=>by cases h⟩,bq⟩)|exact⟨⟨i+1,by go_num,oq,(hb3k.block _ s2).trans ((hb2k.block _ y).trans J.out),bq,U4 (α:=FL) (P:=fun j (x:FL)=>YR ⟨g,q,f,m⟩ x.nm=(q.length:Int)+(j:Int)∧nq1 ⟨g,q,f,m⟩ x.e.k x.e.nm x.e.args.len=true∧nqL ⟨g,q,f,m⟩ x.e.args=true) HS.out (fun M=>by rw[HX.out];exact⟨cq.out,en rfl⟩)⟩,by simp[intOf];omega⟩
  obtain⟨fx,be⟩:=ez (YR ⟨g,q,f,m⟩ T);rw[be] at I L;have dd:(fx == ((q.length:Int)+(i:Int)))=false:=ZW.2 L;have de:(fx != ((q.length:Int)+(i:Int)))=true:=by rw[bne,dd];rfl
  have fg:decide (fx=(q.length:Int)+(i:Int))=false:=ZX L;clear be;have ew:IntKind.i64.wrap ((q.length:Int)+(i:Int))=(q.length:Int)+(i:Int):=ZJ _ oq;go_wp2;refine ZN (S:=(fun w'=>w'.cell? ⟨w.heap.size,0,none⟩=some (.slice an g.length Z)∧w'.cell? ⟨w.heap.size,1,none⟩=some (.slice ai q.length Y)∧w'.cell? ⟨w.heap.size,2,none⟩=some (.slice (some ⟨z,C,none⟩) f.length X)∧w'.cell? ⟨w.heap.size,3,none⟩=some (.slice ao m.length co)∧w'.cell? ⟨z,C+i*8,none⟩=some (.string T)∧w'.cell? ⟨z,C+i*8+1,none⟩=some (.int .i64 k1)∧w'.cell? ⟨z,C+i*8+2,none⟩=some (.string R)∧w'.cell? ⟨z,C+i*8+3,none⟩=some (.int .i64 n1)∧w'.cell? ⟨z,C+i*8+4,none⟩=some (.int .i64 d1)∧w'.cell? ⟨z,C+i*8+5,none⟩=some (.slice ad G.len cap)∧w'.cell? ⟨z,C+i*8+6,none⟩=some (.int .i64 a1)∧w'.cell? ⟨z,C+i*8+7,none⟩=some (.int .i64 fa))) kq ?_ (fun hHeld=>?_)
  ·go_keep
  refine tk 0 (by assumption) ?_;refine tk 1 (by assumption) ?_;refine tk 2 (by assumption) ?_;refine tk 3 (by assumption) ?_;refine tk 4 (by assumption) ?_;refine tk 5 (by assumption) ?_;refine tk 6 (by assumption) ?_;refine tk 8 (by assumption) ?_;refine tk 9 (by assumption) ?_;refine tk 10 (by assumption) ?_;refine tk 11 (by assumption) ?_;refine tk 12 (by assumption) ?_;refine wpAnyH_ready (rs:=[7]) kq (by simp) ?_;refine ZG rfl (fun K hK=>?_) AllReadyH.nil
  try simp only[List.getElem_toArray,List.getElem_cons_succ,List.getElem_cons_zero,Array.getInternal_eq_getElem]
  go_simp
  (go_at_call 73;go_loud (refine(I.out _ bq).mono ?_;rintro x E ⟨rfl,hb2⟩;have hb2k:Below wr.heap.size wr E:=(by first|exact hb2|exact uE hb2);have s2:w.heap.size<E.heap.size:=Zd y hb2k.size;have s3:z<E.heap.size:=Zd F hb2k.size;have bm:E.cell? ⟨w.heap.size,0,none⟩=some (.slice an g.length Z):=Y8 hb2k y x0;have bn:E.cell? ⟨w.heap.size,1,none⟩=some (.slice ai q.length Y):=Y8 hb2k y x1;have bo:E.cell? ⟨w.heap.size,2,none⟩=some (.slice (some ⟨z,C,none⟩) f.length X):=Y8 hb2k y x2;have bp:E.cell? ⟨w.heap.size,3,none⟩=some (.slice ao m.length co):=Y8 hb2k y x3;have br:E.cell? ⟨z,C+i*8,none⟩=some (.string T):=Y8 hb2k F y0;have bs:E.cell? ⟨z,C+i*8+1,none⟩=some (.int .i64 k1):=Y8 hb2k F y1;have bt:E.cell? ⟨z,C+i*8+2,none⟩=some (.string R):=Y8 hb2k F y2;have bu:E.cell? ⟨z,C+i*8+3,none⟩=some (.int .i64 n1):=Y8 hb2k F y3;have bv:E.cell? ⟨z,C+i*8+4,none⟩=some (.int .i64 d1):=Y8 hb2k F y4;have bw:E.cell? ⟨z,C+i*8+5,none⟩=some (.slice ad G.len cap):=Y8 hb2k F y5;have aw:E.cell? ⟨z,C+i*8+6,none⟩=some (.int .i64 a1):=Y8 hb2k F y6;have ax:E.cell? ⟨z,C+i*8+7,none⟩=some (.int .i64 fa):=Y8 hb2k F y7))
  refine hK.out _ _ ?_ (fun hHeld2=>?_)
  ·go_keep
  clear hK K;refine tk 13 (by assumption) ?_;refine tk 14 (by assumption) ?_;refine tu 15 (by assumption) ?_;refine tu 16 (by assumption) ?_;refine tu 17 (by assumption) ?_;refine tu 18 (by assumption) ?_;refine tu 19 (by assumption) ?_;refine tu 20 (by assumption) ?_;refine tu 21 (by assumption) ?_;refine tu 22 (by assumption) ?_;refine tu 23 (by assumption) ?_;refine tk 24 (by assumption) ?_;refine Zx kq ?_ _
  all_goals go_wp2
  all_goals first|(go_ret;exact⟨⟨false,rfl,fun h=>by cases h⟩,bq⟩)
 have ei:=hid (show ∀j (M:j<f.length),(YR ⟨g,q,f,m⟩ f[j].nm=(q.length:Int)+(j:Int)∧nq1 ⟨g,q,f,m⟩ f[j].e.k f[j].e.nm f[j].e.args.len=true∧nqL ⟨g,q,f,m⟩ f[j].e.args=true) from fun j M=>HS.out j M oq);clear HS hbel;go_wp2;go_loopw [9] (fun v wr=>Hid (kH w ⟨g,q,f,m⟩ an ai af ao Z Y X co m.length (fun i=>∀j (M:j<m.length),j<i→(q.length:Int)≤YR ⟨g,q,f,m⟩ m[j].fl) v wr)) (fun i _=>m.length-(intOf i).toNat)
 case atStart=>exact⟨0,rfl,Zk _,J.out,HBEL.out,fun j M h=>absurd h (Yj _)⟩
 clear J HBEL y H x0 x1 x2 x3 xf;obtain⟨i,rfl,hi,A,hbel,hS⟩:=hrel.out;clear hrel
 try simp only at hS
 unfold Qb at A;simp only at A;obtain⟨⟨x0,x1,x2,x3⟩,xf⟩:=Yx A;have J:=hid A;have HBEL:=hid hbel;have y:=Zb A;have H:=hbel.size;have HS:=hid hS;clear A hS;by_cases U:i<m.length
 ·obtain⟨z,C,rfl,D,bh⟩:=HP.out.outs.at U;have dh:=jA w wr z _ _ hbel D bh;have F:=Zd D H;obtain⟨x,hx⟩:=ez (m[i]);rw[hx] at dh;obtain⟨T,fl,dl,fa⟩:=x;obtain⟨y0,y1,y2,y3,al⟩:=dh;simp only at y0 y1 y2 y3;have cv:(i:Int)<(m.length:Int):=oq;obtain⟨W1,ae⟩:=ez (wr.alloc (Obj.cells #[.string T,.string fl,.int .i64 dl,.int .i64 fa] 157));obtain⟨ob,aq⟩:=ez wr.heap.size;have eg:=hid (show W1.heap[ob]?=some _ from by rw[←ae,←aq];exact Yw wr _);have aa:=hid (show W1.heap[w.heap.size]?=some _ from by rw[←ae];exact(Za _ _ _ y).trans J.out);have HB1:=hid (show Below w.heap.size w W1 from by rw[←ae];exact hbel.alloc H _);have fy:W1.heap.size=ob+1:=by rw[←ae,←aq];simp
  have el:=hid hx;clear hbel bh D hx al;go_wp2
  try rw[ae]
  try rw[aq]
  rw[aq] at y H F;clear ae aq x0 x1 x2 x3 xf y0 y1 y2 y3 J HBEL;go_loopw [11] (fun v wr'=>Hid (Ze7 W1 i v wr')) (fun j _=>i-(intOf j).toNat)
  case atStart=>exact⟨0,rfl,Zk _,Zg _ _⟩
  obtain⟨j,rfl,M,hb5⟩:=hrel.out;clear hrel;have fw:=hb5.size;have eh:=hid ((hb5.block ob oq).trans eg.out);have O:=hid ((hb5.block w.heap.size oq).trans aa.out);obtain⟨⟨o0,o1,o2,o3⟩,ga⟩:=Yx eh.out;obtain⟨⟨z0,z1,z2,z3⟩,zf⟩:=Yx O.out;have HB5:=hid (HB1.out.trans (hb5.mono oq));have HB5k:=hid hb5;by_cases es:j<i
  ·have am:(j:Int)<(i:Int):=oq;have bk:=HP.out.outs.below jA HB5.out;obtain⟨bb2,gb,ak,ff,ev⟩:=bk.at (show j<m.length by omega);injection ak with ak;injection ak with e1_ e2_;subst e1_;subst e2_
   obtain⟨yj,_⟩:=ev;generalize m[j].nm=sj at yj;have hq:=QR sj T;have et:(j:Int)<(m.length:Int):=oq;clear hb5 bk;by_cases he:sj=T
   ·rw[ZY he] at hq;clear he;go_wp2;go_quiet (fail);go_wp2;go_ret;exact⟨⟨false,rfl,fun h=>by cases h⟩,bq⟩
   rw[ZX he] at hq;clear he;go_wp2;go_quiet (fail);go_wp2
   first|exact⟨⟨j+1,by go_num,oq,bq⟩,by simp[intOf];omega⟩|(go_roundw;(case rel=>first|exact⟨j+1,by go_num,oq,bq⟩|((repeat apply Ye);exact⟨⟨j+1,by go_num,oq,bq⟩,rfl⟩));(case measure=>simp[intOf];omega))
  have am:(j:Int)=(i:Int):=oq;have I:=hid (fun(w':World) (h:Below wr.heap.size wr w')=>UV (w:=w') ⟨g,q,f,m⟩ an ai af (some ⟨z,C,none⟩) Z Y X co fl ((HP.out.below HB5.out).below h) h2 h3);unfold pv at I;simp only at I;clear hb5;have V:w.heap.size<wr.heap.size:=oq;by_cases L:YR ⟨g,q,f,m⟩ fl<(q.length:Int)
  ·have eo:decide (YR ⟨g,q,f,m⟩ fl<(q.length:Int))=true:=ZY L;go_wp2;go_region_with (first|(go_at_call 73;go_loud (refine(I.out _ bq).mono ?_;rintro x E ⟨rfl,hb2⟩;have s2:w.heap.size<E.heap.size:=Yy hb2 oq;have ar:=(hb2.block _ V).trans O.out;obtain⟨⟨dx,dy,dz,ea⟩,fd⟩:=Yx ar;clear ar)))
   all_goals go_wp2
   all_goals (go_ret;exact⟨⟨false,rfl,fun h=>by cases h⟩,bq⟩)
  have eo:decide (YR ⟨g,q,f,m⟩ fl<(q.length:Int))=false:=ZX L;have ep:(q.length:Int)≤YR ⟨g,q,f,m⟩ fl:=oq;have ah:=hid (U4 (α:=OU) (P:=fun j (x:OU)=>(q.length:Int)≤YR ⟨g,q,f,m⟩ x.fl) HS.out (fun M=>by rw[el.out];exact ep));go_wp2;go_region_with (first|(go_at_call 73;go_loud (refine(I.out _ bq).mono ?_;rintro x E ⟨rfl,hb2⟩;have s2:w.heap.size<E.heap.size:=Yy hb2 oq;have ar:=(hb2.block _ V).trans O.out;obtain⟨⟨dx,dy,dz,ea⟩,fd⟩:=Yx ar;clear ar)))
  all_goals go_wp2
  all_goals first|exact⟨⟨i+1,by go_num,oq,(hb2.block _ V).trans O.out,bq,ah.out⟩,by simp[intOf];omega⟩|(go_roundw;(case rel=>first|exact⟨i+1,by go_num,oq,(hb2.block _ V).trans O.out,bq,ah.out⟩|((repeat apply Ye);exact⟨⟨i+1,by go_num,oq,(hb2.block _ V).trans O.out,bq,ah.out⟩,rfl⟩));(case measure=>simp[intOf];omega))
 clear hbel;go_wp2;go_ret;exact⟨⟨true,rfl,fun _=>⟨ej.out,ei.out,fun j M=>HS.out j M (Zd (show j<m.length from M) oq),db.out⟩⟩,HBEL.out⟩
end Go.Proofs.YtdgifkjaflfdeaaGreatDoor.syn
