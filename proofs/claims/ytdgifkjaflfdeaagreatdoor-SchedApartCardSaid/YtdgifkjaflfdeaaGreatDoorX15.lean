/- Parts of the proof. -/
import Derived.Deep.RegionHeld3
import Derived.Test.YtdgifkjaflfdeaaGreatDoorX14
set_option linter.all false
set_option maxRecDepth 100000
set_option maxHeartbeats 16000000
namespace Go.Proofs.YtdgifkjaflfdeaaGreatDoor.syn
open Tryz
open Go.RowKit
theorem uD{W w1:World}(h:Below W.drew.1.size W.drew w1):Below W.1.size W w1:=⟨h.os,h.tape,h.output,h.size,h.block⟩
theorem Y7{W w2:World}(hb:Below W.1.size W w2){b o:Nat}{v:Value}(hlt:b<W.1.size)(h:W.cell? ⟨b,o,none⟩=some v):w2.cell? ⟨b,o,none⟩=some v:=(hb.cell (p:=⟨b,o,none⟩) hlt).trans h
structure Qp (p:PG):Prop where
 ins:∀i (h:i<p.ins.length),YS p p.ins[i].nm=(i:Int)
 flows:∀i (h:i<p.flows.length),YS p p.flows[i].nm=(p.ins.length:Int)+(i:Int)/\nq1 p p.flows[i].e.k p.flows[i].e.nm p.flows[i].e.args.len=true/\nqL p p.flows[i].e.args=true
 outs:∀i (h:i<p.outs.length),(p.ins.length:Int)<=YS p p.outs[i].fl
 nodes:∀i (h:i<p.nodes.length),Qm p p.nodes[i].nm=(i:Int)
def Zbp(p:PG)(x:Ending):Prop:=∃b:Bool,x=.returned (.bool b)/\(b=true->Qp p)
def kP(w:World)(p:PG)(an ai af ao:OA)(cn ci cf co:Nat)(len:Nat)(S:Nat->Prop)(v:Value)(wr:World):Prop :=
 ∃i:Nat,v=.int .i64 (i:Int)/\i<=len/\Qg wr w.1.size p an ai af ao cn ci cf co/\Below w.1.size w wr/\S i
def Zfu(W:World)(len:Nat)(v:Value)(wr:World):Prop:=∃k:Nat,v=.int .i64 (k:Int)/\k<=len/\Below W.1.size W wr
theorem U5{α:Type}{l:List α}{P:Nat->α->Prop}{i:Nat}(h:∀j (f:j<l.length),j<i->P j l[j])(hi:∀f:i<l.length,P i l[i]):∀j (f:j<l.length),j<i+1->P j l[j]:=by
 intro j f m;by_cases g:j<i
 .exact h j f g
 have:j=i:=oq;subst this;exact hi f
theorem ZaB{w:World}(g:List ND)(ins:List IN)(f:List FL)(m:List OU)(an ai af ao:OA)(Y X V Z:Nat)(hp:AP w ⟨g,ins,f,m⟩ an ai af ao Y X V Z)(h1:g.length<=1000)(h2:ins.length<=1000)(h3:f.length<=1000)(h4:m.length<=1000)(au:∀x∈g,x.ps.length<=1000) :
  Calls prog 29 #[pv ⟨g,ins,f,m⟩ an ai af ao Y X V Z] w fun x w'=>Zbp ⟨g,ins,f,m⟩ x/\Below w.1.size w w':=by
 have HP:=hid hp;have da:=hid au;clear hp au;unfold pv;simp only;go_enter func29,ntmps29;go_wp2;go_loopw [3] (fun v wr=>Hid (kP w ⟨g,ins,f,m⟩ an ai af ao Y X V Z g.length (fun i=>∀j (L:j<g.length),j<i->Qm ⟨g,ins,f,m⟩ g[j].nm=(j:Int)) v wr)) (fun i _=>g.length-(intOf i).toNat)
 case atStart=>exact⟨0,rfl,Zk _,Yx w _,bq,fun j L h=>absurd h oq⟩
 obtain⟨i,rfl,hi,z,hbel,hS⟩:=hrel.o;clear hrel
 try simp only at hS
 unfold Qg at z;simp only at z;obtain⟨⟨x0,x1,x2,x3⟩,xf⟩:=Yy z;have I:=hid z;have HBEL:=hid hbel;have q:=Zb z;have G:=hbel.size;have HS:=hid hS;clear z hS;by_cases T:i<g.length
 .obtain⟨y,A,rfl,C,bg⟩:=HP.o.nodes.at T;have cw:=Vk w wr y _ _ hbel C bg;have E:=Zd C G;have av:=da.o g[i] (Zi T);obtain⟨x,hx⟩:=ez (g[i]);rw[hx] at cw av;obtain⟨R,ps,bud,⟨k1,nm1,n1,d1,F,a1⟩,fa⟩:=x;obtain⟨pa,pc,ad,cap,y0,y1,y2,y3,y4,y5,y6,y7,y8,y9,aj,⟨fh,fi,au⟩,al⟩:=cw.cells;simp only at av;have HA:=hid aj;have cy:=hid au;have cv:(i:Int)<(g.length:Int):=oq;have ac:=hid (fun(w':World) (h:Below wr.1.size wr w')=>qU (w:=w') ⟨g,ins,f,m⟩ (some ⟨y,A,none⟩) ai af ao Y X V Z R ((HP.o.below HBEL.o).below h) h1);have ay:=hid (fun(w':World) (h:Below wr.1.size wr w')=>eY ⟨k1,nm1,n1,d1,F,a1⟩ w' R nm1 ps pa pc bud k1 n1 d1 a1 fa ad F.len cap ad cap (cy.o.below QT h) av (HA.o.below h));unfold pv at ac;unfold ER at ay;simp only at ac ay;have ek:=hid hx;clear hbel cw bg hx aj au al C;by_cases ap:Qm ⟨g,ins,f,m⟩ R=(i:Int)
  .rw[ap] at ac;have cu:=hid (U5 (P:=fun j (x:ND)=>Qm ⟨g,ins,f,m⟩ x.nm=(j:Int)) HS.o (fun L=>by rw[ek.o];exact ap));clear ap;have ep:((i:Int) != (i:Int))=false:=by simp
   go_wp2_with (first|(go_at_call 71;go_loud (refine(ac.o _ bq).mono ?_;rintro x w1 ⟨rfl,hb1⟩;have s1:wr.1.size<w1.1.size:=Yz hb1 oq;have t1:w.1.size<w1.1.size:=Yz hb1 oq;have ag:=hid ((hb1.block wr.1.size oq).trans (Yx wr _));have aa:=hid ((hb1.block w.1.size oq).trans ((Za _ _ _ q).trans I.o));obtain⟨⟨bx,bz,ca,cb,cc,cd,ce,cg,ch,cj⟩,fb⟩:=QY ag.o;obtain⟨⟨ck,cl,cm,cp⟩,fd⟩:=Yy aa.o))|(go_at_call 72;go_loud (refine(ay.o _ bq).mono ?_;rintro x D ⟨⟨b2,rfl⟩,hb2⟩;have s2:wr.1.size<D.1.size:=Yz hb2 oq;have t2:w.1.size<D.1.size:=Yz hb2 oq;have cr:=hid ((hb2.block wr.1.size oq).trans (ag.o));have ct:=hid ((hb2.block w.1.size oq).trans (aa.o));obtain⟨⟨dm,dn,dp,dq,dr,ds,dt,du,dv,dw⟩,fy⟩:=QY cr.o;obtain⟨⟨eb,ec,ed,ee⟩,gd⟩:=Yy ct.o;cases b2)))
   all_goals (try (go_ret;exact⟨⟨false,rfl,fun h=>by cases h⟩,bq⟩))
   have HB2:=hid (show Below w.1.size w D from bq);have cz:=hid (cy.o.below QT (show Below wr.1.size wr D from bq));have bl:w.1.size<=D.1.size:=Nat.le_of_lt t2;clear ac ay hb1 hb2 ag aa bx bz ca cb cc cd ce cg ch cj ck cl cm cp dm dn dp dq dr ds dt du dv dw eb ec ed ee;go_loopw [5] (fun v wr'=>Hid (Zfu D ps.length v wr')) (fun k _=>ps.length-(intOf k).toNat)
   case atStart=>exact⟨0,rfl,Zk _,Zg _ _⟩
   obtain⟨k,rfl,hk,hb5⟩:=hrel.o;clear hrel;have ba:=hid ((hb5.block _ s2).trans cr.o);have M:=hid ((hb5.block _ t2).trans ct.o);obtain⟨⟨m0,m1,m2,m3,m4,m5,m6,m7,m8,m9⟩,mf⟩:=QY ba.o;have HB5:=hid (HB2.o.trans (hb5.mono bl));have HB5k:=hid hb5;by_cases et:k<ps.length
   .have df:(k:Int)<(ps.length:Int):=oq;clear hb5;go_wp2;go_loopw [6] (fun v wr'=>Hid (Zfu D k v wr')) (fun j _=>k-(intOf j).toNat)
    case atStart=>exact⟨0,rfl,Zk _,HB5k.o⟩
    clear ba M m0 m1 m2 m3 m4 m5 m6 m7 m8 m9 mf HB5 HB5k;obtain⟨j,rfl,L,hb5⟩:=hrel.o;clear hrel;have ba:=hid ((hb5.block _ s2).trans cr.o);have M:=hid ((hb5.block _ t2).trans ct.o);obtain⟨⟨m0,m1,m2,m3,m4,m5,m6,m7,m8,m9⟩,mf⟩:=QY ba.o;have HB5:=hid (HB2.o.trans (hb5.mono bl));have HB5k:=hid hb5;by_cases er:j<k
    .have am:(j:Int)<(k:Int):=oq;have cx:=cz.o.below QT hb5;obtain⟨pb,po,di,z,dj,bi⟩:=cx.at (show j<ps.length by omega);obtain⟨gb,gc,ab,_,dk,bj⟩:=cx.at et;rw[di] at ab m1;injection ab with ab;injection ab with e1_ e2_;subst e1_;subst e2_
     rw[Z9] at dj dk;generalize ps[j]=sj at dj bi;generalize ps[k]=sk at dk bj;have hq:=Jh sj sk;have es:(j:Int)<(ps.length:Int):=oq;clear hb5 cx bi bj di;by_cases he:sj=sk
     .rw[Z1 he] at hq;clear he;go_wp2;go_quiet (fail);go_wp2;go_ret;exact⟨⟨false,rfl,fun h=>by cases h⟩,bq⟩
     rw[Z0 he] at hq;clear he;go_wp2;go_quiet (fail);go_wp2
     first|exact⟨⟨j+1,by go_num,oq,bq⟩,by simp[intOf];omega⟩|(go_roundw;(case rel=>first|exact⟨j+1,by go_num,oq,bq⟩|((repeat apply Yh);exact⟨⟨j+1,by go_num,oq,bq⟩,rfl⟩));(case measure=>simp[intOf];omega))
    have am:(j:Int)=(k:Int):=oq;clear hb5;go_wp2
    first|exact⟨⟨k+1,by go_num,oq,HB5k.o⟩,by simp[intOf];omega⟩|(go_roundw;(case rel=>first|exact⟨k+1,by go_num,oq,HB5k.o⟩|((repeat apply Yh);exact⟨⟨k+1,by go_num,oq,HB5k.o⟩,rfl⟩));(case measure=>simp[intOf];omega))
   have df:(k:Int)=(ps.length:Int):=oq;clear hb5;go_wp2
   first|exact⟨⟨i+1,by go_num,oq,M.o,HB5.o,cu.o⟩,by simp[intOf];omega⟩|(go_roundw;(case rel=>first|exact⟨i+1,by go_num,oq,M.o,HB5.o,cu.o⟩|((repeat apply Yh);exact⟨⟨i+1,by go_num,oq,M.o,HB5.o,cu.o⟩,rfl⟩));(case measure=>simp[intOf];omega))
  have fg:(Qm ⟨g,ins,f,m⟩ R != (i:Int))=true:=by rw[bne,ZZ.2 ap];rfl
  have dg:¬Qm ⟨g,ins,f,m⟩ R=(i:Int):=ap;go_wp2_with (first|(go_at_call 71;go_loud (refine(ac.o _ bq).mono ?_;rintro x w1 ⟨rfl,hb1⟩;have s1:wr.1.size<w1.1.size:=Yz hb1 oq;have t1:w.1.size<w1.1.size:=Yz hb1 oq;have ag:=hid ((hb1.block wr.1.size oq).trans (Yx wr _));have aa:=hid ((hb1.block w.1.size oq).trans ((Za _ _ _ q).trans I.o));obtain⟨⟨bx,bz,ca,cb,cc,cd,ce,cg,ch,cj⟩,fb⟩:=QY ag.o;obtain⟨⟨ck,cl,cm,cp⟩,fd⟩:=Yy aa.o)))
  all_goals first|(exfalso;exact dg (by assumption))|(go_ret;exact⟨⟨false,rfl,fun h=>by cases h⟩,bq⟩)
 clear hbel;have db:=hid (show ∀j (L:j<g.length),Qm ⟨g,ins,f,m⟩ g[j].nm=(j:Int) from fun j L=>HS.o j L oq);go_wp2;go_loopw [7] (fun v wr=>Hid (kP w ⟨g,ins,f,m⟩ an ai af ao Y X V Z ins.length (fun i=>∀j (L:j<ins.length),j<i->YS ⟨g,ins,f,m⟩ ins[j].nm=(j:Int)) v wr)) (fun i _=>ins.length-(intOf i).toNat)
 case atStart=>exact⟨0,rfl,Zk _,I.o,HBEL.o,fun j L h=>absurd h oq⟩
 clear I HBEL q G x0 x1 x2 x3 xf;obtain⟨i,rfl,hi,z,hbel,hS⟩:=hrel.o;clear hrel
 try simp only at hS
 unfold Qg at z;simp only at z;obtain⟨⟨x0,x1,x2,x3⟩,xf⟩:=Yy z;have I:=hid z;have HBEL:=hid hbel;have q:=Zb z;have G:=hbel.size;have HS:=hid hS;clear z hS;by_cases T:i<ins.length
 .obtain⟨y,A,rfl,C,bf⟩:=HP.o.ins.at T;have eq:=EB w wr y _ _ hbel C bf;have E:=Zd C G;obtain⟨y0,_⟩:=eq;have cv:(i:Int)<(ins.length:Int):=oq;have HX:=hid (show ∀L:i<ins.length,ins[i].nm=ins[i].nm from fun _=>rfl);generalize hnm:ins[i].nm=nmx at y0;have ef:=hid hnm;have H:=hid (fun(w':World) (h:Below wr.1.size wr w')=>UW (w:=w') ⟨g,ins,f,m⟩ an (some ⟨y,A,none⟩) af ao Y X V Z nmx ((HP.o.below HBEL.o).below h) h2 h3);unfold pv at H;simp only at H;clear hbel bf C hnm HX;by_cases J:YS ⟨g,ins,f,m⟩ nmx=(i:Int)
  .rw[J] at H;have hq:((i:Int) == (i:Int))=true:=by simp
   have cq:=hid J;clear J;go_wp2;go_region_with (go_at_call 73;go_loud (refine(H.o _ bq).mono ?_;rintro x D ⟨rfl,hb2⟩))
   all_goals go_wp2
   all_goals (exact⟨⟨i+1,by go_num,oq,(hb2.block _ q).trans I.o,bq,U5 (α:=IN) (P:=fun j (x:IN)=>YS ⟨g,ins,f,m⟩ x.nm=(j:Int)) HS.o (fun L=>by show YS ⟨g,ins,f,m⟩ ins[i].nm=(i:Int);rw[ef.o];exact cq.o)⟩,by simp[intOf];omega⟩)
  have dc:((YS ⟨g,ins,f,m⟩ nmx) == (i:Int))=false:=ZZ.2 J;have de:((YS ⟨g,ins,f,m⟩ nmx) != (i:Int))=true:=by rw[bne,dc];rfl
  go_wp2;go_region_with (go_at_call 73;go_loud (refine(H.o _ bq).mono ?_;rintro x D ⟨rfl,hb2⟩))
  all_goals go_wp2
  all_goals (go_ret;exact⟨⟨false,rfl,fun h=>by cases h⟩,bq⟩)
 have ej:=hid (show ∀j (L:j<ins.length),YS ⟨g,ins,f,m⟩ ins[j].nm=(j:Int) from fun j L=>HS.o j L oq);clear HS hbel;go_wp2;go_loopw [8] (fun v wr=>Hid (kP w ⟨g,ins,f,m⟩ an ai af ao Y X V Z f.length (fun i=>∀j (L:j<f.length),j<i->(YS ⟨g,ins,f,m⟩ f[j].nm=(ins.length:Int)+(j:Int)/\nq1 ⟨g,ins,f,m⟩ f[j].e.k f[j].e.nm f[j].e.args.len=true/\nqL ⟨g,ins,f,m⟩ f[j].e.args=true)) v wr)) (fun i _=>f.length-(intOf i).toNat)
 case atStart=>exact⟨0,rfl,Zk _,I.o,HBEL.o,fun j L h=>absurd h oq⟩
 clear I HBEL q G x0 x1 x2 x3 xf;obtain⟨i,rfl,hi,z,hbel,hS⟩:=hrel.o;clear hrel
 try simp only at hS
 unfold Qg at z;simp only at z;obtain⟨⟨x0,x1,x2,x3⟩,xf⟩:=Yy z;have I:=hid z;have HBEL:=hid hbel;have q:=Zb z;have G:=hbel.size;have HS:=hid hS;clear z hS;by_cases T:i<f.length
 .obtain⟨y,A,rfl,C,bd⟩:=HP.o.flows.at T;have bc:=Vs w wr y _ _ hbel C bd;have E:=Zd C G;obtain⟨x,hx⟩:=ez (f[i]);have HX:=hid hx;rw[hx] at bc;obtain⟨R,⟨k1,O,n1,d1,F,a1⟩,fa⟩:=x;obtain⟨ad,cap,y0,y1,y2,y3,y4,y5,y6,y7,aj,al⟩:=bc.cells;have HA:=hid aj;have fu:=hid bc;have cv:(i:Int)<(f.length:Int):=oq;have H:=hid (fun(w':World) (h:Below wr.1.size wr w')=>UW (w:=w') ⟨g,ins,f,m⟩ an ai (some ⟨y,A,none⟩) ao Y X V Z R ((HP.o.below HBEL.o).below h) h2 h3);have az:=hid (fun(w':World) (h:Below wr.1.size wr w')=>Zal ⟨g,ins,f,m⟩ an ai (some ⟨y,A,none⟩) ao Y X V Z h1 h2 h3 ⟨k1,O,n1,d1,F,a1⟩ w' ad cap ((HP.o.below HBEL.o).below h) (HA.o.below h));unfold pv at H az;unfold GZ at az;simp only at H az;clear hbel bc bd C hx aj al;by_cases J:YS ⟨g,ins,f,m⟩ R=(ins.length:Int)+(i:Int)
  .rw[J] at H;have cq:=hid J;clear J;have ep:(((ins.length:Int)+(i:Int)) != ((ins.length:Int)+(i:Int)))=false:=by simp
   have ev:IntKind.i64.wrap ((ins.length:Int)+(i:Int))=(ins.length:Int)+(i:Int):=ZL _ oq;go_wp2;go_region_held3 (fun w'=>w'.cell? ⟨w.1.size,0,none⟩=some (.slice an g.length Y)/\w'.cell? ⟨w.1.size,1,none⟩=some (.slice ai ins.length X)/\w'.cell? ⟨w.1.size,2,none⟩=some (.slice (some ⟨y,A,none⟩) f.length V)/\w'.cell? ⟨w.1.size,3,none⟩=some (.slice ao m.length Z)/\w'.cell? ⟨y,A+i*8,none⟩=some (.string R)/\w'.cell? ⟨y,A+i*8+1,none⟩=some (.int .i64 k1)/\w'.cell? ⟨y,A+i*8+2,none⟩=some (.string O)/\w'.cell? ⟨y,A+i*8+3,none⟩=some (.int .i64 n1)/\w'.cell? ⟨y,A+i*8+4,none⟩=some (.int .i64 d1)/\w'.cell? ⟨y,A+i*8+5,none⟩=some (.slice ad F.len cap)/\w'.cell? ⟨y,A+i*8+6,none⟩=some (.int .i64 a1)/\w'.cell? ⟨y,A+i*8+7,none⟩=some (.int .i64 fa)) (go_keep) (first|(go_at_call 73;go_loud (refine(H.o _ bq).mono ?_;rintro x D ⟨rfl,hb2⟩;have hb2k:Below wr.1.size wr D:=(by first|exact hb2|exact uD hb2);have s2:w.1.size<D.1.size:=Zd q hb2k.size;have s3:y<D.1.size:=Zd E hb2k.size;have bm:D.cell? ⟨w.1.size,0,none⟩=some (.slice an g.length Y):=Y7 hb2k q x0;have bn:D.cell? ⟨w.1.size,1,none⟩=some (.slice ai ins.length X):=Y7 hb2k q x1;have bo:D.cell? ⟨w.1.size,2,none⟩=some (.slice (some ⟨y,A,none⟩) f.length V):=Y7 hb2k q x2;have bp:D.cell? ⟨w.1.size,3,none⟩=some (.slice ao m.length Z):=Y7 hb2k q x3;have br:D.cell? ⟨y,A+i*8,none⟩=some (.string R):=Y7 hb2k E y0;have bs:D.cell? ⟨y,A+i*8+1,none⟩=some (.int .i64 k1):=Y7 hb2k E y1;have bt:D.cell? ⟨y,A+i*8+2,none⟩=some (.string O):=Y7 hb2k E y2;have bu:D.cell? ⟨y,A+i*8+3,none⟩=some (.int .i64 n1):=Y7 hb2k E y3;have bv:D.cell? ⟨y,A+i*8+4,none⟩=some (.int .i64 d1):=Y7 hb2k E y4;have bw:D.cell? ⟨y,A+i*8+5,none⟩=some (.slice ad F.len cap):=Y7 hb2k E y5;have aw:D.cell? ⟨y,A+i*8+6,none⟩=some (.int .i64 a1):=Y7 hb2k E y6;have ax:D.cell? ⟨y,A+i*8+7,none⟩=some (.int .i64 fa):=Y7 hb2k E y7))|(go_at_call 74;go_loud (refine(az.o _ bq).mono ?_;rintro x w3 ⟨⟨b2,rfl,em⟩,hb3⟩;have hb3k:Below D.1.size D w3:=(by first|exact hb3|exact uD hb3);have fj:w3.cell? ⟨w.1.size,0,none⟩=some (.slice an g.length Y):=Y7 hb3k s2 bm;have fk:w3.cell? ⟨w.1.size,1,none⟩=some (.slice ai ins.length X):=Y7 hb3k s2 bn;have fm:w3.cell? ⟨w.1.size,2,none⟩=some (.slice (some ⟨y,A,none⟩) f.length V):=Y7 hb3k s2 bo;have fn:w3.cell? ⟨w.1.size,3,none⟩=some (.slice ao m.length Z):=Y7 hb3k s2 bp;have fo:w3.cell? ⟨y,A+i*8,none⟩=some (.string R):=Y7 hb3k s3 br;have fp:w3.cell? ⟨y,A+i*8+1,none⟩=some (.int .i64 k1):=Y7 hb3k s3 bs;have fq:w3.cell? ⟨y,A+i*8+2,none⟩=some (.string O):=Y7 hb3k s3 bt;have fr:w3.cell? ⟨y,A+i*8+3,none⟩=some (.int .i64 n1):=Y7 hb3k s3 bu;have fs:w3.cell? ⟨y,A+i*8+4,none⟩=some (.int .i64 d1):=Y7 hb3k s3 bv;have ft:w3.cell? ⟨y,A+i*8+5,none⟩=some (.slice ad F.len cap):=Y7 hb3k s3 bw;have ew:w3.cell? ⟨y,A+i*8+6,none⟩=some (.int .i64 a1):=Y7 hb3k s3 aw;have ex:w3.cell? ⟨y,A+i*8+7,none⟩=some (.int .i64 fa):=Y7 hb3k s3 ax)))
   all_goals cases b2
   all_goals go_wp2
   all_goals first|(go_ret;exact⟨⟨false,rfl,fun h=>by cases h⟩,bq⟩)|exact⟨⟨i+1,by go_num,oq,(hb3k.block _ s2).trans ((hb2k.block _ q).trans I.o),bq,U5 (α:=FL) (P:=fun j (x:FL)=>YS ⟨g,ins,f,m⟩ x.nm=(ins.length:Int)+(j:Int)/\nq1 ⟨g,ins,f,m⟩ x.e.k x.e.nm x.e.args.len=true/\nqL ⟨g,ins,f,m⟩ x.e.args=true) HS.o (fun L=>by rw[HX.o];exact⟨cq.o,em rfl⟩)⟩,by simp[intOf];omega⟩
  obtain⟨fx,be⟩:=ez (YS ⟨g,ins,f,m⟩ R);rw[be] at H J;have dd:(fx == ((ins.length:Int)+(i:Int)))=false:=ZZ.2 J;have de:(fx != ((ins.length:Int)+(i:Int)))=true:=by rw[bne,dd];rfl
  have ff:decide (fx=(ins.length:Int)+(i:Int))=false:=Z0 J;clear be;have ev:IntKind.i64.wrap ((ins.length:Int)+(i:Int))=(ins.length:Int)+(i:Int):=ZL _ oq;go_wp2;refine ZP (S:=(fun w'=>w'.cell? ⟨w.1.size,0,none⟩=some (.slice an g.length Y)/\w'.cell? ⟨w.1.size,1,none⟩=some (.slice ai ins.length X)/\w'.cell? ⟨w.1.size,2,none⟩=some (.slice (some ⟨y,A,none⟩) f.length V)/\w'.cell? ⟨w.1.size,3,none⟩=some (.slice ao m.length Z)/\w'.cell? ⟨y,A+i*8,none⟩=some (.string R)/\w'.cell? ⟨y,A+i*8+1,none⟩=some (.int .i64 k1)/\w'.cell? ⟨y,A+i*8+2,none⟩=some (.string O)/\w'.cell? ⟨y,A+i*8+3,none⟩=some (.int .i64 n1)/\w'.cell? ⟨y,A+i*8+4,none⟩=some (.int .i64 d1)/\w'.cell? ⟨y,A+i*8+5,none⟩=some (.slice ad F.len cap)/\w'.cell? ⟨y,A+i*8+6,none⟩=some (.int .i64 a1)/\w'.cell? ⟨y,A+i*8+7,none⟩=some (.int .i64 fa))) kq ?_ (fun hH=>?_)
  .go_keep
  refine tk 0 (by assumption) ?_;refine tk 1 (by assumption) ?_;refine tk 2 (by assumption) ?_;refine tk 3 (by assumption) ?_;refine tk 4 (by assumption) ?_;refine tk 5 (by assumption) ?_;refine tk 6 (by assumption) ?_;refine tk 8 (by assumption) ?_;refine tk 9 (by assumption) ?_;refine tk 10 (by assumption) ?_;refine tk 11 (by assumption) ?_;refine tk 12 (by assumption) ?_;refine ZW (rs:=[7]) kq (by simp) ?_;refine ZI rfl (fun K hK=>?_) AllReadyH.nil
  try simp only[List.getElem_toArray,Zt,List.getElem_cons_zero,Array.getInternal_eq_getElem]
  go_simp
  (go_at_call 73;go_loud (refine(H.o _ bq).mono ?_;rintro x D ⟨rfl,hb2⟩;have hb2k:Below wr.1.size wr D:=(by first|exact hb2|exact uD hb2);have s2:w.1.size<D.1.size:=Zd q hb2k.size;have s3:y<D.1.size:=Zd E hb2k.size;have bm:D.cell? ⟨w.1.size,0,none⟩=some (.slice an g.length Y):=Y7 hb2k q x0;have bn:D.cell? ⟨w.1.size,1,none⟩=some (.slice ai ins.length X):=Y7 hb2k q x1;have bo:D.cell? ⟨w.1.size,2,none⟩=some (.slice (some ⟨y,A,none⟩) f.length V):=Y7 hb2k q x2;have bp:D.cell? ⟨w.1.size,3,none⟩=some (.slice ao m.length Z):=Y7 hb2k q x3;have br:D.cell? ⟨y,A+i*8,none⟩=some (.string R):=Y7 hb2k E y0;have bs:D.cell? ⟨y,A+i*8+1,none⟩=some (.int .i64 k1):=Y7 hb2k E y1;have bt:D.cell? ⟨y,A+i*8+2,none⟩=some (.string O):=Y7 hb2k E y2;have bu:D.cell? ⟨y,A+i*8+3,none⟩=some (.int .i64 n1):=Y7 hb2k E y3;have bv:D.cell? ⟨y,A+i*8+4,none⟩=some (.int .i64 d1):=Y7 hb2k E y4;have bw:D.cell? ⟨y,A+i*8+5,none⟩=some (.slice ad F.len cap):=Y7 hb2k E y5;have aw:D.cell? ⟨y,A+i*8+6,none⟩=some (.int .i64 a1):=Y7 hb2k E y6;have ax:D.cell? ⟨y,A+i*8+7,none⟩=some (.int .i64 fa):=Y7 hb2k E y7))
  refine hK.o _ _ ?_ (fun hHeld2=>?_)
  .go_keep
  clear hK K;refine tk 13 (by assumption) ?_;refine tk 14 (by assumption) ?_;refine tu 15 (by assumption) ?_;refine tu 16 (by assumption) ?_;refine tu 17 (by assumption) ?_;refine tu 18 (by assumption) ?_;refine tu 19 (by assumption) ?_;refine tu 20 (by assumption) ?_;refine tu 21 (by assumption) ?_;refine tu 22 (by assumption) ?_;refine tu 23 (by assumption) ?_;refine tk 24 (by assumption) ?_;refine Zz kq ?_ _
  all_goals go_wp2
  all_goals first|(go_ret;exact⟨⟨false,rfl,fun h=>by cases h⟩,bq⟩)
 have ei:=hid (show ∀j (L:j<f.length),(YS ⟨g,ins,f,m⟩ f[j].nm=(ins.length:Int)+(j:Int)/\nq1 ⟨g,ins,f,m⟩ f[j].e.k f[j].e.nm f[j].e.args.len=true/\nqL ⟨g,ins,f,m⟩ f[j].e.args=true) from fun j L=>HS.o j L oq);clear HS hbel;go_wp2;go_loopw [9] (fun v wr=>Hid (kP w ⟨g,ins,f,m⟩ an ai af ao Y X V Z m.length (fun i=>∀j (L:j<m.length),j<i->(ins.length:Int)<=YS ⟨g,ins,f,m⟩ m[j].fl) v wr)) (fun i _=>m.length-(intOf i).toNat)
 case atStart=>exact⟨0,rfl,Zk _,I.o,HBEL.o,fun j L h=>absurd h (Ym _)⟩
 clear I HBEL q G x0 x1 x2 x3 xf;obtain⟨i,rfl,hi,z,hbel,hS⟩:=hrel.o;clear hrel
 try simp only at hS
 unfold Qg at z;simp only at z;obtain⟨⟨x0,x1,x2,x3⟩,xf⟩:=Yy z;have I:=hid z;have HBEL:=hid hbel;have q:=Zb z;have G:=hbel.size;have HS:=hid hS;clear z hS;by_cases T:i<m.length
 .obtain⟨y,A,rfl,C,bh⟩:=HP.o.outs.at T;have dh:=jF w wr y _ _ hbel C bh;have E:=Zd C G;obtain⟨x,hx⟩:=ez (m[i]);rw[hx] at dh;obtain⟨R,fl,dl,fa⟩:=x;obtain⟨y0,y1,y2,y3,al⟩:=dh;simp only at y0 y1 y2 y3;have cv:(i:Int)<(m.length:Int):=oq;obtain⟨W1,ae⟩:=ez (wr.alloc (Obj.cells #[.string R,.string fl,.int .i64 dl,.int .i64 fa] 157));obtain⟨ob,aq⟩:=ez wr.1.size;have eg:=hid (show W1.1[ob]?=some _ from by rw[<-ae,<-aq];exact Yx wr _);have aa:=hid (show W1.1[w.1.size]?=some _ from by rw[<-ae];exact(Za _ _ _ q).trans I.o);have HB1:=hid (show Below w.1.size w W1 from by rw[<-ae];exact hbel.alloc G _);have fw:W1.1.size=ob+1:=by rw[<-ae,<-aq];simp
  have el:=hid hx;clear hbel bh C hx al;go_wp2
  try rw[ae]
  try rw[aq]
  rw[aq] at q G E;clear ae aq x0 x1 x2 x3 xf y0 y1 y2 y3 I HBEL;go_loopw [11] (fun v wr'=>Hid (Zfu W1 i v wr')) (fun j _=>i-(intOf j).toNat)
  case atStart=>exact⟨0,rfl,Zk _,Zg _ _⟩
  obtain⟨j,rfl,L,hb5⟩:=hrel.o;clear hrel;have fv:=hb5.size;have eh:=hid ((hb5.block ob oq).trans eg.o);have M:=hid ((hb5.block w.1.size oq).trans aa.o);obtain⟨⟨o0,o1,o2,o3⟩,fz⟩:=Yy eh.o;obtain⟨⟨z0,z1,z2,z3⟩,zf⟩:=Yy M.o;have HB5:=hid (HB1.o.trans (hb5.mono oq));have HB5k:=hid hb5;by_cases er:j<i
  .have am:(j:Int)<(i:Int):=oq;have bk:=HP.o.outs.below jF HB5.o;obtain⟨bb2,ga,ak,fe,eu⟩:=bk.at (show j<m.length by omega);injection ak with ak;injection ak with e1_ e2_;subst e1_;subst e2_
   obtain⟨yj,_⟩:=eu;generalize m[j].nm=sj at yj;have hq:=Jh sj R;have es:(j:Int)<(m.length:Int):=oq;clear hb5 bk;by_cases he:sj=R
   .rw[Z1 he] at hq;clear he;go_wp2;go_quiet (fail);go_wp2;go_ret;exact⟨⟨false,rfl,fun h=>by cases h⟩,bq⟩
   rw[Z0 he] at hq;clear he;go_wp2;go_quiet (fail);go_wp2
   first|exact⟨⟨j+1,by go_num,oq,bq⟩,by simp[intOf];omega⟩|(go_roundw;(case rel=>first|exact⟨j+1,by go_num,oq,bq⟩|((repeat apply Yh);exact⟨⟨j+1,by go_num,oq,bq⟩,rfl⟩));(case measure=>simp[intOf];omega))
  have am:(j:Int)=(i:Int):=oq;have H:=hid (fun(w':World) (h:Below wr.1.size wr w')=>UW (w:=w') ⟨g,ins,f,m⟩ an ai af (some ⟨y,A,none⟩) Y X V Z fl ((HP.o.below HB5.o).below h) h2 h3);unfold pv at H;simp only at H;clear hb5;have U:w.1.size<wr.1.size:=oq;by_cases J:YS ⟨g,ins,f,m⟩ fl<(ins.length:Int)
  .have en:decide (YS ⟨g,ins,f,m⟩ fl<(ins.length:Int))=true:=Z1 J;go_wp2;go_region_with (first|(go_at_call 73;go_loud (refine(H.o _ bq).mono ?_;rintro x D ⟨rfl,hb2⟩;have s2:w.1.size<D.1.size:=Yz hb2 oq;have ar:=(hb2.block _ U).trans M.o;obtain⟨⟨dx,dy,dz,ea⟩,fc⟩:=Yy ar;clear ar)))
   all_goals go_wp2
   all_goals (go_ret;exact⟨⟨false,rfl,fun h=>by cases h⟩,bq⟩)
  have en:decide (YS ⟨g,ins,f,m⟩ fl<(ins.length:Int))=false:=Z0 J;have eo:(ins.length:Int)<=YS ⟨g,ins,f,m⟩ fl:=oq;have ah:=hid (U5 (α:=OU) (P:=fun j (x:OU)=>(ins.length:Int)<=YS ⟨g,ins,f,m⟩ x.fl) HS.o (fun L=>by rw[el.o];exact eo));go_wp2;go_region_with (first|(go_at_call 73;go_loud (refine(H.o _ bq).mono ?_;rintro x D ⟨rfl,hb2⟩;have s2:w.1.size<D.1.size:=Yz hb2 oq;have ar:=(hb2.block _ U).trans M.o;obtain⟨⟨dx,dy,dz,ea⟩,fc⟩:=Yy ar;clear ar)))
  all_goals go_wp2
  all_goals first|exact⟨⟨i+1,by go_num,oq,(hb2.block _ U).trans M.o,bq,ah.o⟩,by simp[intOf];omega⟩|(go_roundw;(case rel=>first|exact⟨i+1,by go_num,oq,(hb2.block _ U).trans M.o,bq,ah.o⟩|((repeat apply Yh);exact⟨⟨i+1,by go_num,oq,(hb2.block _ U).trans M.o,bq,ah.o⟩,rfl⟩));(case measure=>simp[intOf];omega))
 clear hbel;go_wp2;go_ret;exact⟨⟨true,rfl,fun _=>⟨ej.o,ei.o,fun j L=>HS.o j L (Zd (show j<m.length from L) oq),db.o⟩⟩,HBEL.o⟩
