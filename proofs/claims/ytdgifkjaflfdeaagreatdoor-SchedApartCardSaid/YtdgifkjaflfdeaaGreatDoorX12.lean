/- Parts of the proof. -/
import Derived.Test.YtdgifkjaflfdeaaGreatDoorX09
import Derived.Test.YtdgifkjaflfdeaaGreatDoorX11
set_option linter.all false
set_option maxRecDepth 100000
set_option maxHeartbeats 16000000
namespace Go.Proofs.YtdgifkjaflfdeaaGreatDoor.syn
open Tryz
open Go.RowKit
variable {w:World}{b:Nat}{f g j m q v x y:Value}{t:TypeId}{α:Type}
theorem Zgr:∀(l:PL)(n f:Int),1<=n->n<=f+1->szL l n f<=f->szL l n f=n+(l.sz:Int):=by
 intro l
 induction l with
 | nil=>intro n f q v g;simp only[szL,PL.sz];omega
 | cons k nm n' d args a tl ih1 ih2 =>
  intro n f q v g;rw[szL] at g ⊢;by_cases h:n<=f
  .rw[Z3 h] at g ⊢;have x:=ze args 1 (f-n) oq oq;have y:=ze tl (n+szL args 1 (f-n)) f oq oq;have j:=ih1 1 (f-n) oq oq oq;have m:=ih2 (n+szL args 1 (f-n)) f oq oq g;rw[m,j];simp only[PL.sz];omega
  rw[Z2 h] at g;omega
def vv(p:PG):Prop:=p.nodes.length<=140737488351232/\p.ins.length<=140737488351232/\p.flows.length<=140737488351232/\p.outs.length<=140737488351232
structure Vf (p:PG):Prop where
 lens:p.nodes.length+p.ins.length+p.flows.length+p.outs.length<=40
 nodes:∀x∈p.nodes,szL x.body.args 1 100<=100/\x.ps.length<=6/\1<=x.ps.length/\inB x.bud 1 1000=true/\Ud x.body=true
 flows:∀x∈p.flows,szL x.e.args 1 100<=100/\YF x.e=true
 ins:∀x∈p.ins,inB x.per 1 1000=true/\inB x.ph 0 1000=true
 outs:∀x∈p.outs,inB x.dl 1 1000=true
def Zbr(p:PG)(x:Ending):Prop:=∃b:Bool,x=.returned (.bool b)/\(b=true->Vf p)
theorem Xs{f g j m q v x y z A:Value}(h:w.1[b]?=some (.cells #[f,g,j,m,q,v,x,y,z,A] t (0,0))) :
  (w.cell? ⟨b,0,none⟩=some f/\w.cell? ⟨b,1,none⟩=some g/\w.cell? ⟨b,2,none⟩=some j/\w.cell? ⟨b,3,none⟩=some m/\w.cell? ⟨b,4,none⟩=some q/\w.cell? ⟨b,5,none⟩=some v/\w.cell? ⟨b,6,none⟩=some x/\w.cell? ⟨b,7,none⟩=some y/\w.cell? ⟨b,8,none⟩=some z/\w.cell? ⟨b,9,none⟩=some A)/\∀o,w.frozen? ⟨b,o,none⟩=false:=by
 refine⟨⟨?_,?_,?_,?_,?_,?_,?_,?_,?_,?_⟩,?_⟩
 all_goals first|(intro o;simp[World.frozen?,h])|simp[World.cell?,h]
theorem Qt(h:w.1[b]?=some (.cells #[f,g,j,m,q,v,x,y] t (0,0))) :
  (w.cell? ⟨b,0,none⟩=some f/\w.cell? ⟨b,1,none⟩=some g/\w.cell? ⟨b,2,none⟩=some j/\w.cell? ⟨b,3,none⟩=some m/\w.cell? ⟨b,4,none⟩=some q/\w.cell? ⟨b,5,none⟩=some v/\w.cell? ⟨b,6,none⟩=some x/\w.cell? ⟨b,7,none⟩=some y)/\∀o,w.frozen? ⟨b,o,none⟩=false:=by
 refine⟨⟨?_,?_,?_,?_,?_,?_,?_,?_⟩,?_⟩
 all_goals first|(intro o;simp[World.frozen?,h])|simp[World.cell?,h]
def kQ(w:World)(p:PG)(an ai af ao:OA)(cn ci cf co:Nat)(len:Nat)(S:Nat->Prop)(v:Value)(wr:World):Prop :=
 ∃i:Nat,v=.int .i64 (i:Int)/\i<=len/\Qg wr w.1.size p an ai af ao cn ci cf co/\Below w.1.size w wr/\S i
def ZgR(w W:World)(len:Nat)(v:Value)(wr:World):Prop:=∃k:Nat,v=.int .i64 (k:Int)/\k<=len/\Below W.1.size W wr
theorem OuC.later{w wr:World}{b o:Nat}{f:OU}(h:OuC w b o f)(hb:Below w.1.size w wr)(hlt:b<w.1.size):OuC wr b o f:=jF w wr b o f hb hlt h
theorem UK{l:List α}{P:α->Prop}(h:∀j (f:j<l.length),j<l.length->P l[j]):∀x∈l,P x:=by
 intro x g;obtain⟨j,f,rfl⟩:=Yn g;exact h j f f
theorem V7{l:List α}{P:α->Prop}{i:Nat}(h:∀j (f:j<l.length),j<i->P l[j]){x:α}(hi:∀f:i<l.length,l[i]=x)(q:P x):∀j (f:j<l.length),j<i+1->P l[j]:=by
 intro j f m;by_cases g:j<i
 .exact h j f g
 have:j=i:=oq;subst this;rw[hi f];exact q
theorem Zda(p:PG)(an ai af ao:OA)(cn ci cf co:Nat)(hp:AP w p an ai af ao cn ci cf co)(fk:vv p) :
  Calls prog 28 #[pv p an ai af ao cn ci cf co] w fun x w'=>Zbr p x/\Below w.1.size w w':=by
 obtain⟨z,ins,A,U⟩:=p;have HN:=hid hp.nodes;have HI:=hid hp.ins;have HF:=hid hp.flows;have HO:=hid hp.outs;have ei:=hp.caps;simp only at ei;obtain⟨es,et,eu,ew⟩:=fk;simp only at es et eu ew;clear hp;unfold pv;simp only;by_cases ex:z.length+ins.length+A.length+U.length<=40
 .have fj:¬((40:Int)<(z.length:Int)+(ins.length:Int)+(A.length:Int)+(U.length:Int)):=oq;have fp:(z.length:Int)+(ins.length:Int)+(A.length:Int)+(U.length:Int)<=40:=oq;go_enter func28,ntmps28;go_wp2;go_loopw [3] (fun v wr=>Hid (kQ w ⟨z,ins,A,U⟩ an ai af ao cn ci cf co z.length (fun i=>∀j (hj:j<z.length),j<i->(szL z[j].body.args 1 100<=100/\z[j].ps.length<=6/\1<=z[j].ps.length/\inB z[j].bud 1 1000=true/\Ud z[j].body=true)) v wr)) (fun i _=>z.length-(intOf i).toNat)
  case atStart=>exact⟨0,rfl,Zk _,Yx w _,bq,fun j hj h=>absurd h oq⟩
  obtain⟨i,rfl,hi,R,hbel,hS⟩:=hrel.o;clear hrel
  try simp only at hS
  unfold Qg at R;simp only at R;obtain⟨⟨x0,x1,x2,x3⟩,xf⟩:=Yy R;have M:=hid R;have HBEL:=hid hbel;have y:=Zb R;have al:=hbel.size;have HS:=hid hS;clear R hS;by_cases bz:i<z.length
  .obtain⟨bb,oo,rfl,V,dh⟩:=HN.o.at bz;have dw:=Vk w wr bb _ _ hbel V dh;have ds:=Zd V al;obtain⟨x,hx⟩:=ez (z[i]);have HX:=hid hx;rw[hx] at dw;obtain⟨nm,ps,bud,⟨k1,nm1,n1,d1,m,a1⟩,fa⟩:=x;obtain⟨pa,pc,ad,cap,y0,y1,y2,y3,y4,y5,y6,y7,y8,y9,cu,⟨fn,fo,eq⟩,ay⟩:=dw.cells;have HA:=hid cu;have ec:=hid eq;have dv:(i:Int)<(z.length:Int):=oq;have q:=hid (fun w=>Qc nm w ay.1);have Z:=hid (fun w=>XQ bud 1 1000 w);have ak:=hid (fun w' (h:AE w' ⟨k1,nm1,n1,d1,m,a1⟩ ad cap)=>jX ⟨k1,nm1,n1,d1,m,a1⟩ w' ad cap 100 h oq oq);have ag:=hid (fun w' (h:AE w' ⟨k1,nm1,n1,d1,m,a1⟩ ad cap)=>gB ⟨k1,nm1,n1,d1,m,a1⟩ w' ad cap 30 h oq);have bx:=hid (fun w' (h:AE w' ⟨k1,nm1,n1,d1,m,a1⟩ ad cap)=>ZbI ⟨k1,nm1,n1,d1,m,a1⟩ w' ad cap h);unfold ev at ak ag bx;simp only at ak ag bx;rw[show((30:Nat):Int)=30 from rfl] at ag;have dx:=ze m 1 100 oq oq;have dt:=vX ⟨k1,nm1,n1,d1,m,a1⟩ 30;generalize hse:szL m 1 100=se at ak dx;generalize dpE ⟨k1,nm1,n1,d1,m,a1⟩ 30=de at ag dt;have dr:=hid hse;clear hbel dw dh hx cu eq ay V hse
   cases hno:XP nm with
   | false =>
    rw[hno] at q;go_wp2_with (first|(go_at_call 65;refine(q.o _).mono ?_;rintro e L ⟨rfl,hb1⟩;have s1:wr.1.size<L.1.size:=Yz hb1 oq;have t1:w.1.size<L.1.size:=Yz hb1 oq;have g:=hid ((hb1.block wr.1.size oq).trans (Yx wr _));have f:=hid ((hb1.block w.1.size oq).trans ((Za _ _ _ y).trans M.o));obtain⟨⟨C,D,E,F,aa,ab,ac,ae,az,ba⟩,X⟩:=Xs g.o;obtain⟨⟨G,H,I,J⟩,Y⟩:=Yy f.o));go_ret;exact⟨⟨false,rfl,fun h=>by cases h⟩,bq⟩
   | true =>
    rw[hno] at q;by_cases fq:ps.length<1
    .have eo:(ps.length:Int)<1:=oq;go_wp2_with (first|(go_at_call 65;refine(q.o _).mono ?_;rintro e L ⟨rfl,hb1⟩;have s1:wr.1.size<L.1.size:=Yz hb1 oq;have t1:w.1.size<L.1.size:=Yz hb1 oq;have g:=hid ((hb1.block wr.1.size oq).trans (Yx wr _));have f:=hid ((hb1.block w.1.size oq).trans ((Za _ _ _ y).trans M.o));obtain⟨⟨C,D,E,F,aa,ab,ac,ae,az,ba⟩,X⟩:=Xs g.o;obtain⟨⟨G,H,I,J⟩,Y⟩:=Yy f.o));go_ret;exact⟨⟨false,rfl,fun h=>by cases h⟩,bq⟩
    have eo:(1:Int)<=(ps.length:Int):=oq;by_cases fr:6<ps.length
    .have ep:(6:Int)<(ps.length:Int):=oq;go_wp2_with (first|(go_at_call 65;refine(q.o _).mono ?_;rintro e L ⟨rfl,hb1⟩;have s1:wr.1.size<L.1.size:=Yz hb1 oq;have t1:w.1.size<L.1.size:=Yz hb1 oq;have g:=hid ((hb1.block wr.1.size oq).trans (Yx wr _));have f:=hid ((hb1.block w.1.size oq).trans ((Za _ _ _ y).trans M.o));obtain⟨⟨C,D,E,F,aa,ab,ac,ae,az,ba⟩,X⟩:=Xs g.o;obtain⟨⟨G,H,I,J⟩,Y⟩:=Yy f.o));go_ret;exact⟨⟨false,rfl,fun h=>by cases h⟩,bq⟩
    have ep:(ps.length:Int)<=6:=oq
    cases hbu:inB bud 1 1000 with
    | false =>
     rw[hbu] at Z;go_wp2_with (first|(go_at_call 65;refine(q.o _).mono ?_;rintro e L ⟨rfl,hb1⟩;have s1:wr.1.size<L.1.size:=Yz hb1 oq;have t1:w.1.size<L.1.size:=Yz hb1 oq;have g:=hid ((hb1.block wr.1.size oq).trans (Yx wr _));have f:=hid ((hb1.block w.1.size oq).trans ((Za _ _ _ y).trans M.o));obtain⟨⟨C,D,E,F,aa,ab,ac,ae,az,ba⟩,X⟩:=Xs g.o;obtain⟨⟨G,H,I,J⟩,Y⟩:=Yy f.o)|(go_at_call 66;with_reducible refine(Z.o _).mono ?_;rintro e w_ ⟨rfl,rfl⟩));go_ret;exact⟨⟨false,rfl,fun h=>by cases h⟩,bq⟩
    | true =>
     rw[hbu] at Z;by_cases fm:(100:Int)<se
     .go_wp2_with (first|(go_at_call 65;refine(q.o _).mono ?_;rintro e L ⟨rfl,hb1⟩;have s1:wr.1.size<L.1.size:=Yz hb1 oq;have t1:w.1.size<L.1.size:=Yz hb1 oq;have g:=hid ((hb1.block wr.1.size oq).trans (Yx wr _));have f:=hid ((hb1.block w.1.size oq).trans ((Za _ _ _ y).trans M.o));obtain⟨⟨C,D,E,F,aa,ab,ac,ae,az,ba⟩,X⟩:=Xs g.o;obtain⟨⟨G,H,I,J⟩,Y⟩:=Yy f.o)|(go_at_call 66;with_reducible refine(Z.o _).mono ?_;rintro e w_ ⟨rfl,rfl⟩)|(go_at_call 67;refine(ak.o _ (HA.o.below bq)).mono ?_;rintro e w2 ⟨rfl,hb2⟩;have s2:wr.1.size<w2.1.size:=Yz hb2 oq;have t2:w.1.size<w2.1.size:=Yz hb2 oq;have T:=hid ((hb2.block wr.1.size oq).trans (g.o));have O:=hid ((hb2.block w.1.size oq).trans (f.o));obtain⟨⟨am,ap,aq,ar,bc,bd,be,bf,cy,cz⟩,bg⟩:=Xs T.o;obtain⟨⟨au,av,aw,ax⟩,bh⟩:=Yy O.o));go_ret;exact⟨⟨false,rfl,fun h=>by cases h⟩,bq⟩
     have cx:se<=100:=oq;by_cases fi:(20:Int)<de
     .go_wp2_with (first|(go_at_call 65;refine(q.o _).mono ?_;rintro e L ⟨rfl,hb1⟩;have s1:wr.1.size<L.1.size:=Yz hb1 oq;have t1:w.1.size<L.1.size:=Yz hb1 oq;have g:=hid ((hb1.block wr.1.size oq).trans (Yx wr _));have f:=hid ((hb1.block w.1.size oq).trans ((Za _ _ _ y).trans M.o));obtain⟨⟨C,D,E,F,aa,ab,ac,ae,az,ba⟩,X⟩:=Xs g.o;obtain⟨⟨G,H,I,J⟩,Y⟩:=Yy f.o)|(go_at_call 66;with_reducible refine(Z.o _).mono ?_;rintro e w_ ⟨rfl,rfl⟩)|(go_at_call 67;refine(ak.o _ (HA.o.below bq)).mono ?_;rintro e w2 ⟨rfl,hb2⟩;have s2:wr.1.size<w2.1.size:=Yz hb2 oq;have t2:w.1.size<w2.1.size:=Yz hb2 oq;have T:=hid ((hb2.block wr.1.size oq).trans (g.o));have O:=hid ((hb2.block w.1.size oq).trans (f.o));obtain⟨⟨am,ap,aq,ar,bc,bd,be,bf,cy,cz⟩,bg⟩:=Xs T.o;obtain⟨⟨au,av,aw,ax⟩,bh⟩:=Yy O.o)|(go_at_call 68;refine(ag.o _ (HA.o.below bq)).mono ?_;rintro e w3 ⟨rfl,hb3⟩;have s3:wr.1.size<w3.1.size:=Yz hb3 oq;have t3:w.1.size<w3.1.size:=Yz hb3 oq;have ah:=hid ((hb3.block wr.1.size oq).trans (T.o));have aj:=hid ((hb3.block w.1.size oq).trans (O.o));obtain⟨⟨bk,bl,bm,bn,bo,bp,br,bs,dm,dn⟩,da⟩:=Xs ah.o;obtain⟨⟨bt,bu,bv,bw⟩,db⟩:=Yy aj.o));go_ret;exact⟨⟨false,rfl,fun h=>by cases h⟩,bq⟩
     have ej:de<=20:=oq
     cases hbo:Ud ⟨k1,nm1,n1,d1,m,a1⟩ with
     | false =>
      rw[hbo] at bx;go_wp2_with (first|(go_at_call 65;refine(q.o _).mono ?_;rintro e L ⟨rfl,hb1⟩;have s1:wr.1.size<L.1.size:=Yz hb1 oq;have t1:w.1.size<L.1.size:=Yz hb1 oq;have g:=hid ((hb1.block wr.1.size oq).trans (Yx wr _));have f:=hid ((hb1.block w.1.size oq).trans ((Za _ _ _ y).trans M.o));obtain⟨⟨C,D,E,F,aa,ab,ac,ae,az,ba⟩,X⟩:=Xs g.o;obtain⟨⟨G,H,I,J⟩,Y⟩:=Yy f.o)|(go_at_call 66;with_reducible refine(Z.o _).mono ?_;rintro e w_ ⟨rfl,rfl⟩)|(go_at_call 67;refine(ak.o _ (HA.o.below bq)).mono ?_;rintro e w2 ⟨rfl,hb2⟩;have s2:wr.1.size<w2.1.size:=Yz hb2 oq;have t2:w.1.size<w2.1.size:=Yz hb2 oq;have T:=hid ((hb2.block wr.1.size oq).trans (g.o));have O:=hid ((hb2.block w.1.size oq).trans (f.o));obtain⟨⟨am,ap,aq,ar,bc,bd,be,bf,cy,cz⟩,bg⟩:=Xs T.o;obtain⟨⟨au,av,aw,ax⟩,bh⟩:=Yy O.o)|(go_at_call 68;refine(ag.o _ (HA.o.below bq)).mono ?_;rintro e w3 ⟨rfl,hb3⟩;have s3:wr.1.size<w3.1.size:=Yz hb3 oq;have t3:w.1.size<w3.1.size:=Yz hb3 oq;have ah:=hid ((hb3.block wr.1.size oq).trans (T.o));have aj:=hid ((hb3.block w.1.size oq).trans (O.o));obtain⟨⟨bk,bl,bm,bn,bo,bp,br,bs,dm,dn⟩,da⟩:=Xs ah.o;obtain⟨⟨bt,bu,bv,bw⟩,db⟩:=Yy aj.o)|(go_at_call 69;refine(bx.o _ (HA.o.below bq)).mono ?_;rintro e w4 ⟨rfl,hb4⟩;have s4:wr.1.size<w4.1.size:=Yz hb4 oq;have t4:w.1.size<w4.1.size:=Yz hb4 oq;have bj:=hid ((hb4.block wr.1.size oq).trans (ah.o));have bi:=hid ((hb4.block w.1.size oq).trans (aj.o));obtain⟨⟨ca,cb,cc,cd,ce,cg,ch,cj,dp,dq⟩,dy⟩:=Xs bj.o;obtain⟨⟨ck,cl,cm,cp⟩,dz⟩:=Yy bi.o));go_ret;exact⟨⟨false,rfl,fun h=>by cases h⟩,bq⟩
     | true =>
      rw[hbo] at bx;go_wp2_with (first|(go_at_call 65;refine(q.o _).mono ?_;rintro e L ⟨rfl,hb1⟩;have s1:wr.1.size<L.1.size:=Yz hb1 oq;have t1:w.1.size<L.1.size:=Yz hb1 oq;have g:=hid ((hb1.block wr.1.size oq).trans (Yx wr _));have f:=hid ((hb1.block w.1.size oq).trans ((Za _ _ _ y).trans M.o));obtain⟨⟨C,D,E,F,aa,ab,ac,ae,az,ba⟩,X⟩:=Xs g.o;obtain⟨⟨G,H,I,J⟩,Y⟩:=Yy f.o)|(go_at_call 66;with_reducible refine(Z.o _).mono ?_;rintro e w_ ⟨rfl,rfl⟩)|(go_at_call 67;refine(ak.o _ (HA.o.below bq)).mono ?_;rintro e w2 ⟨rfl,hb2⟩;have s2:wr.1.size<w2.1.size:=Yz hb2 oq;have t2:w.1.size<w2.1.size:=Yz hb2 oq;have T:=hid ((hb2.block wr.1.size oq).trans (g.o));have O:=hid ((hb2.block w.1.size oq).trans (f.o));obtain⟨⟨am,ap,aq,ar,bc,bd,be,bf,cy,cz⟩,bg⟩:=Xs T.o;obtain⟨⟨au,av,aw,ax⟩,bh⟩:=Yy O.o)|(go_at_call 68;refine(ag.o _ (HA.o.below bq)).mono ?_;rintro e w3 ⟨rfl,hb3⟩;have s3:wr.1.size<w3.1.size:=Yz hb3 oq;have t3:w.1.size<w3.1.size:=Yz hb3 oq;have ah:=hid ((hb3.block wr.1.size oq).trans (T.o));have aj:=hid ((hb3.block w.1.size oq).trans (O.o));obtain⟨⟨bk,bl,bm,bn,bo,bp,br,bs,dm,dn⟩,da⟩:=Xs ah.o;obtain⟨⟨bt,bu,bv,bw⟩,db⟩:=Yy aj.o)|(go_at_call 69;refine(bx.o _ (HA.o.below bq)).mono ?_;rintro e w4 ⟨rfl,hb4⟩;have s4:wr.1.size<w4.1.size:=Yz hb4 oq;have t4:w.1.size<w4.1.size:=Yz hb4 oq;have bj:=hid ((hb4.block wr.1.size oq).trans (ah.o));have bi:=hid ((hb4.block w.1.size oq).trans (aj.o));obtain⟨⟨ca,cb,cc,cd,ce,cg,ch,cj,dp,dq⟩,dy⟩:=Xs bj.o;obtain⟨⟨ck,cl,cm,cp⟩,dz⟩:=Yy bi.o));have HB4:=hid (show Below w.1.size w w4 from bq);have er:ps.length<=6:=oq;have ed:=hid (ec.o.below QT (show Below wr.1.size wr w4 from bq));have fc:=hid hbu;have ea:=hid hbo;have dk:w.1.size<=w4.1.size:=Nat.le_of_lt t4;clear q Z ak ag bx hb1 hb2 hb3 hb4 g T ah f O aj ca cb cc cd ce cg ch cj dp dq ck cl cm cp;go_loopw [5] (fun v wr'=>Hid (ZgR w w4 ps.length v wr')) (fun k _=>ps.length-(intOf k).toNat)
      case atStart=>exact⟨0,rfl,Zk _,Zg _ _⟩
      obtain⟨k,rfl,hk,hb5⟩:=hrel.o;clear hrel;have cw:=hb5.size;have fd:=hid ((hb5.block _ s4).trans bj.o);have eb:=hid ((hb5.block _ t4).trans bi.o);obtain⟨⟨m0,m1,m2,m3,m4,m5,m6,m7,m8,m9⟩,mf⟩:=Xs fd.o;obtain⟨⟨o0,o1,o2,o3⟩,ft⟩:=Yy eb.o;have HB5:=hid (HB4.o.trans (hb5.mono dk));by_cases el:k<ps.length
      .obtain⟨pb,po,rfl,R,fs⟩:=ec.o.at el;have dd:=ed.o.below QT hb5;obtain⟨pb,po,dc,R,dj,cv⟩:=dd.at el
       first|subst dc|(injection dc with dc;injection dc with h1_ h2_;subst h1_;subst h2_)
       rw[Z9] at dj;generalize ps[k]=s at dj cv;have em:(k:Int)<(ps.length:Int):=oq;have q:=hid (fun w=>Qc s w cv);have HB6:=hid hb5;clear hb5 dd cv
       cases hno:XP s with
       | false =>
        rw[hno] at q;go_wp2_with (go_at_call 65;refine(q.o _).mono ?_;rintro e w6 ⟨rfl,hb6⟩);go_ret;exact⟨⟨false,rfl,fun h=>by cases h⟩,HB5.o.trans (hb6.mono (Zm dk cw))⟩
       | true =>
        rw[hno] at q;go_wp2_with (go_at_call 65;refine(q.o _).mono ?_;rintro e w6 ⟨rfl,hb6⟩);go_roundw
        case rel=>first|exact⟨k+1,by go_num,oq,HB6.o.trans (hb6.mono cw)⟩|((repeat apply Yh);exact⟨⟨k+1,by go_num,oq,HB6.o.trans (hb6.mono cw)⟩,rfl⟩)
        simp[intOf];omega
      have em:(k:Int)=(ps.length:Int):=oq;clear hb5;go_wp2;refine⟨⟨i+1,by go_num,oq,eb.o,HB5.o,V7 (P:=fun x=>szL x.body.args 1 100<=100/\x.ps.length<=6/\1<=x.ps.length/\inB x.bud 1 1000=true/\Ud x.body=true) HS.o (fun _=>HX.o) ⟨by show szL m 1 100<=100;rw[dr.o];exact cx,er,by show 1<=ps.length;omega,fc.o,ea.o⟩⟩,by simp[intOf];omega⟩
  have eg:=UK (P:=fun x=>szL x.body.args 1 100<=100/\x.ps.length<=6/\1<=x.ps.length/\inB x.bud 1 1000=true/\Ud x.body=true) (l:=z) (fun j hj _=>HS.o j hj oq);have fg:=hid eg;clear HS hbel eg;go_wp2;go_loopw [6] (fun v wr=>Hid (kQ w ⟨z,ins,A,U⟩ an ai af ao cn ci cf co ins.length (fun i=>∀j (hj:j<ins.length),j<i->(inB ins[j].per 1 1000=true/\inB ins[j].ph 0 1000=true)) v wr)) (fun i _=>ins.length-(intOf i).toNat)
  case atStart=>exact⟨0,rfl,Zk _,M.o,HBEL.o,fun j hj h=>absurd h oq⟩
  clear M HBEL y al x0 x1 x2 x3 xf;obtain⟨i,rfl,hi,R,hbel,hS⟩:=hrel.o;clear hrel
  try simp only at hS
  unfold Qg at R;simp only at R;obtain⟨⟨x0,x1,x2,x3⟩,xf⟩:=Yy R;have M:=hid R;have HBEL:=hid hbel;have y:=Zb R;have al:=hbel.size;have HS:=hid hS;clear R hS;by_cases bz:i<ins.length
  .obtain⟨bb,oo,rfl,V,dg⟩:=HI.o.at bz;have ek:=EB w wr bb _ _ hbel V dg;have ds:=Zd V al;obtain⟨x,hx⟩:=ez (ins[i]);have HX:=hid hx;rw[hx] at ek;obtain⟨nm,fb,ph,fa⟩:=x;obtain⟨y0,y1,y2,y3,ay⟩:=ek;simp only at y0 y1 y2 y3 ay;have dv:(i:Int)<(ins.length:Int):=oq;have q:=hid (fun w=>Qc nm w ay.1);have Z:=hid (fun w=>XQ fb 1 1000 w);have cr:=hid (fun w=>XQ ph 0 1000 w);clear hbel dg hx ay V
   cases hno:XP nm with
   | false =>
    rw[hno] at q;go_wp2_with (first|(go_at_call 65;refine(q.o _).mono ?_;rintro e L ⟨rfl,hb1⟩;have s1:wr.1.size<L.1.size:=Yz hb1 oq;have t1:w.1.size<L.1.size:=Yz hb1 oq;have g:=hid ((hb1.block wr.1.size oq).trans (Yx wr _));have f:=hid ((hb1.block w.1.size oq).trans ((Za _ _ _ y).trans M.o));obtain⟨⟨C,D,E,F⟩,X⟩:=Yy g.o;obtain⟨⟨G,H,I,J⟩,Y⟩:=Yy f.o));go_ret;exact⟨⟨false,rfl,fun h=>by cases h⟩,bq⟩
   | true =>
    rw[hno] at q
    cases hbu:inB fb 1 1000 with
    | false =>
     rw[hbu] at Z;go_wp2_with (first|(go_at_call 65;refine(q.o _).mono ?_;rintro e L ⟨rfl,hb1⟩;have s1:wr.1.size<L.1.size:=Yz hb1 oq;have t1:w.1.size<L.1.size:=Yz hb1 oq;have g:=hid ((hb1.block wr.1.size oq).trans (Yx wr _));have f:=hid ((hb1.block w.1.size oq).trans ((Za _ _ _ y).trans M.o));obtain⟨⟨C,D,E,F⟩,X⟩:=Yy g.o;obtain⟨⟨G,H,I,J⟩,Y⟩:=Yy f.o)|(go_at_call 66;with_reducible refine(Z.o _).mono ?_;rintro e w_ ⟨rfl,rfl⟩)|(go_at_call 66;with_reducible refine(cr.o _).mono ?_;rintro e w_ ⟨rfl,rfl⟩));go_ret;exact⟨⟨false,rfl,fun h=>by cases h⟩,bq⟩
    | true =>
     rw[hbu] at Z
     cases hbv:inB ph 0 1000 with
     | false =>
      rw[hbv] at cr;go_wp2_with (first|(go_at_call 65;refine(q.o _).mono ?_;rintro e L ⟨rfl,hb1⟩;have s1:wr.1.size<L.1.size:=Yz hb1 oq;have t1:w.1.size<L.1.size:=Yz hb1 oq;have g:=hid ((hb1.block wr.1.size oq).trans (Yx wr _));have f:=hid ((hb1.block w.1.size oq).trans ((Za _ _ _ y).trans M.o));obtain⟨⟨C,D,E,F⟩,X⟩:=Yy g.o;obtain⟨⟨G,H,I,J⟩,Y⟩:=Yy f.o)|(go_at_call 66;with_reducible refine(Z.o _).mono ?_;rintro e w_ ⟨rfl,rfl⟩)|(go_at_call 66;with_reducible refine(cr.o _).mono ?_;rintro e w_ ⟨rfl,rfl⟩));go_ret;exact⟨⟨false,rfl,fun h=>by cases h⟩,bq⟩
     | true =>
      rw[hbv] at cr;go_wp2_with (first|(go_at_call 65;refine(q.o _).mono ?_;rintro e L ⟨rfl,hb1⟩;have s1:wr.1.size<L.1.size:=Yz hb1 oq;have t1:w.1.size<L.1.size:=Yz hb1 oq;have g:=hid ((hb1.block wr.1.size oq).trans (Yx wr _));have f:=hid ((hb1.block w.1.size oq).trans ((Za _ _ _ y).trans M.o));obtain⟨⟨C,D,E,F⟩,X⟩:=Yy g.o;obtain⟨⟨G,H,I,J⟩,Y⟩:=Yy f.o)|(go_at_call 66;with_reducible refine(Z.o _).mono ?_;rintro e w_ ⟨rfl,rfl⟩)|(go_at_call 66;with_reducible refine(cr.o _).mono ?_;rintro e w_ ⟨rfl,rfl⟩));refine⟨⟨i+1,by go_num,oq,f.o,bq,V7 (P:=fun x=>inB x.per 1 1000=true/\inB x.ph 0 1000=true) HS.o (fun _=>HX.o) ⟨hbu,hbv⟩⟩,by simp[intOf];omega⟩
  have ef:=UK (P:=fun x=>inB x.per 1 1000=true/\inB x.ph 0 1000=true) (l:=ins) (fun j hj _=>HS.o j hj oq);have ff:=hid ef;clear HS hbel ef;go_wp2;go_loopw [8] (fun v wr=>Hid (kQ w ⟨z,ins,A,U⟩ an ai af ao cn ci cf co A.length (fun i=>∀j (hj:j<A.length),j<i->(szL A[j].e.args 1 100<=100/\YF A[j].e=true)) v wr)) (fun i _=>A.length-(intOf i).toNat)
  case atStart=>exact⟨0,rfl,Zk _,M.o,HBEL.o,fun j hj h=>absurd h oq⟩
  clear M HBEL y al x0 x1 x2 x3 xf;obtain⟨i,rfl,hi,R,hbel,hS⟩:=hrel.o;clear hrel
  try simp only at hS
  unfold Qg at R;simp only at R;obtain⟨⟨x0,x1,x2,x3⟩,xf⟩:=Yy R;have M:=hid R;have HBEL:=hid hbel;have y:=Zb R;have al:=hbel.size;have HS:=hid hS;clear R hS;by_cases bz:i<A.length
  .obtain⟨bb,oo,rfl,V,df⟩:=HF.o.at bz;have du:=df.later hbel V;have ds:=Zd V al;obtain⟨x,hx⟩:=ez (A[i]);have HX:=hid hx;rw[hx] at du;obtain⟨nm,⟨k1,nm1,n1,d1,m,a1⟩,fa⟩:=x;obtain⟨ad,cap,y0,y1,y2,y3,y4,y5,y6,y7,cu,ay⟩:=du.cells;have HA:=hid cu;have dv:(i:Int)<(A.length:Int):=oq;have q:=hid (fun w=>Qc nm w ay.1);have ak:=hid (fun w' (h:AE w' ⟨k1,nm1,n1,d1,m,a1⟩ ad cap)=>jX ⟨k1,nm1,n1,d1,m,a1⟩ w' ad cap 100 h oq oq);have ag:=hid (fun w' (h:AE w' ⟨k1,nm1,n1,d1,m,a1⟩ ad cap)=>gB ⟨k1,nm1,n1,d1,m,a1⟩ w' ad cap 30 h oq);have cq:=hid (fun w' (h:AE w' ⟨k1,nm1,n1,d1,m,a1⟩ ad cap)=>Zb2 ⟨k1,nm1,n1,d1,m,a1⟩ w' ad cap h);unfold ev at ak ag cq;simp only at ak ag cq;rw[show((30:Nat):Int)=30 from rfl] at ag;have dx:=ze m 1 100 oq oq;have dt:=vX ⟨k1,nm1,n1,d1,m,a1⟩ 30;generalize hse:szL m 1 100=se at ak dx;generalize dpE ⟨k1,nm1,n1,d1,m,a1⟩ 30=de at ag dt;have dr:=hid hse;clear hbel du df hx cu ay V hse
   cases hno:XP nm with
   | false =>
    rw[hno] at q;go_wp2_with (first|(go_at_call 65;refine(q.o _).mono ?_;rintro e L ⟨rfl,hb1⟩;have s1:wr.1.size<L.1.size:=Yz hb1 oq;have t1:w.1.size<L.1.size:=Yz hb1 oq;have g:=hid ((hb1.block wr.1.size oq).trans (Yx wr _));have f:=hid ((hb1.block w.1.size oq).trans ((Za _ _ _ y).trans M.o));obtain⟨⟨C,D,E,F,aa,ab,ac,ae⟩,X⟩:=Qt g.o;obtain⟨⟨G,H,I,J⟩,Y⟩:=Yy f.o));go_ret;exact⟨⟨false,rfl,fun h=>by cases h⟩,bq⟩
   | true =>
    rw[hno] at q;by_cases fm:(100:Int)<se
    .go_wp2_with (first|(go_at_call 65;refine(q.o _).mono ?_;rintro e L ⟨rfl,hb1⟩;have s1:wr.1.size<L.1.size:=Yz hb1 oq;have t1:w.1.size<L.1.size:=Yz hb1 oq;have g:=hid ((hb1.block wr.1.size oq).trans (Yx wr _));have f:=hid ((hb1.block w.1.size oq).trans ((Za _ _ _ y).trans M.o));obtain⟨⟨C,D,E,F,aa,ab,ac,ae⟩,X⟩:=Qt g.o;obtain⟨⟨G,H,I,J⟩,Y⟩:=Yy f.o)|(go_at_call 67;refine(ak.o _ (HA.o.below bq)).mono ?_;rintro e w2 ⟨rfl,hb2⟩;have s2:wr.1.size<w2.1.size:=Yz hb2 oq;have t2:w.1.size<w2.1.size:=Yz hb2 oq;have T:=hid ((hb2.block wr.1.size oq).trans (g.o));have O:=hid ((hb2.block w.1.size oq).trans (f.o));obtain⟨⟨am,ap,aq,ar,bc,bd,be,bf⟩,bg⟩:=Qt T.o;obtain⟨⟨au,av,aw,ax⟩,bh⟩:=Yy O.o));go_ret;exact⟨⟨false,rfl,fun h=>by cases h⟩,bq⟩
    have cx:se<=100:=oq;by_cases fi:(20:Int)<de
    .go_wp2_with (first|(go_at_call 65;refine(q.o _).mono ?_;rintro e L ⟨rfl,hb1⟩;have s1:wr.1.size<L.1.size:=Yz hb1 oq;have t1:w.1.size<L.1.size:=Yz hb1 oq;have g:=hid ((hb1.block wr.1.size oq).trans (Yx wr _));have f:=hid ((hb1.block w.1.size oq).trans ((Za _ _ _ y).trans M.o));obtain⟨⟨C,D,E,F,aa,ab,ac,ae⟩,X⟩:=Qt g.o;obtain⟨⟨G,H,I,J⟩,Y⟩:=Yy f.o)|(go_at_call 67;refine(ak.o _ (HA.o.below bq)).mono ?_;rintro e w2 ⟨rfl,hb2⟩;have s2:wr.1.size<w2.1.size:=Yz hb2 oq;have t2:w.1.size<w2.1.size:=Yz hb2 oq;have T:=hid ((hb2.block wr.1.size oq).trans (g.o));have O:=hid ((hb2.block w.1.size oq).trans (f.o));obtain⟨⟨am,ap,aq,ar,bc,bd,be,bf⟩,bg⟩:=Qt T.o;obtain⟨⟨au,av,aw,ax⟩,bh⟩:=Yy O.o)|(go_at_call 68;refine(ag.o _ (HA.o.below bq)).mono ?_;rintro e w3 ⟨rfl,hb3⟩;have s3:wr.1.size<w3.1.size:=Yz hb3 oq;have t3:w.1.size<w3.1.size:=Yz hb3 oq;have ah:=hid ((hb3.block wr.1.size oq).trans (T.o));have aj:=hid ((hb3.block w.1.size oq).trans (O.o));obtain⟨⟨bk,bl,bm,bn,bo,bp,br,bs⟩,da⟩:=Qt ah.o;obtain⟨⟨bt,bu,bv,bw⟩,db⟩:=Yy aj.o));go_ret;exact⟨⟨false,rfl,fun h=>by cases h⟩,bq⟩
    have ej:de<=20:=oq
    cases hbo:YF ⟨k1,nm1,n1,d1,m,a1⟩ with
    | false =>
     rw[hbo] at cq;go_wp2_with (first|(go_at_call 65;refine(q.o _).mono ?_;rintro e L ⟨rfl,hb1⟩;have s1:wr.1.size<L.1.size:=Yz hb1 oq;have t1:w.1.size<L.1.size:=Yz hb1 oq;have g:=hid ((hb1.block wr.1.size oq).trans (Yx wr _));have f:=hid ((hb1.block w.1.size oq).trans ((Za _ _ _ y).trans M.o));obtain⟨⟨C,D,E,F,aa,ab,ac,ae⟩,X⟩:=Qt g.o;obtain⟨⟨G,H,I,J⟩,Y⟩:=Yy f.o)|(go_at_call 67;refine(ak.o _ (HA.o.below bq)).mono ?_;rintro e w2 ⟨rfl,hb2⟩;have s2:wr.1.size<w2.1.size:=Yz hb2 oq;have t2:w.1.size<w2.1.size:=Yz hb2 oq;have T:=hid ((hb2.block wr.1.size oq).trans (g.o));have O:=hid ((hb2.block w.1.size oq).trans (f.o));obtain⟨⟨am,ap,aq,ar,bc,bd,be,bf⟩,bg⟩:=Qt T.o;obtain⟨⟨au,av,aw,ax⟩,bh⟩:=Yy O.o)|(go_at_call 68;refine(ag.o _ (HA.o.below bq)).mono ?_;rintro e w3 ⟨rfl,hb3⟩;have s3:wr.1.size<w3.1.size:=Yz hb3 oq;have t3:w.1.size<w3.1.size:=Yz hb3 oq;have ah:=hid ((hb3.block wr.1.size oq).trans (T.o));have aj:=hid ((hb3.block w.1.size oq).trans (O.o));obtain⟨⟨bk,bl,bm,bn,bo,bp,br,bs⟩,da⟩:=Qt ah.o;obtain⟨⟨bt,bu,bv,bw⟩,db⟩:=Yy aj.o)|(go_at_call 70;refine(cq.o _ (HA.o.below bq)).mono ?_;rintro e w4 ⟨rfl,hb4⟩;have s4:wr.1.size<w4.1.size:=Yz hb4 oq;have t4:w.1.size<w4.1.size:=Yz hb4 oq;have bj:=hid ((hb4.block wr.1.size oq).trans (ah.o));have bi:=hid ((hb4.block w.1.size oq).trans (aj.o));obtain⟨⟨ca,cb,cc,cd,ce,cg,ch,cj⟩,dy⟩:=Qt bj.o;obtain⟨⟨ck,cl,cm,cp⟩,dz⟩:=Yy bi.o));go_ret;exact⟨⟨false,rfl,fun h=>by cases h⟩,bq⟩
    | true =>
     rw[hbo] at cq;go_wp2_with (first|(go_at_call 65;refine(q.o _).mono ?_;rintro e L ⟨rfl,hb1⟩;have s1:wr.1.size<L.1.size:=Yz hb1 oq;have t1:w.1.size<L.1.size:=Yz hb1 oq;have g:=hid ((hb1.block wr.1.size oq).trans (Yx wr _));have f:=hid ((hb1.block w.1.size oq).trans ((Za _ _ _ y).trans M.o));obtain⟨⟨C,D,E,F,aa,ab,ac,ae⟩,X⟩:=Qt g.o;obtain⟨⟨G,H,I,J⟩,Y⟩:=Yy f.o)|(go_at_call 67;refine(ak.o _ (HA.o.below bq)).mono ?_;rintro e w2 ⟨rfl,hb2⟩;have s2:wr.1.size<w2.1.size:=Yz hb2 oq;have t2:w.1.size<w2.1.size:=Yz hb2 oq;have T:=hid ((hb2.block wr.1.size oq).trans (g.o));have O:=hid ((hb2.block w.1.size oq).trans (f.o));obtain⟨⟨am,ap,aq,ar,bc,bd,be,bf⟩,bg⟩:=Qt T.o;obtain⟨⟨au,av,aw,ax⟩,bh⟩:=Yy O.o)|(go_at_call 68;refine(ag.o _ (HA.o.below bq)).mono ?_;rintro e w3 ⟨rfl,hb3⟩;have s3:wr.1.size<w3.1.size:=Yz hb3 oq;have t3:w.1.size<w3.1.size:=Yz hb3 oq;have ah:=hid ((hb3.block wr.1.size oq).trans (T.o));have aj:=hid ((hb3.block w.1.size oq).trans (O.o));obtain⟨⟨bk,bl,bm,bn,bo,bp,br,bs⟩,da⟩:=Qt ah.o;obtain⟨⟨bt,bu,bv,bw⟩,db⟩:=Yy aj.o)|(go_at_call 70;refine(cq.o _ (HA.o.below bq)).mono ?_;rintro e w4 ⟨rfl,hb4⟩;have s4:wr.1.size<w4.1.size:=Yz hb4 oq;have t4:w.1.size<w4.1.size:=Yz hb4 oq;have bj:=hid ((hb4.block wr.1.size oq).trans (ah.o));have bi:=hid ((hb4.block w.1.size oq).trans (aj.o));obtain⟨⟨ca,cb,cc,cd,ce,cg,ch,cj⟩,dy⟩:=Qt bj.o;obtain⟨⟨ck,cl,cm,cp⟩,dz⟩:=Yy bi.o));refine⟨⟨i+1,by go_num,oq,bi.o,bq,V7 (P:=fun x=>szL x.e.args 1 100<=100/\YF x.e=true) HS.o (fun _=>HX.o) ⟨by show szL m 1 100<=100;rw[dr.o];exact cx,hbo⟩⟩,by simp[intOf];omega⟩
  have ee:=UK (P:=fun x=>szL x.e.args 1 100<=100/\YF x.e=true) (l:=A) (fun j hj _=>HS.o j hj oq);have fe:=hid ee;clear HS hbel ee;go_wp2;go_loopw [10] (fun v wr=>Hid (kQ w ⟨z,ins,A,U⟩ an ai af ao cn ci cf co U.length (fun i=>∀j (hj:j<U.length),j<i->inB U[j].dl 1 1000=true) v wr)) (fun i _=>U.length-(intOf i).toNat)
  case atStart=>exact⟨0,rfl,Zk _,M.o,HBEL.o,fun j hj h=>absurd h oq⟩
  clear M HBEL y al x0 x1 x2 x3 xf;obtain⟨i,rfl,hi,R,hbel,hS⟩:=hrel.o;clear hrel
  try simp only at hS
  unfold Qg at R;simp only at R;obtain⟨⟨x0,x1,x2,x3⟩,xf⟩:=Yy R;have M:=hid R;have HBEL:=hid hbel;have y:=Zb R;have al:=hbel.size;have HS:=hid hS;clear R hS;by_cases bz:i<U.length
  .obtain⟨bb,oo,rfl,V,di⟩:=HO.o.at bz;have en:=di.later hbel V;have ds:=Zd V al;obtain⟨x,hx⟩:=ez (U[i]);have HX:=hid hx;rw[hx] at en;obtain⟨nm,fl,dl,fa⟩:=x;obtain⟨y0,y1,y2,y3,ay⟩:=en;simp only at y0 y1 y2 y3 ay;have dv:(i:Int)<(U.length:Int):=oq;have q:=hid (fun w=>Qc nm w ay.1);have ct:=hid (fun w=>Qc fl w ay.2.1);have Z:=hid (fun w=>XQ dl 1 1000 w);clear hbel di hx ay V
   cases hno:XP nm with
   | false =>
    rw[hno] at q;go_wp2_with (first|(go_at_call 65;refine(q.o _).mono ?_;rintro e L ⟨rfl,hb1⟩;have s1:wr.1.size<L.1.size:=Yz hb1 oq;have t1:w.1.size<L.1.size:=Yz hb1 oq;have g:=hid ((hb1.block wr.1.size oq).trans (Yx wr _));have f:=hid ((hb1.block w.1.size oq).trans ((Za _ _ _ y).trans M.o));obtain⟨⟨C,D,E,F⟩,X⟩:=Yy g.o;obtain⟨⟨G,H,I,J⟩,Y⟩:=Yy f.o;clear q));go_ret;exact⟨⟨false,rfl,fun h=>by cases h⟩,bq⟩
   | true =>
    rw[hno] at q
    cases hno2:XP fl with
    | false =>
     rw[hno2] at ct;go_wp2_with (first|(go_at_call 65;refine(q.o _).mono ?_;rintro e L ⟨rfl,hb1⟩;have s1:wr.1.size<L.1.size:=Yz hb1 oq;have t1:w.1.size<L.1.size:=Yz hb1 oq;have g:=hid ((hb1.block wr.1.size oq).trans (Yx wr _));have f:=hid ((hb1.block w.1.size oq).trans ((Za _ _ _ y).trans M.o));obtain⟨⟨C,D,E,F⟩,X⟩:=Yy g.o;obtain⟨⟨G,H,I,J⟩,Y⟩:=Yy f.o;clear q)|(go_at_call 65;refine(ct.o _).mono ?_;rintro e w2 ⟨rfl,hb2⟩;have s2:wr.1.size<w2.1.size:=Yz hb2 oq;have t2:w.1.size<w2.1.size:=Yz hb2 oq;have T:=hid ((hb2.block wr.1.size oq).trans (g.o));have O:=hid ((hb2.block w.1.size oq).trans (f.o));obtain⟨⟨am,ap,aq,ar⟩,bg⟩:=Yy T.o;obtain⟨⟨au,av,aw,ax⟩,bh⟩:=Yy O.o));go_ret;exact⟨⟨false,rfl,fun h=>by cases h⟩,bq⟩
    | true =>
     rw[hno2] at ct
     cases hbu:inB dl 1 1000 with
     | false =>
      rw[hbu] at Z;go_wp2_with (first|(go_at_call 65;refine(q.o _).mono ?_;rintro e L ⟨rfl,hb1⟩;have s1:wr.1.size<L.1.size:=Yz hb1 oq;have t1:w.1.size<L.1.size:=Yz hb1 oq;have g:=hid ((hb1.block wr.1.size oq).trans (Yx wr _));have f:=hid ((hb1.block w.1.size oq).trans ((Za _ _ _ y).trans M.o));obtain⟨⟨C,D,E,F⟩,X⟩:=Yy g.o;obtain⟨⟨G,H,I,J⟩,Y⟩:=Yy f.o;clear q)|(go_at_call 65;refine(ct.o _).mono ?_;rintro e w2 ⟨rfl,hb2⟩;have s2:wr.1.size<w2.1.size:=Yz hb2 oq;have t2:w.1.size<w2.1.size:=Yz hb2 oq;have T:=hid ((hb2.block wr.1.size oq).trans (g.o));have O:=hid ((hb2.block w.1.size oq).trans (f.o));obtain⟨⟨am,ap,aq,ar⟩,bg⟩:=Yy T.o;obtain⟨⟨au,av,aw,ax⟩,bh⟩:=Yy O.o)|(go_at_call 66;with_reducible refine(Z.o _).mono ?_;rintro e w_ ⟨rfl,rfl⟩));go_ret;exact⟨⟨false,rfl,fun h=>by cases h⟩,bq⟩
     | true =>
      rw[hbu] at Z;go_wp2_with (first|(go_at_call 65;refine(q.o _).mono ?_;rintro e L ⟨rfl,hb1⟩;have s1:wr.1.size<L.1.size:=Yz hb1 oq;have t1:w.1.size<L.1.size:=Yz hb1 oq;have g:=hid ((hb1.block wr.1.size oq).trans (Yx wr _));have f:=hid ((hb1.block w.1.size oq).trans ((Za _ _ _ y).trans M.o));obtain⟨⟨C,D,E,F⟩,X⟩:=Yy g.o;obtain⟨⟨G,H,I,J⟩,Y⟩:=Yy f.o;clear q)|(go_at_call 65;refine(ct.o _).mono ?_;rintro e w2 ⟨rfl,hb2⟩;have s2:wr.1.size<w2.1.size:=Yz hb2 oq;have t2:w.1.size<w2.1.size:=Yz hb2 oq;have T:=hid ((hb2.block wr.1.size oq).trans (g.o));have O:=hid ((hb2.block w.1.size oq).trans (f.o));obtain⟨⟨am,ap,aq,ar⟩,bg⟩:=Yy T.o;obtain⟨⟨au,av,aw,ax⟩,bh⟩:=Yy O.o)|(go_at_call 66;with_reducible refine(Z.o _).mono ?_;rintro e w_ ⟨rfl,rfl⟩));refine⟨⟨i+1,by go_num,oq,O.o,bq,V7 (P:=fun x=>inB x.dl 1 1000=true) HS.o (fun _=>HX.o) hbu⟩,by simp[intOf];omega⟩
  have eh:=UK (P:=fun x=>inB x.dl 1 1000=true) (l:=U) (fun j hj _=>HS.o j hj oq);have fh:=hid eh;clear HS hbel eh;go_wp2;go_ret;exact⟨⟨true,rfl,fun _=>⟨ex,fg.o,fe.o,ff.o,fh.o⟩⟩,HBEL.o⟩
 have fj:(40:Int)<(z.length:Int)+(ins.length:Int)+(A.length:Int)+(U.length:Int):=oq;go_enter func28,ntmps28;go_wp2;go_ret;exact⟨⟨false,rfl,fun h=>by cases h⟩,bq⟩
