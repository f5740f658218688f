/- Parts of the proof. -/
import Derived.Maps.OwnIn
import Derived.Test.YtdgifkjaflfdeaaGreatDoorX06
import Derived.Test.YtdgifkjaflfdeaaGreatDoorX12
set_option linter.all false
set_option maxRecDepth 100000
set_option maxHeartbeats 16000000
namespace Go.Proofs.YtdgifkjaflfdeaaGreatDoor.syn
open Tryz
open Go.RowKit
variable {w:World}{b y:Nat}{f g j m q v x z:Value}{t T K E:TypeId}{F:Fence}{rest:List Oper}{o:Oper}{a:Act}{Q:Exit->Act->World->Prop}
def Qq(x:Ending):Prop:=∃a e:Int,x=.returned (.tuple #[.int .i64 a,.int .i64 e])
def CI(w:World)(mb:Nat):Prop:=∃L,YT w mb L/\∀nm,∃i:Int,(Xm nm L).getD (.int .i64 0)=.int .i64 i
theorem CI.below{w w':World}{mb:Nat}(h:CI w mb)(hb:Below w.1.size w w'):CI w' mb:=by obtain⟨L,f,g⟩:=h;exact⟨L,f.below hb,g⟩
theorem CI.upon{w w':World}{mb r:Nat}(h:CI w mb)(hb:Upon r w w')(f:mb≠r):CI w' mb:=by obtain⟨L,g,j⟩:=h;exact⟨L,g.upon hb f,j⟩
theorem CI.lt{w:World}{mb:Nat}(h:CI w mb):mb<w.1.size:=by obtain⟨L,f,g⟩:=h;exact f.lt
theorem CI.new(w:World):CI (w.alloc (.map #[] 0)) w.1.size:=⟨[],YT.new w,fun _=>⟨0,rfl⟩⟩
theorem Em{L:List (ByteArray × Value)}(h:∀nm,∃i:Int,(Xm nm L).getD (.int .i64 0)=.int .i64 i)(k:ByteArray)(j:Int):∀nm,∃i:Int,(Xm nm (JB k (.int .i64 j) L)).getD (.int .i64 0)=.int .i64 i:=by
 intro nm;rw[UX];by_cases f:nm=k
 .exact⟨j,by rw[Z3 f];rfl⟩
 rw[Z2 f];exact h nm
theorem UH(mb:Nat)(nm:ByteArray)(h:CI w mb) :
  Calls prog 251 #[.map (some mb),.string nm] w fun x w'=>(∃b:Bool,x=.returned (.bool b))/\CI w' mb/\Upon mb w w'/\w'.1.size=w.1.size:=by
 obtain⟨L,q,g⟩:=h;obtain⟨i,hi⟩:=g nm;have m:=hid q;have v:=hid hi;have y:=hid (fun j=>Em g nm j);have z:=hid (fun j:Int=>(show(Xm nm (JB nm (.int .i64 j) L)).getD (.int .i64 0)=.int .i64 j by rw[UX,Z3 rfl];rfl));clear q g hi;go_enter func251,ntmps251;go_wp2_with (first|(at_lookup;first|refine Ji Qh _ rfl _ _ rfl mb _ nm _ rfl rfl f (z.o _) ?_|refine Ji Qh _ rfl _ _ rfl mb L nm _ rfl rfl m.o v.o ?_)|(at_mapUpdate;refine XE Qh _ rfl _ _ _ rfl mb L nm _ rfl rfl rfl m.o ?_;intro arr clock f));go_ret;exact⟨⟨_,rfl⟩,⟨_,f,y.o _⟩,YR (Upon.refl _ _) _,by simp[World.putM]⟩
theorem Zcd(mb:Nat)(nm:ByteArray)(h:CI w mb) :
  Calls prog 253 #[.map (some mb),.string nm] w fun x w'=>(∃b:Bool,x=.returned (.bool b))/\w'=w:=by
 obtain⟨L,g,f⟩:=h;obtain⟨i,hi⟩:=f nm;have m:=hid g;have j:=hid hi;clear g f hi;go_enter func253,ntmps253;go_wp2_with (at_lookup;refine Ji Qh _ rfl _ _ rfl mb L nm _ rfl rfl m.o j.o ?_);go_ret;exact⟨⟨_,rfl⟩,rfl⟩
def ZgK(w:World)(mb len:Nat)(v:Value)(wr:World):Prop:=∃i:Nat,v=.int .i64 (i:Int)/\i<=len/\CI wr mb/\Below w.1.size w wr
def ZgQ(W:World)(mb len:Nat)(v:Value)(wr:World):Prop:=∃i:Nat,v=.int .i64 (i:Int)/\i<=len/\CI wr mb/\Upon mb W wr
def ZgM(W:World)(mb len:Nat)(v:Value)(wr:World):Prop:=∃i:Nat,v=.int .i64 (i:Int)/\i<=len/\CI wr mb/\Below W.1.size W wr
theorem El{f g j m q v x y z A:Value}(h:w.1[b]?=some (.cells #[f,g,j,m,q,v,x,y,z,A] t (0,0))) :
  (w.cell? ⟨b,0,none⟩=some f/\w.cell? ⟨b,1,none⟩=some g/\w.cell? ⟨b,2,none⟩=some j/\w.cell? ⟨b,3,none⟩=some m/\w.cell? ⟨b,4,none⟩=some q/\w.cell? ⟨b,5,none⟩=some v/\w.cell? ⟨b,6,none⟩=some x/\w.cell? ⟨b,7,none⟩=some y/\w.cell? ⟨b,8,none⟩=some z/\w.cell? ⟨b,9,none⟩=some A):=by
 refine⟨?_,?_,?_,?_,?_,?_,?_,?_,?_,?_⟩
 all_goals simp[World.cell?,h]
theorem ZcP{w w':World}{e:PE}{f:OA}{cap:Nat}(h:AE w e f cap)(j:∀b o,f=some ⟨b,o,none⟩->NF w e.args b o)(hb:Below w.1.size w w'):∀b o,f=some ⟨b,o,none⟩->NF w' e.args b o:=by
 intro b o g;rcases h.args with h0|⟨b',o',e',hlt',hac⟩
 .rw[h0];trivial
 rw[g] at e';injection e' with e';injection e' with e1 e2
 subst e1;subst e2;exact(j b o g).below hb _ _ _ hlt' hac
theorem Zg7{base nn c:Nat}{j:OA}{xs:List Value}(h:w.ownsRow base 111 6 (.slice j nn c) nn xs)(m:NmR xs nn){q:Nat}(v:q<nn):∃g,j=some ⟨g,0,none⟩/\g<w.1.size/\∃(k:Int)(nm:ByteArray)(n d a:Int),
  w.cell? ⟨g,q*6,none⟩=some (.int .i64 k)/\w.cell? ⟨g,q*6+1,none⟩=some (.string nm)/\w.cell? ⟨g,q*6+2,none⟩=some (.int .i64 n)/\w.cell? ⟨g,q*6+3,none⟩=some (.int .i64 d)/\w.cell? ⟨g,q*6+4,none⟩=some (.slice none 0 0)/\w.cell? ⟨g,q*6+5,none⟩=some (.int .i64 a):=by
 obtain⟨g,cap,e,_,f⟩:=h.form oq;injection e with e1 _ e3
 subst e1;subst e3;obtain⟨k,nm,n,d,a,x,y,z,A,C,D⟩:=m.2 q v;exact⟨g,rfl,f,k,nm,n,d,a,(h.cellAt _ oq).trans x,(h.cellAt _ oq).trans y,(h.cellAt _ oq).trans z,(h.cellAt _ oq).trans A,(h.cellAt _ oq).trans C,(h.cellAt _ oq).trans D⟩
theorem yH(f:List ND)(ins:List IN)(G:List FL)(X:List OU)(an ai af ao:OA)(cn ci cf co:Nat)(hp:AP w ⟨f,ins,G,X⟩ an ai af ao cn ci cf co)(hz:NZ w f an)(hb:∀x∈f,UC x.body/\x.body.sz<=100) :
  Calls prog 233 #[pv ⟨f,ins,G,X⟩ an ai af ao cn ci cf co] w fun x w'=>Qq x/\Below w.1.size w w':=by
 have HN:=hid hp.nodes;have HZ:=hid hz;have bf:=hid hb;have cp:f.length<=9223372036854775807:=by have:=hp.caps.1;simp only at this;omega
 clear hp hz hb;unfold pv Qq;simp only;have cm:=fun w=>run_makeMap (P:=prog) 379 w
 go_enter func233,ntmps233;go_wp2;go_loopw [16] (fun v wr=>Hid (ZgK w (w.1.size+1) f.length v wr)) (fun i _=>f.length-(intOf i).toNat)
 case atStart=>exact⟨0,rfl,Zk _,by simpa using CI.new (w.alloc _),bq⟩
 obtain⟨D,rfl⟩:=ey wr;obtain⟨i,rfl,hi,C,hbel⟩:=hrel.o;clear hrel;have F:=hid C;have HBEL:=hid hbel;have M:=hbel.size;have ce:=C.lt;clear C;by_cases ab:i<f.length
 .obtain⟨bb,oo,rfl,I,L⟩:=HN.o.at ab;have z:=HZ.o bb oo rfl i ab;have R:=bf.o _ (Zi ab);have ck:=Zd I M;obtain⟨x,hx⟩:=ez (f[i]);rw[hx] at L z R;obtain⟨nm,ps,bud,⟨k1,nm1,n1,d1,br,a1⟩,fa⟩:=x;obtain⟨pa,pc,ad,cap,u0,u1,u2,u3,u4,u5,u6,u7,u8,u9,ar,⟨cr,ct,az⟩,bs⟩:=L.cells;simp only at z R;have aj:=hid ar;have bk:=hid (fun b o (e:ad=some ⟨b,o,none⟩)=>z b o cap (by rw[<-e];exact u7));have HB2:=hid R;have bn:=hid az;have y:=fun o=>hbel.cell (p:=⟨bb,o,none⟩) I
  have y0:=(y _).trans u0;have y1:=(y _).trans u1;have y2:=(y _).trans u2;have y3:=(y _).trans u3;have y4:=(y _).trans u4;have y5:=(y _).trans u5;have y6:=(y _).trans u6;have y7:=(y _).trans u7;have y8:=(y _).trans u8;have y9:=(y _).trans u9;have cu:ps.length<=9223372036854775807:=oq;have cl:(i:Int)<(f.length:Int):=oq;have E:=hid (fun(w':World) (hb:Below D.1.size D w')=>UH (w:=w') (w.1.size+1) nm (F.o.below hb));clear hbel L z R hx bs I ar az y u0 u1 u2 u3 u4 u5 u6 u7 u8 u9;go_wp2_with (go_at_call 251;refine(E.o _ bq).mono ?_;rintro x w2 ⟨⟨b,rfl⟩,au,ac,ba⟩;have ak:=hid au;have aa:=hid ((by repeat (first|(with_reducible exact Upon.refl _ _)|((with_reducible refine Upon.setAt ?_ ?_ _);(rotate_left;focus (first|exact Or.inl rfl|omega|(simp;done)|(simp;omega))))|(with_reducible refine Upon.alloc ?_ _)|(with_reducible refine Upon.drewN ?_ _)|(with_reducible refine Upon.drew ?_)|(with_reducible refine Upon.trans ?_ ac))):Upon (w.1.size+1) D w2);have z:w2.1.size=D.1.size+1:=(by rw[ba];simp);have ag:=(ac.block D.1.size (by simp) oq).trans (Yx D _);have aq:=hid ag;obtain⟨z0,z1,z2,z3,z4,z5,z6,z7,z8,z9⟩:=El ag;clear au ac ag ba;cases b)
  .obtain⟨W3,H⟩:=ez (w2.alloc (.map #[] 0));go_wp2
   try rw[H]
   have U:CI W3 (D.1.size+1):=by rw[<-H,<-z];exact CI.new w2
   have hb3:Below w2.1.size w2 W3:=by rw[<-H];exact(Zg _ _).alloc (Zc _) _
   have bg:=hid (ak.o.below hb3);have bd:=(hb3.block D.1.size oq).trans aq.o;have bo:=hid bd;have J:Below w.1.size w W3:=(HBEL.o.trans (aa.o.below M oq)).trans (hb3.mono oq);have bj:=hid J;have cv:W3.1.size=D.1.size+1+1:=by rw[<-H];simp[z]
   have al:=hid U;clear z0 z2 z3 z4 z5 z6 z7 z8 z9 z1 y0 y1 y2 y3 y4 y5 y6 y7 y8 y9 hb3 bd J aq z H U aa ak F E;go_loopw [30] (fun v wr2=>Hid (ZgQ W3 (D.1.size+1) ps.length v wr2)) (fun i _=>ps.length-(intOf i).toNat)
   case atStart=>exact⟨0,rfl,Zk _,al.o,Upon.refl _ _⟩
   obtain⟨j,rfl,hj,C,O⟩:=hrel.o;clear hrel;have F:=hid C;have ap:=hid O;have ah:=(O.block D.1.size oq oq).trans bo.o;obtain⟨z0,z1,z2,z3,z4,z5,z6,z7,z8,z9⟩:=El ah;have bp:=hid ah;have m:=bj.o.trans (O.below oq oq);have Z:=hid m;have ch:=O.size;have cg:=C.lt;clear ah C O;by_cases bv:j<ps.length
   .obtain⟨b3,o3,rfl,cb,bc⟩:=(bn.o.below QT m).at bv;have v0:=bc.1;rw[Z9] at v0;have bu:(j:Int)<(ps.length:Int):=oq;have E:=hid (UH (D.1.size+1) ps[j] F.o);obtain⟨pn,ay⟩:=ez (ps[j]);rw[ay] at v0 E;clear bc m ay;go_wp2_with (go_at_call 251;refine E.o.mono ?_;rintro x w5 ⟨⟨b,rfl⟩,av,ae,bz⟩;have bh:=hid av;have am:=hid ae;have be:=(ae.block D.1.size oq oq).trans bp.o;obtain⟨t0,t1,t2,t3,t4,t5,t6,t7,t8,t9⟩:=El be;clear av ae be;cases b)
    .refine⟨⟨j+1,by go_num,oq,bh.o,ap.o.trans am.o⟩,by simp[intOf];omega⟩
    go_ret2;exact⟨⟨_,_,rfl⟩,Z.o.trans (am.o.below oq oq)⟩
   have bu:decide ((j:Int)<(ps.length:Int))=false:=Z0 oq;have Y:=hid (zq (aj.o.below (m.mono oq)) (fun b o e=>ZcP aj.o bk.o (m.mono oq) b o e) HB2.o.1 HB2.o.2);unfold ev at Y;simp only at Y;clear m;go_wp2_with (go_at_call 252;refine Y.o.mono ?_;rintro x w5 ⟨⟨ln,nn,cj,xs,rfl,ax,aw,cq⟩,hb5⟩;have bm:=hid ax;have bl:=hid aw;have HB5:=hid hb5;have bz:=hb5.size;clear ax aw hb5);go_loopw [44] (fun v wr3=>Hid (ZgM w5 (D.1.size+1) nn v wr3)) (fun i _=>nn-(intOf i).toNat)
   case atStart=>exact⟨0,rfl,Zk _,F.o.below HB5.o,Zg _ _⟩
   obtain⟨w4,rfl⟩:=ey wr;obtain⟨q,rfl,hq,V,hb6⟩:=hrel.o;clear hrel;have T:=hid V;have HB6:=hid hb6;have cw:=hb6.size;clear V;by_cases bx:q<nn
   .obtain⟨g,e1,bt,nk,ca,n2,d2,a2,x0,x1,x2,x3,x4,x5⟩:=Zg7 bm.o bl.o bx;have A:=fun o=>hb6.cell (p:=⟨g,o,none⟩) bt
    have v0:=(A _).trans x0;have v1:=(A _).trans x1;have v2:=(A _).trans x2;have v3:=(A _).trans x3;have v4:=(A _).trans x4;have v5:=(A _).trans x5;have bw:(q:Int)<(nn:Int):=oq;have cc:g<w4.1.size:=oq;subst e1;have bi:=hid (fun(w':World) (hb:Below w4.1.size w4 w')=>Zcd (w:=w') (D.1.size+1) ca (T.o.below hb));clear hb6 A x0 x1 x2 x3 x4 x5;go_wp2_with (go_at_call 253;refine(bi.o _ bq).mono ?_;rintro x w7 ⟨⟨b,rfl⟩,rfl⟩;cases b)
    .go_ret2;exact⟨⟨_,_,rfl⟩,Z.o.trans ((HB5.o.trans ((bq:Below w5.1.size w5 _).mono oq)).mono oq)⟩
    refine⟨⟨q+1,by go_num,oq,T.o.below bq,bq⟩,by simp[intOf];omega⟩
   have bw:decide ((q:Int)<(nn:Int))=false:=Z0 oq;clear hb6;go_wp2;refine⟨⟨i+1,by go_num,oq,?_,Z.o.trans ((HB5.o.trans (HB6.o.mono oq)).mono oq)⟩,by simp[intOf];omega⟩;exact((bg.o.upon ap.o oq).below HB5.o).below (HB6.o.mono oq)
  go_ret2;exact⟨⟨_,_,rfl⟩,HBEL.o.trans (aa.o.below M oq)⟩
 have cd:decide ((i:Int)<(f.length:Int))=false:=Z0 oq;clear hbel;go_wp2;go_ret2;exact⟨⟨_,_,rfl⟩,HBEL.o⟩
theorem Zg1{g j m q v x y f:Value}(h:w.1[b]?=some (.cells #[g,j,m,q,v,x,y,f] t (0,0))):w.cell? ⟨b,7,none⟩=some f:=by simp[World.cell?,h]
def zC(w:World)(mb:Nat)(len:Nat)(p:PG)(an ai af ao:OA)(cn ci cf co:Nat)(v:Value)(wr:World):Prop :=
 ∃i:Nat,v=.int .i64 (i:Int)/\i<=len/\CI wr mb/\Qg wr w.1.size p an ai af ao cn ci cf co/\Below w.1.size w wr/\w.1.size<mb
theorem zC.next{w wr:World}{mb i len:Nat}{p:PG}{an q m v:OA}{z y x A:Nat}(hi:i<len)(g:Qg wr w.1.size p an q m v z y x A)(hb:Below w.1.size w wr)(D:w.1.size<mb)
  {w2 w3:World}(j:Below wr.1.size wr w2)(C:Upon mb w2 w3)(E:CI w3 mb):zC w mb len p an q m v z y x A (.int .i64 ((i:Int)+1)) w3:=by
 have f:=Zb g;refine⟨i+1,by simp,hi,E,?_,?_,D⟩
 .exact(C.block _ (Zd f j.size) oq).trans ((j.block _ f).trans g)
 exact(hb.trans (j.mono hb.size)).trans (C.below (Zm hb.size j.size) (Nat.le_of_lt D))
theorem bZ130{p:Prop}(h:p:=by repeat (first|(with_reducible exact Upon.refl _ _)|((with_reducible refine Upon.setAt ?_ ?_ _);(rotate_left;focus (first|exact Or.inl rfl|omega|(simp;done)|(simp;omega))))|(with_reducible refine Upon.alloc ?_ _)|(with_reducible refine Upon.drewN ?_ _)|(with_reducible refine Upon.drew ?_)|(with_reducible refine Upon.trans ?_ H.o))):p:=h
theorem Eg(q:List ND)(ins:List IN)(f:List FL)(C:List OU)(an ai Z ao:OA)(cn ci cf co:Nat)(hp:AP w ⟨q,ins,f,C⟩ an ai Z ao cn ci cf co) :
  Calls prog 234 #[pv ⟨q,ins,f,C⟩ an ai Z ao cn ci cf co] w fun x w'=>Qq x/\Below w.1.size w w':=by
 have HI:=hid hp.ins;have HF:=hid hp.flows;have J:=hp.caps;simp only at J;have aj:ins.length<=9223372036854775807:=oq;have ah:f.length<=9223372036854775807:=oq;clear hp J;unfold pv Qq;simp only;have ak:=fun w=>run_makeMap (P:=prog) 379 w
 go_enter func234,ntmps234;go_wp2;go_loopw [13] (fun v wr=>Hid (zC w (w.1.size+1) ins.length ⟨q,ins,f,C⟩ an ai Z ao cn ci cf co v wr)) (fun i _=>ins.length-(intOf i).toNat)
 case atStart=>exact⟨0,rfl,Zk _,by simpa using CI.new (w.alloc _),(Za _ _ _ (by simp)).trans (Yx w _),bq,oq⟩
 obtain⟨i,rfl,hi,z,j,hbel,_⟩:=hrel.o;clear hrel;have F:=hid z;have G:=hid j;have HBEL:=hid hbel;have m:=hbel.size;have M:=z.lt;have O:=Zb j;unfold Qg at j;simp only at j;obtain⟨⟨x0,x1,x2,x3⟩,xf⟩:=Yy j;clear j z;by_cases E:i<ins.length
 .obtain⟨bb,oo,rfl,g,y⟩:=HI.o.at E;have D:=EB w wr bb _ _ hbel g y;have ac:=Zd g m;have R:=hid (fun(X:ByteArray) (w':World) (hb:Below wr.1.size wr w')=>UH (w:=w') (w.1.size+1) X (F.o.below hb));have U:=hid (fun(w2 w3:World)=>zC.next (w:=w) (wr:=wr) (w2:=w2) (w3:=w3) E G.o HBEL.o (show w.1.size<w.1.size+1 by omega));obtain⟨x,Y⟩:=ez (ins[i]);rw[Y] at D;obtain⟨X,al,ph,fa⟩:=x;obtain⟨y0,y1,y2,y3,V⟩:=D;simp only at y0 y1 y2 y3;have ae:(i:Int)<(ins.length:Int):=oq;clear hbel y Y V g;go_wp2_with (go_at_call 251;refine(R.o X _ bq).mono ?_;rintro x w3 ⟨⟨b,rfl⟩,I,A,ag⟩;have T:=hid I;have H:=hid A;have nb:=(A.block wr.1.size (by simp) oq).trans (Yx wr _);obtain⟨⟨z0,z1,z2,z3⟩,zf⟩:=Yy nb;clear I A nb;cases b)
  .refine⟨U.o _ w3 bq H.o T.o,by simp[intOf];omega⟩
  go_ret2;exact⟨⟨_,_,rfl⟩,HBEL.o.trans ((bZ130:Upon (w.1.size+1) wr _).below m oq)⟩
 have L:decide ((i:Int)<(ins.length:Int))=false:=Z0 oq;clear hbel;go_wp2;go_loopw [27] (fun v wr=>Hid (zC w (w.1.size+1) f.length ⟨q,ins,f,C⟩ an ai Z ao cn ci cf co v wr)) (fun i _=>f.length-(intOf i).toNat)
 case atStart=>exact⟨0,rfl,Zk _,F.o,G.o,HBEL.o,oq⟩
 clear G HBEL O m M x0 x1 x2 x3 xf F L E;obtain⟨i,rfl,hi,z,j,hbel,_⟩:=hrel.o;clear hrel;have F:=hid z;have G:=hid j;have HBEL:=hid hbel;have m:=hbel.size;have M:=z.lt;have O:=Zb j;clear j z;by_cases E:i<f.length
 .obtain⟨bb,oo,rfl,g,y⟩:=HF.o.at E;have D:=Vs w wr bb _ _ hbel g y;have ac:=Zd g m;have R:=hid (fun(X:ByteArray) (w':World) (hb:Below wr.1.size wr w')=>UH (w:=w') (w.1.size+1) X (F.o.below hb));have U:=hid (fun(w2 w3:World)=>zC.next (w:=w) (wr:=wr) (w2:=w2) (w3:=w3) E G.o HBEL.o (show w.1.size<w.1.size+1 by omega));obtain⟨x,Y⟩:=ez (f[i]);rw[Y] at D;obtain⟨X,⟨k1,nm1,n1,d1,aa,a1⟩,fa⟩:=x;obtain⟨ad,cap,y0,y1,y2,y3,y4,y5,y6,y7,ab,V⟩:=D.cells;have ae:(i:Int)<(f.length:Int):=oq;clear hbel D y Y V g ab;go_wp2_with (go_at_call 251;refine(R.o X _ bq).mono ?_;rintro x w3 ⟨⟨b,rfl⟩,I,A,ag⟩;have T:=hid I;have H:=hid A;have nb:=(A.block wr.1.size (by simp) oq).trans (Yx wr _);have z7:=Zg1 nb;clear I A nb;cases b)
  .refine⟨U.o _ w3 bq H.o T.o,by simp[intOf];omega⟩
  go_ret2;exact⟨⟨_,_,rfl⟩,HBEL.o.trans ((bZ130:Upon (w.1.size+1) wr _).below m oq)⟩
 have L:decide ((i:Int)<(f.length:Int))=false:=Z0 oq;clear hbel;go_wp2;go_ret2;exact⟨⟨_,_,rfl⟩,HBEL.o⟩
def Ze9(w:World)(mb mb2:Nat)(len:Nat)(p:PG)(an ai af ao:OA)(cn ci cf co:Nat)(v:Value)(wr:World):Prop :=
 ∃i:Nat,v=.int .i64 (i:Int)/\i<=len/\CI wr mb/\CI wr mb2/\Qg wr w.1.size p an ai af ao cn ci cf co/\Below w.1.size w wr
theorem Ef(z:List ND)(ins:List IN)(f:List FL)(g:List OU)(an ai af ao:OA)(cn ci cf co:Nat)(hp:AP w ⟨z,ins,f,g⟩ an ai af ao cn ci cf co) :
  Calls prog 236 #[pv ⟨z,ins,f,g⟩ an ai af ao cn ci cf co] w fun x w'=>Qq x/\Below w.1.size w w':=by
 have HO:=hid hp.outs;have HF:=hid hp.flows;have O:=hp.caps;simp only at O;have aq:g.length<=9223372036854775807:=oq;have am:f.length<=9223372036854775807:=oq;clear hp O;unfold pv Qq;simp only;have ap:=fun w=>run_makeMap (P:=prog) 379 w
 go_enter func236,ntmps236;go_wp2;go_loopw [15] (fun v wr=>Hid (Ze9 w (w.1.size+1) (w.1.size+1+1) f.length ⟨z,ins,f,g⟩ an ai af ao cn ci cf co v wr)) (fun i _=>f.length-(intOf i).toNat)
 case atStart=>exact⟨0,rfl,Zk _,by simpa using (CI.new (w.alloc _)).below ((Zg _ _).alloc (Zc _) _),by simpa using (CI.new ((w.alloc _).alloc _)),(Za _ _ _ (by simp;omega)).trans ((Za _ _ _ (by simp)).trans (Yx w _)),bq⟩
 obtain⟨wo,rfl⟩:=ey wr;obtain⟨i,rfl,hi,F,D,q,hbel⟩:=hrel.o;clear hrel;have H:=hid q;have HBEL:=hid hbel;have A:=hid D;have y:=hbel.size;have T:=D.lt;have E:=Zb q;unfold Qg at q;simp only at q;obtain⟨⟨x0,x1,x2,x3⟩,xf⟩:=Yy q;clear q D;by_cases M:i<f.length
 .obtain⟨bb,oo,rfl,m,C⟩:=HF.o.at M;have G:=Vs w wo bb _ _ hbel m C;have aj:=Zd m y;obtain⟨x,hx⟩:=ez (f[i]);rw[hx] at G;obtain⟨X,⟨k1,nm1,n1,d1,ag,a1⟩,fa⟩:=x;obtain⟨ad,cap,y0,y1,y2,y3,y4,y5,y6,y7,ah,U⟩:=G.cells;obtain⟨L,hM,hL⟩:=F;obtain⟨iv,aa⟩:=hL X;have HM:=hid hM;have HG:=hid aa;have ae:=hid (fun j=>Em hL X j);have ak:(i:Int)<(f.length:Int):=oq;clear hbel G C hx U m ah hM hL aa;go_wp2_with (first|(at_lookup;refine Ji Qh _ rfl _ _ rfl (w.1.size+1) L X _ rfl rfl (HM.o.below bq) HG.o ?_)|(at_mapUpdate;refine XE Qh _ rfl _ _ _ rfl (w.1.size+1) L X _ rfl rfl rfl (HM.o.below bq) ?_;intro arr clock al));refine⟨⟨i+1,by go_num,oq,⟨_,al,ae.o _⟩,(A.o.below bq).upon (YR (Upon.refl _ _) _) oq,?_,?_⟩,by simp[intOf];omega⟩
  .exact((YR (Upon.refl (w.1.size+1) _) _).block w.1.size (by simp;omega) oq).trans ((Za _ _ _ E).trans H.o)
  exact QG bq oq _
 have R:decide ((i:Int)<(f.length:Int))=false:=Z0 oq;have I:=hid F;clear hbel F;go_wp2;go_loopw [28] (fun v wr=>Hid (Ze9 w (w.1.size+1) (w.1.size+1+1) g.length ⟨z,ins,f,g⟩ an ai af ao cn ci cf co v wr)) (fun i _=>g.length-(intOf i).toNat)
 case atStart=>exact⟨0,rfl,Zk _,I.o,A.o,H.o,HBEL.o⟩
 clear H HBEL E y T x0 x1 x2 x3 xf I A R M;obtain⟨wp,rfl⟩:=ey wr;obtain⟨i,rfl,hi,F,D,q,hbel⟩:=hrel.o;clear hrel;have I:=hid F;have A:=hid D;have H:=hid q;have HBEL:=hid hbel;have y:=hbel.size;have T:=D.lt;have E:=Zb q;clear q F D;by_cases M:i<g.length
 .obtain⟨bb,oo,rfl,m,C⟩:=HO.o.at M;have G:=jF w wp bb _ _ hbel m C;have aj:=Zd m y;obtain⟨x,hx⟩:=ez (g[i]);rw[hx] at G;obtain⟨X,fl,dl,fa⟩:=x;obtain⟨y0,y1,y2,y3,U⟩:=G;simp only at y0 y1 y2 y3;have ak:(i:Int)<(g.length:Int):=oq;have ab:=hid (fun(w':World) (hb:Below wp.1.size wp w')=>UH (w:=w') (w.1.size+1+1) X (A.o.below hb));clear hbel C hx U m;go_wp2_with (first|(go_at_call 251;refine(ab.o _ bq).mono ?_;rintro x w3 ⟨⟨b,rfl⟩,Z,V,ar⟩;have ac:=hid Z;have J:=hid ((by repeat (first|(with_reducible exact Upon.refl _ _)|((with_reducible refine Upon.setAt ?_ ?_ _);(rotate_left;focus (first|exact Or.inl rfl|omega|(simp;done)|(simp;omega))))|(with_reducible refine Upon.alloc ?_ _)|(with_reducible refine Upon.drewN ?_ _)|(with_reducible refine Upon.drew ?_)|(with_reducible refine Upon.trans ?_ V))):Upon (w.1.size+1+1) wp w3);have nb:=(V.block wp.1.size (by simp) oq).trans (Yx wp _);obtain⟨⟨z0,z1,z2,z3⟩,zf⟩:=Yy nb;clear Z V nb;have Y:=hid (I.o.upon J.o oq);cases b)|(go_at_call 253;refine(Zcd _ _ Y.o).mono ?_;rintro x w4 ⟨⟨b2,rfl⟩,rfl⟩;cases b2))
  all_goals first|(go_ret2;exact⟨⟨_,_,rfl⟩,HBEL.o.trans (J.o.below y oq)⟩)|(refine⟨⟨i+1,by go_num,oq,Y.o,ac.o,(J.o.block _ E oq).trans H.o,HBEL.o.trans (J.o.below y oq)⟩,by simp[intOf];omega⟩)
 have R:decide ((i:Int)<(g.length:Int))=false:=Z0 oq;clear hbel;go_wp2;go_ret2;exact⟨⟨_,_,rfl⟩,HBEL.o⟩
open Go.RowKit Go.Shelf
attribute [local go_sem] ZU
theorem VW(M:X3 T K E z)(w:World){j:Array Oper}
  (A:o.guard=none)(m x:Operand)(g:o.op=Op.lookup T m x false)(mb:Nat)(L:List (ByteArray × Value))(k:ByteArray)(v:Value)
  (C:a.eval m=.map (some mb))(G:a.eval x=.string k)(h:YT w mb L)(D:(Xm k L).getD z=v)
  (hK:wpListIn F y prog j Q rest (a.put o.dst v) w) :
  wpListIn F y prog j Q (o::rest) a w:=by
 refine wpListIn_plain A fun K' hK'=>?_
 have f:=Qa M h k false;rw[D,Z2 (by decide)] at f;unfold Oper.wpIn;refine⟨by simp[Oper.about,g],?_⟩;rw[Oper.semAt_plain F _ _ (by rw[g];intro c q;cases q)];simp[execOp,g,C,G,f,Result.andThen];exact hK' _ _ hK
theorem JS(M:X3 T K E z)(w:World){j:Array Oper}
  (C:o.guard=none)(m x v:Operand)(f:o.op=Op.mapUpdate T m x v)(mb:Nat)(L:List (ByteArray × Value))(k:ByteArray)(u:Value)
  (D:a.eval m=.map (some mb))(H:a.eval x=.string k)(G:a.eval v=u)(h:YT w mb L)
  (hK:∀arr clock,YT (World.putM w mb (.map arr clock)) mb (JB k u L)->wpListIn F y prog j Q rest (a.put o.dst undef) (World.putM w mb (.map arr clock))) :
  wpListIn F y prog j Q (o::rest) a w:=by
 refine wpListIn_plain C fun K' hK'=>?_
 obtain⟨arr,clock,g,A⟩:=EK M h k u;unfold Oper.wpIn;refine⟨by simp[Oper.about,f],?_⟩;rw[Oper.semAt_plain F _ _ (by rw[f];intro c q;cases q)];simp[execOp,f,D,H,G,g,Result.andThen];exact hK' _ _ (hK arr clock A)
theorem qc(mb f:Nat)(k n d a:Int)(nm:ByteArray)(D:OA)(len cap:Nat)(h:CI w mb)(E:CI w f) :
  Calls prog 254 #[.agg #[.int .i64 k,.string nm,.int .i64 n,.int .i64 d,.slice D len cap,.int .i64 a],.map (some mb),.map (some f)] w fun x w'=>(∃er:Int,x=.returned (.int .i64 er))/\Below w.1.size w w':=by
 have C:=hid (fun(w':World) (hb:Below w.1.size w w')=>Zcd (w:=w') mb nm (h.below hb));obtain⟨L,z,j⟩:=E;have y:=hid z;clear h z;by_cases m:k=1
 .subst m;clear j;go_enter func254,ntmps254;go_wp2_with (go_at_call 253;refine(C.o _ bq).mono ?_;rintro x G ⟨⟨b,rfl⟩,rfl⟩;cases b)
  all_goals (go_ret;exact⟨⟨_,rfl⟩,bq⟩)
 have F:(k == 1)=false:=ZZ.2 m;by_cases g:k=2
 .subst g;obtain⟨i,hi⟩:=j nm
  cases hg:Xm nm L with
  | none =>
   have q:=hid hg;clear m j hi hg;go_enter func254,ntmps254;go_wp2_with (at_lookup;refine Xp xa _ rfl _ _ rfl f L nm rfl rfl (y.o.below bq) q.o ?_);go_ret;exact⟨⟨_,rfl⟩,bq⟩
  | some v =>
   rw[hg] at hi;have hi:v=.int .i64 i:=hi;subst hi;have q:=hid hg;clear m j hg;go_enter func254,ntmps254;go_wp2_with (at_lookup;refine X0 xa _ rfl _ _ rfl f L nm _ rfl rfl (y.o.below bq) q.o ?_)
   all_goals (go_ret;exact⟨⟨_,rfl⟩,bq⟩)
 have A:(k == 2)=false:=ZZ.2 g;clear m g j;go_enter func254,ntmps254;go_wp2;go_ret;exact⟨⟨0,rfl⟩,bq⟩
def Zbl(W0:World)(mb len:Nat)(v:Value)(wr:World):Prop:=∃i:Nat,v=.int .i64 (i:Int)/\i<=len/\CI wr mb/\Upon mb W0 wr
theorem yE(g:List ND)(ins:List IN)(f:List FL)(m:List OU)(an H z M:OA)(J I A R:Nat)(hp:AP w ⟨g,ins,f,m⟩ an H z M J I A R) :
  Calls prog 235 #[pv ⟨g,ins,f,m⟩ an H z M J I A R] w fun x w'=>Qq x/\Below w.1.size w w':=by
 have HI:=hid hp.ins;have HF:=hid hp.flows;have HN:=hid hp.nodes;have aq:=hp.caps;simp only at aq;have db:ins.length<=9223372036854775807:=oq;have da:f.length<=9223372036854775807:=oq;have dd:g.length<=9223372036854775807:=oq;have HC:=hid aq.2.2.1;clear hp aq;unfold pv Qq;simp only;have dc:=fun w=>run_makeMap (P:=prog) 379 w
 have cq:=fun w=>run_makeMap (P:=prog) 252 w
 have cd:=hid (fun w=>Qn (w:=w) z f.length A);refine(Zu (n:=6)).1 ?_;refine callsIn_of_wp_marks func235 rfl trivial ?_ rfl;simp only[ntmps235,ZJ,Zp,Zx,Nat.reduceAdd,Nat.reduceSub,ZG,ZF,ZM,ZK,ZN,ZD];gi_wp2_with fail;have bP:Qg (((((((w.alloc (.cells #[.slice an g.length J,.slice H ins.length I,.slice z f.length A,.slice M m.length R] 27)).alloc (.cells #[.int .i64 0] 3)).alloc (.cells #[.int .i64 0] 38)).alloc (.map #[] 0)).alloc (.map #[] 0)).alloc (.cells #[.map (some (w.1.size+1+1+1))] 379)).alloc (.cells #[.map (some (w.1.size+1+1+1+1))] 252)) w.1.size ⟨g,ins,f,m⟩ an H z M J I A R:=((Za _ _ _ oq).trans ((Za _ _ _ oq).trans ((Za _ _ _ oq).trans ((Za _ _ _ oq).trans ((Za _ _ _ oq).trans ((Za _ _ _ oq).trans (Yx w _)))))));have bA:Boxed (((((((w.alloc (.cells #[.slice an g.length J,.slice H ins.length I,.slice z f.length A,.slice M m.length R] 27)).alloc (.cells #[.int .i64 0] 3)).alloc (.cells #[.int .i64 0] 38)).alloc (.map #[] 0)).alloc (.map #[] 0)).alloc (.cells #[.map (some (w.1.size+1+1+1))] 379)).alloc (.cells #[.map (some (w.1.size+1+1+1+1))] 252)) (w.1.size+1) 3 (.int .i64 0):=by
  have h:=((((((Boxed.new (w.alloc (.cells #[.slice an g.length J,.slice H ins.length I,.slice z f.length A,.slice M m.length R] 27)) 3 (.int .i64 0)).alloc (.cells #[.int .i64 0] 38)).alloc (.map #[] 0)).alloc (.map #[] 0)).alloc (.cells #[.map (some (w.1.size+1+1+1))] 379)).alloc (.cells #[.map (some (w.1.size+1+1+1+1))] 252));simp only[Zv] at h;exact h
 have bE:Boxed (((((((w.alloc (.cells #[.slice an g.length J,.slice H ins.length I,.slice z f.length A,.slice M m.length R] 27)).alloc (.cells #[.int .i64 0] 3)).alloc (.cells #[.int .i64 0] 38)).alloc (.map #[] 0)).alloc (.map #[] 0)).alloc (.cells #[.map (some (w.1.size+1+1+1))] 379)).alloc (.cells #[.map (some (w.1.size+1+1+1+1))] 252)) (w.1.size+1+1) 38 (.int .i64 0):=by
  have h:=(((((Boxed.new ((w.alloc (.cells #[.slice an g.length J,.slice H ins.length I,.slice z f.length A,.slice M m.length R] 27)).alloc (.cells #[.int .i64 0] 3)) 38 (.int .i64 0)).alloc (.map #[] 0)).alloc (.map #[] 0)).alloc (.cells #[.map (some (w.1.size+1+1+1))] 379)).alloc (.cells #[.map (some (w.1.size+1+1+1+1))] 252));simp only[Zv] at h;exact h
 have be:CI (((((((w.alloc (.cells #[.slice an g.length J,.slice H ins.length I,.slice z f.length A,.slice M m.length R] 27)).alloc (.cells #[.int .i64 0] 3)).alloc (.cells #[.int .i64 0] 38)).alloc (.map #[] 0)).alloc (.map #[] 0)).alloc (.cells #[.map (some (w.1.size+1+1+1))] 379)).alloc (.cells #[.map (some (w.1.size+1+1+1+1))] 252)) (w.1.size+1+1+1):=by
  have h:=(CI.new (((w.alloc (.cells #[.slice an g.length J,.slice H ins.length I,.slice z f.length A,.slice M m.length R] 27)).alloc (.cells #[.int .i64 0] 3)).alloc (.cells #[.int .i64 0] 38))).below ((((Zg _ _).alloc (Zc _) (.map #[] 0)).alloc oq (.cells #[.map (some (w.1.size+1+1+1))] 379)).alloc oq (.cells #[.map (some (w.1.size+1+1+1+1))] 252));simp only[Zv] at h;exact h
 have bf:CI (((((((w.alloc (.cells #[.slice an g.length J,.slice H ins.length I,.slice z f.length A,.slice M m.length R] 27)).alloc (.cells #[.int .i64 0] 3)).alloc (.cells #[.int .i64 0] 38)).alloc (.map #[] 0)).alloc (.map #[] 0)).alloc (.cells #[.map (some (w.1.size+1+1+1))] 379)).alloc (.cells #[.map (some (w.1.size+1+1+1+1))] 252)) (w.1.size+1+1+1+1):=by
  have h:=(CI.new ((((w.alloc (.cells #[.slice an g.length J,.slice H ins.length I,.slice z f.length A,.slice M m.length R] 27)).alloc (.cells #[.int .i64 0] 3)).alloc (.cells #[.int .i64 0] 38)).alloc (.map #[] 0))).below (((Zg _ _).alloc (Zc _) (.cells #[.map (some (w.1.size+1+1+1))] 379)).alloc oq (.cells #[.map (some (w.1.size+1+1+1+1))] 252));simp only[Zv] at h;exact h
 have bM:Boxed (((((((w.alloc (.cells #[.slice an g.length J,.slice H ins.length I,.slice z f.length A,.slice M m.length R] 27)).alloc (.cells #[.int .i64 0] 3)).alloc (.cells #[.int .i64 0] 38)).alloc (.map #[] 0)).alloc (.map #[] 0)).alloc (.cells #[.map (some (w.1.size+1+1+1))] 379)).alloc (.cells #[.map (some (w.1.size+1+1+1+1))] 252)) (w.1.size+1+1+1+1+1) 379 (.map (some (w.1.size+1+1+1))):=by
  have h:=((Boxed.new (((((w.alloc (.cells #[.slice an g.length J,.slice H ins.length I,.slice z f.length A,.slice M m.length R] 27)).alloc (.cells #[.int .i64 0] 3)).alloc (.cells #[.int .i64 0] 38)).alloc (.map #[] 0)).alloc (.map #[] 0)) 379 (.map (some (w.1.size+1+1+1)))).alloc (.cells #[.map (some (w.1.size+1+1+1+1))] 252));simp only[Zv] at h;exact h
 have bN:Boxed (((((((w.alloc (.cells #[.slice an g.length J,.slice H ins.length I,.slice z f.length A,.slice M m.length R] 27)).alloc (.cells #[.int .i64 0] 3)).alloc (.cells #[.int .i64 0] 38)).alloc (.map #[] 0)).alloc (.map #[] 0)).alloc (.cells #[.map (some (w.1.size+1+1+1))] 379)).alloc (.cells #[.map (some (w.1.size+1+1+1+1))] 252)) (w.1.size+1+1+1+1+1+1) 252 (.map (some (w.1.size+1+1+1+1))):=by
  have h:=(Boxed.new ((((((w.alloc (.cells #[.slice an g.length J,.slice H ins.length I,.slice z f.length A,.slice M m.length R] 27)).alloc (.cells #[.int .i64 0] 3)).alloc (.cells #[.int .i64 0] 38)).alloc (.map #[] 0)).alloc (.map #[] 0)).alloc (.cells #[.map (some (w.1.size+1+1+1))] 379)) 252 (.map (some (w.1.size+1+1+1+1))));simp only[Zv] at h;exact h
 have bd:Below w.1.size w (((((((w.alloc (.cells #[.slice an g.length J,.slice H ins.length I,.slice z f.length A,.slice M m.length R] 27)).alloc (.cells #[.int .i64 0] 3)).alloc (.cells #[.int .i64 0] 38)).alloc (.map #[] 0)).alloc (.map #[] 0)).alloc (.cells #[.map (some (w.1.size+1+1+1))] 379)).alloc (.cells #[.map (some (w.1.size+1+1+1+1))] 252)):=bq;have cl:(((((((w.alloc (.cells #[.slice an g.length J,.slice H ins.length I,.slice z f.length A,.slice M m.length R] 27)).alloc (.cells #[.int .i64 0] 3)).alloc (.cells #[.int .i64 0] 38)).alloc (.map #[] 0)).alloc (.map #[] 0)).alloc (.cells #[.map (some (w.1.size+1+1+1))] 379)).alloc (.cells #[.map (some (w.1.size+1+1+1+1))] 252)).1.size=w.1.size+7:=by simp
 obtain⟨W0,bs⟩:∃W0,(((((((w.alloc (.cells #[.slice an g.length J,.slice H ins.length I,.slice z f.length A,.slice M m.length R] 27)).alloc (.cells #[.int .i64 0] 3)).alloc (.cells #[.int .i64 0] 38)).alloc (.map #[] 0)).alloc (.map #[] 0)).alloc (.cells #[.map (some (w.1.size+1+1+1))] 379)).alloc (.cells #[.map (some (w.1.size+1+1+1+1))] 252))=W0:=⟨_,rfl⟩;rw[bs] at bP bA bE bM bN bd cl be bf ⊢;clear bs;have BP:=hid bP;have BA:=hid bA;have BE:=hid bE;have BM:=hid bM;have BN:=hid bN;have bh:=hid bd;have cc:=hid bf;clear bP bA bE bM bN bd bf;gi_loopw [19] (fun v wr=>Hid (Zbl W0 (w.1.size+1+1+1) ins.length v wr)) (fun i _=>ins.length-(intOf i).toNat)
 case atStart=>exact⟨0,rfl,Zk _,be,Upon.refl _ _⟩
 clear be;obtain⟨i,rfl,hi,V,q⟩:=hrel.o;clear hrel;have y:=hid q;have ba:=q.size;have hbel:=bh.o.trans (q.below (B:=w.1.size) oq oq);have HBEL:=hid hbel;have O:Boxed wr (w.1.size+1+1+1+1+1) 379 (.map (some (w.1.size+1+1+1))):=(q.block _ oq oq).trans BM.o;have cM:=O.cell;have l5:w.1.size+1+1+1+1+1<wr.1.size:=oq;have l0:w.1.size<wr.1.size:=oq;have C:=(q.block _ oq oq).trans BP.o;unfold Qg at C;simp only at C;obtain⟨⟨x0,x1,x2,x3⟩,xf⟩:=Yy C;have ak:=hid V;obtain⟨L,hM,hL⟩:=V;have HM:=hid hM;have HL:=hid hL;clear q hM hL C;by_cases ab:i<ins.length
 .skip
  obtain⟨bb,oo,rfl,E,F⟩:=HI.o.at ab;have Z:=EB w wr bb _ _ hbel E F;have bu:bb<wr.1.size:=oq;obtain⟨x,hx⟩:=ez (ins[i]);rw[hx] at Z;obtain⟨nm,dh,ph,fa⟩:=x;obtain⟨y0,y1,y2,y3,bw⟩:=Z;simp only at y0 y1 y2 y3;obtain⟨iv,aa⟩:=HL.o nm;have HG:=hid aa;have al:=hid (fun j=>Em HL.o nm j);have bx:(i:Int)<(ins.length:Int):=oq;clear hbel F hx E aa;gi_wp2_with (first|(gi_at_lookup;refine VW Qh _ rfl _ _ rfl (w.1.size+1+1+1) L nm _ rfl rfl (HM.o.below bq) HG.o ?_)|(gi_at_mapUpdate;refine JS Qh _ rfl _ _ _ rfl (w.1.size+1+1+1) L nm _ rfl rfl rfl (HM.o.below bq) ?_;intro arr clock U));refine⟨⟨i+1,by go_num,oq,⟨_,U,al.o _⟩,y.o.trans (YR ((Upon.refl _ _).alloc _) _)⟩,by simp[intOf];omega⟩
 have ah:decide ((i:Int)<(ins.length:Int))=false:=Z0 oq;clear hbel;obtain⟨i1,rfl⟩:=ey i;gi_wp2_with fail;gi_loopw [32] (fun v wr=>Hid (Zbl W0 (w.1.size+1+1+1) f.length v wr)) (fun i _=>f.length-(intOf i).toNat)
 case atStart=>exact⟨0,rfl,Zk _,ak.o,y.o⟩
 clear y HBEL ba O cM l5 l0 x0 x1 x2 x3 xf HM HL ah ab ak;obtain⟨i,rfl,hi,V,q⟩:=hrel.o;clear hrel;have y:=hid q;have ba:=q.size;have hbel:=bh.o.trans (q.below (B:=w.1.size) oq oq);have HBEL:=hid hbel;have O:Boxed wr (w.1.size+1+1+1+1+1) 379 (.map (some (w.1.size+1+1+1))):=(q.block _ oq oq).trans BM.o;have cM:=O.cell;have l5:w.1.size+1+1+1+1+1<wr.1.size:=oq;have l0:w.1.size<wr.1.size:=oq;have C:=(q.block _ oq oq).trans BP.o;unfold Qg at C;simp only at C;obtain⟨⟨x0,x1,x2,x3⟩,xf⟩:=Yy C;have ak:=hid V;obtain⟨L,hM,hL⟩:=V;have HM:=hid hM;have HL:=hid hL;clear q hM hL C;by_cases ab:i<f.length
 .skip
  obtain⟨bb,oo,rfl,E,F⟩:=HF.o.at ab;have Z:=Vs w wr bb _ _ hbel E F;have bu:bb<wr.1.size:=oq;obtain⟨x,hx⟩:=ez (f[i]);rw[hx] at Z;obtain⟨nm,⟨k1,nm1,n1,d1,ac,a1⟩,fa⟩:=x;obtain⟨ad,cap,y0,y1,y2,y3,y4,y5,y6,y7,ck,bw⟩:=Z.cells;obtain⟨iv,aa⟩:=HL.o nm;have HG:=hid aa;have al:=hid (fun j=>Em HL.o nm j);have bx:(i:Int)<(f.length:Int):=oq;clear hbel F hx E aa;gi_wp2_with (first|(gi_at_lookup;refine VW Qh _ rfl _ _ rfl (w.1.size+1+1+1) L nm _ rfl rfl (HM.o.below bq) HG.o ?_)|(gi_at_mapUpdate;refine JS Qh _ rfl _ _ _ rfl (w.1.size+1+1+1) L nm _ rfl rfl rfl (HM.o.below bq) ?_;intro arr clock U));refine⟨⟨i+1,by go_num,oq,⟨_,U,al.o _⟩,y.o.trans (YR ((Upon.refl _ _).alloc _) _)⟩,by simp[intOf];omega⟩
 have ah:decide ((i:Int)<(f.length:Int))=false:=Z0 oq;have bm:=hid (cc.o.upon y.o oq);have ch:=hid (show Qg wr w.1.size ⟨g,ins,f,m⟩ an H z M J I A R from(y.o.block _ oq oq).trans BP.o);have ay:=hid (show Boxed wr (w.1.size+1+1+1+1+1+1) 252 (.map (some (w.1.size+1+1+1+1))) from(y.o.block _ oq oq).trans BN.o);have ax:=hid O;have av:=hid (show Boxed wr (w.1.size+1) 3 (.int .i64 0) from(y.o.block _ oq oq).trans BA.o);have aw:=hid (show Boxed wr (w.1.size+1+1) 38 (.int .i64 0) from(y.o.block _ oq oq).trans BE.o);clear hbel;obtain⟨i2,rfl⟩:=ey i;gi_wp2_with fail;obtain⟨W2,rfl⟩:=ey wr;gi_loopw [45] (fun v wr=>Hid (Zbl W2 (w.1.size+1+1+1+1) g.length v wr)) (fun i _=>g.length-(intOf i).toNat)
 case atStart=>exact⟨0,rfl,Zk _,bm.o,Upon.refl _ _⟩
 clear y O cM x0 x1 x2 x3 xf HM HL ah ab bm;obtain⟨i,rfl,hi,V,q⟩:=hrel.o;clear hrel;have y:=hid q;have cm:=q.size;have hbel:=HBEL.o.trans (q.below (B:=w.1.size) oq oq);have aj:=hid hbel;have O:Boxed wr (w.1.size+1+1+1+1+1+1) 252 (.map (some (w.1.size+1+1+1+1))):=(q.block _ oq oq).trans ay.o;have cM:=O.cell;have l5:w.1.size+1+1+1+1+1+1<wr.1.size:=oq;have l0:w.1.size<wr.1.size:=oq;have C:=(q.block _ oq oq).trans ch.o;unfold Qg at C;simp only at C;obtain⟨⟨x0,x1,x2,x3⟩,xf⟩:=Yy C;have bi:=hid V;obtain⟨L,hM,hL⟩:=V;have HM:=hid hM;have HL:=hid hL;clear q hM hL C;by_cases ab:i<g.length
 .skip
  obtain⟨bb,oo,rfl,E,F⟩:=HN.o.at ab;have Z:=Vk w wr bb _ _ hbel E F;have bu:bb<wr.1.size:=oq;obtain⟨x,hx⟩:=ez (g[i]);rw[hx] at Z;obtain⟨nm,ps,bud,⟨k1,nm1,n1,d1,ac,a1⟩,fa⟩:=x;obtain⟨pa,pc,ad,cap,y0,y1,y2,y3,y4,y5,y6,y7,y8,y9,ck,df,bw⟩:=Z.cells;obtain⟨iv,aa⟩:=HL.o nm;have HG:=hid aa;have al:=hid (fun j=>Em HL.o nm j);have bx:(i:Int)<(g.length:Int):=oq;clear hbel F hx E aa;gi_wp2_with ((gi_at_mapUpdate;refine JS xa _ rfl _ _ _ rfl (w.1.size+1+1+1+1) L nm _ rfl rfl rfl (HM.o.below bq) ?_;intro arr clock U));refine⟨⟨i+1,by go_num,oq,⟨_,U,al.o _⟩,y.o.trans (YR ((Upon.refl _ _).alloc _) _)⟩,by simp[intOf];omega⟩
 have ah:decide ((i:Int)<(g.length:Int))=false:=Z0 oq;have bk:=hid (ak.o.upon y.o oq);have bc:Boxed wr (w.1.size+1) 3 (.int .i64 0):=(y.o.block _ oq oq).trans av.o;have bg:Boxed wr (w.1.size+1+1) 38 (.int .i64 0):=(y.o.block _ oq oq).trans aw.o;have bp:Boxed wr (w.1.size+1+1+1+1+1) 379 (.map (some (w.1.size+1+1+1))):=(y.o.block _ oq oq).trans ax.o;have br:=O;clear hbel;gi_wp2_with (refine⟨trivial,?_⟩;gi_at_call 134;refine(Zu.2 (cd.o _)).mono ?_;rintro e w' ⟨rfl,rfl⟩);have bS:=Boxed.new wr 24 (.slice z f.length A);have T:Below wr.1.size wr (wr.alloc (.cells #[.slice z f.length A] 24)):=(Zg _ _).alloc (Zc _) _;have ca:(wr.alloc (.cells #[.slice z f.length A] 24)).1.size=wr.1.size+1:=by simp
 have bl:=bk.o;have bn:=bi.o;obtain⟨W1,bt⟩:=ez (wr.alloc (.cells #[.slice z f.length A] 24));rw[bt] at bS T ca ⊢;clear bt;have cp:Below w.1.size w W1:=aj.o.trans (T.mono oq);have cx:Boxed W1 (w.1.size+1) 3 (.int .i64 0):=(T.block _ oq).trans bc;have cz:Boxed W1 (w.1.size+1+1) 38 (.int .i64 0):=(T.block _ oq).trans bg;have HX:=hid (show ∀W,Below W1.1.size W1 W->Boxed W (w.1.size+1+1+1+1+1) 379 (.map (some (w.1.size+1+1+1)))/\Boxed W (w.1.size+1+1+1+1+1+1) 252 (.map (some (w.1.size+1+1+1+1)))/\Boxed W (w.1.size+1) 3 (.int .i64 0)/\Boxed W (w.1.size+1+1) 38 (.int .i64 0)/\CI W (w.1.size+1+1+1)/\CI W (w.1.size+1+1+1+1)/\Below w.1.size w W from by
  intro W hW;have h1:Below wr.1.size wr W:=T.trans (hW.mono oq);exact⟨(h1.block _ oq).trans bp,(h1.block _ oq).trans br,(h1.block _ oq).trans bc,(h1.block _ oq).trans bg,bl.below h1,bn.below h1,aj.o.trans (h1.mono oq)⟩)
 have ce:=hid cp;have au:w.1.size<=W1.1.size:=oq;clear br bc bg bp bk bl bn T HM HL ak bi O cM;refine wpIn_rangeFunc_ownH (encs:=fun x:VX w=>#[.agg #[.int .i64 x.e.k,.string x.e.nm,.int .i64 x.e.n,.int .i64 x.e.d,.slice x.ad x.e.args.len x.cap,.int .i64 x.e.a]]) rfl oq (gf:=190) (lb:=#[.pointer (some ⟨wr.1.size,0,none⟩)]) rfl trivial (enters_of func190 kq rfl)
  (Kg (W0:=w) Fence.wide rfl trivial trivial rfl _ wr.1.size f z A HF.o HC.o.1 HC.o.2 W1 oq ce.o bS.cell) (fun h k=>h.trans k) (fun W l o o' hl h hc _=>KC.putObj W l o o' oq h hc) (Zg _ _) (fun _=>rfl)
  (fun pre W=>Below W1.1.size W1 W)
  (fun c pre W=>∃a er,((Boxed W (w.1.size+1) 3 (.int .i64 a)/\Boxed W (w.1.size+1+1) 38 (.int .i64 er))/\Below w.1.size w W)/\c=.ret)
  (ownFrom_below (Zc _) (Zc _))
  (fun c s X Y row hs hg hrw=>by
   obtain⟨a,er,⟨⟨h1,h2⟩,h3⟩,h4⟩:=hs;exact⟨a,er,⟨⟨boxed_own _ _ (fun(_:Unit)=>Value.int .i64 a) () X Y row h1 hg (fun r e=>(hrw r e).2),boxed_own _ _ (fun(_:Unit)=>Value.int .i64 er) () X Y row h2 hg (fun r e=>(hrw r e).2)⟩,ownFrom_below (β:=Unit) (Zc _) au () X Y row h3 hg hrw⟩,h4⟩)
  (Zg _ _)
  (fun x a' W=>∃Bx,W1.1.size<=Bx/\W.1[Bx]?=some (.cells #[.int .i64 x.e.k,.string x.e.nm,.int .i64 x.e.n,.int .i64 x.e.d,.slice x.ad x.e.args.len x.cap,.int .i64 x.e.a] 111 (0,0)) /\
   a'={ tmps:=#[.agg #[.slice an g.length J,.slice H ins.length I,.slice z f.length A,.slice M m.length R],.pointer (some ⟨w.1.size,0,none⟩),.pointer (some ⟨w.1.size+1,0,none⟩),.pointer (some ⟨w.1.size+1+1,0,none⟩),.pointer (some ⟨w.1.size+1+1+1+1+1,0,none⟩),.pointer (some ⟨w.1.size+1+1+1+1+1+1,0,none⟩),undef,u7,undef,u9,undef,u11,.pointer (some ⟨Bx,0,none⟩),undef,.map (some (w.1.size+1+1+1)),.map (some (w.1.size+1+1+1+1)),.pointer (some ⟨w.1.size,1,none⟩),.slice H ins.length I,.int .i64 (ins.length:Int),.int .i64 (i1:Int),.bool false,u21,u22,u23,u24,u25,u26,u27,u28,.pointer (some ⟨w.1.size,2,none⟩),.slice z f.length A,.int .i64 (f.length:Int),.int .i64 (i2:Int),.bool false,u34,u35,u36,u37,u38,u39,u40,u41,.pointer (some ⟨w.1.size,0,none⟩),.slice an g.length J,.int .i64 (g.length:Int),.int .i64 (i:Int),.bool false,u47,u48,u49,u50,u51,u52,u53,u54,u55,.pointer (some ⟨w.1.size,2,none⟩),.slice z f.length A,.func (.func 190) #[] #[.pointer (some ⟨wr.1.size,0,none⟩)],.agg #[.int .i64 x.e.k,.string x.e.nm,.int .i64 x.e.n,.int .i64 x.e.d,.slice x.ad x.e.args.len x.cap,.int .i64 x.e.a],undef,undef,undef,undef,undef,undef,undef,undef,undef],defers:=[] })
  (fun x a' _ X Y row hs hg hrw=>by
   obtain⟨Bx,h1,h2,h3⟩:=hs;refine⟨Bx,h1,(hg.block Bx (Zq.1 h2).1 (fun e=>?_)).trans h2,h3⟩;obtain⟨_,o,ho,hc⟩:=hrw Bx e.symm;rw[h2] at ho;cases ho;cases hc)
  ?assign ?body ?done ?stop
 case assign =>
  rintro l pre x W K G hK;gi_wp2;exact hK _ _ ((KeepsOthers.alloc _ _).from _) ((KC.refl _ W).alloc (Zm au G.size) _) (G.alloc G.size _) ⟨W.1.size,G.size,Yx W _,rfl⟩
 case body =>
  rintro l pre ⟨⟨k1,nm1,n1,d1,ac,a1⟩,cg,bj,de⟩ a' W hl ⟨r,hr⟩ G ⟨Bx,cy,az,rfl⟩ ab;simp only at az;obtain⟨ax,ay,av,aw,ar,U,bv⟩:=HX.o W G;have cM:=ax.cell;have cN:=ay.cell;obtain⟨⟨x0,x1,x2,x3,x4,x5⟩,xf⟩:=Xl az;have bz:=G.size;have cb:=hid (qc (w:=W) (w.1.size+1+1+1) (w.1.size+1+1+1+1) k1 n1 d1 a1 nm1 cg ac.len bj ar U);have HBW:=hid G;clear ar U G;gi_wp2_with (refine⟨trivial,?_⟩;gi_at_call 254;refine(CallsIn.inRound l (Zu.2 cb.o)).mono ?_;rintro e w2 ⟨⟨er,rfl⟩,hb2⟩;have am:Boxed w2 (w.1.size+1) 3 (.int .i64 0):=(hb2.block _ av.lt).trans av;have ap:Boxed w2 (w.1.size+1+1) 38 (.int .i64 0):=(hb2.block _ aw.lt).trans aw;have ct:=am.cell;have cv:=am.frozen;have cu:=ap.cell;have cw:=ap.frozen;have cj:=(hb2.block _ (Zb az)).trans az;obtain⟨⟨v0,v1,v2,v3,v4,v5⟩,vf⟩:=Xl cj;clear x0 x1 x2 x3 x4 x5 xf)
  .exact⟨(show KeepsFrom W1.1.size W w2 from ⟨hb2.size,fun k o _ hk _=>(hb2.block k (Zb hk)).trans hk⟩).trans (((KeepsOthers.setCell _ _ _).trans (KeepsOthers.setCell _ _ _)).from _),a1,er,⟨⟨(am.set _).other oq _,(ap.other oq _).set _⟩,((bv.trans (hb2.mono oq)).setCell (p:=⟨w.1.size+1,0,none⟩) (by simp) _).setCell (p:=⟨w.1.size+1+1,0,none⟩) (by simp;omega) _⟩,rfl⟩
  exact⟨⟨hb2.size,fun k o _ hk _=>(hb2.block k (Zb hk)).trans hk⟩,(KC.refl _ W).of_below hb2 (Zm au bz),HBW.o.trans (hb2.mono bz)⟩
 case done =>
  rintro D zs W hD dg G hK;obtain⟨ax,ay,ae,ag,ar,U,T⟩:=HX.o W G;have cA:=ae.cell;have fA:=ae.frozen;have cE:=ag.cell;have fE:=ag.frozen;gi_wp2;have bo:((W.setCell ⟨w.1.size+1,0,none⟩ (.int .i64 0)).setCell ⟨w.1.size+1+1,0,none⟩ (.int .i64 0)).1[D]?=some (.deferred (some [])):=((KeepsOthers.setCell _ _ _).trans (KeepsOthers.setCell _ _ _)).same D _ hK rfl;refine⟨by simp,.inl ⟨_,_,rfl,run_takeDeferred bo,?_⟩⟩;have am:=(((ae.set (.int .i64 0)).other (show w.1.size+1≠w.1.size+1+1 by omega) (.int .i64 0)).kept (grownBy_putObj' _ D (.deferred none)) (by intro e;injection e with e;omega)).cell;have ap:=(((ag.other (show w.1.size+1+1≠w.1.size+1 by omega) (.int .i64 0)).set (.int .i64 0)).kept (grownBy_putObj' _ D (.deferred none)) (by intro e;injection e with e;omega)).cell;refine⟨.tuple #[.int .i64 0,.int .i64 0],?_,?_,?_⟩
  .simp only[results,results235];go_simp
  .exact⟨0,0,rfl⟩
  exact((T.setCell (p:=⟨w.1.size+1,0,none⟩) (by simp) _).setCell (p:=⟨w.1.size+1+1,0,none⟩) (by simp;omega) _).trans (KC.putObj (n₀:=w.1.size) _ D _ _ oq bo rfl).below
 rintro D c pre W hD cr ⟨a,er,⟨⟨ae,ag⟩,T⟩,rfl⟩ hK;have cA:=ae.cell;have fA:=ae.frozen;have cE:=ag.cell;have fE:=ag.frozen;gi_wp2;refine⟨by simp,.inl ⟨_,_,rfl,run_takeDeferred hK,?_⟩⟩;have am:=(ae.kept (grownBy_putObj' _ D (.deferred none)) (by intro e;injection e with e;omega)).cell;have ap:=(ag.kept (grownBy_putObj' _ D (.deferred none)) (by intro e;injection e with e;omega)).cell;refine⟨.tuple #[.int .i64 a,.int .i64 er],?_,?_,?_⟩
 .simp only[results,results235];go_simp
 .exact⟨a,er,rfl⟩
 exact T.trans (KC.putObj (n₀:=w.1.size) _ D _ _ oq hK rfl).below
