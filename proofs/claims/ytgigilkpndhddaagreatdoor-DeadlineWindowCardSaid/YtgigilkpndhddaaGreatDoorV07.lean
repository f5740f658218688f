/- Parts of the proof. -/
import Derived.Maps.OwnIn
import Derived.Test.YtgigilkpndhddaaGreatDoorV06
set_option linter.all false
set_option maxRecDepth 100000
set_option maxHeartbeats 16000000
namespace Go.Proofs.YtgigilkpndhddaaGreatDoor.syn
open Tryz
open Go.RowKit
def Qu(x:Ending):Prop:=∃a e:Int,x=.returned (.tuple #[.int .i64 a,.int .i64 e])
def CI(w:World)(mb:Nat):Prop:=∃L,YT w mb L∧∀nm,∃i:Int,(Xn nm L).getD (.int .i64 0)=.int .i64 i
theorem CI.below{w w':World}{mb:Nat}(h:CI w mb)(hb:Below w.heap.size w w'):CI w' mb:=by obtain⟨L,f,g⟩:=h;exact⟨L,f.below hb,g⟩
theorem CI.upon{w w':World}{mb r:Nat}(h:CI w mb)(hb:Upon r w w')(f:mb≠r):CI w' mb:=by obtain⟨L,g,j⟩:=h;exact⟨L,g.upon hb f,j⟩
theorem CI.lt{w:World}{mb:Nat}(h:CI w mb):mb<w.heap.size:=by obtain⟨L,f,g⟩:=h;exact f.lt
theorem CI.new(w:World):CI (w.alloc (.map #[] 0)) w.heap.size:=⟨[],YT.new w,fun _=>⟨0,rfl⟩⟩
theorem Ef{L:List (ByteArray × Value)}(h:∀nm,∃i:Int,(Xn nm L).getD (.int .i64 0)=.int .i64 i)(k:ByteArray)(j:Int):∀nm,∃i:Int,(Xn nm (JJ k (.int .i64 j) L)).getD (.int .i64 0)=.int .i64 i:=by
 intro nm;rw[U1];by_cases f:nm=k
 ·exact⟨j,by rw[Z2 f];rfl⟩
 rw[Z1 f];exact h nm
theorem UM{w:World}(mb:Nat)(nm:ByteArray)(h:CI w mb) :
  Calls prog 173 #[.map (some mb),.string nm] w fun x w'=>(∃b:Bool,x=.returned (.bool b))∧CI w' mb∧Upon mb w w'∧w'.heap.size=w.heap.size:=by
 obtain⟨L,q,g⟩:=h;obtain⟨i,hi⟩:=g nm;have m:=hid q;have v:=hid hi;have y:=hid (fun j=>Ef g nm j);have z:=hid (fun j:Int=>(show(Xn nm (JJ nm (.int .i64 j) L)).getD (.int .i64 0)=.int .i64 j by rw[U1,Z2 rfl];rfl));clear q g hi;go_enter func173,ntmps173;go_wp2_with (first|(at_lookup;first|refine Jo Qm _ rfl _ _ rfl mb _ nm _ rfl rfl f (z.out _) ?_|refine Jo Qm _ rfl _ _ rfl mb L nm _ rfl rfl m.out v.out ?_)|(at_mapUpdate;refine XJ Qm _ rfl _ _ _ rfl mb L nm _ rfl rfl rfl m.out ?_;intro arr clock f));go_ret;exact⟨⟨_,rfl⟩,⟨_,f,y.out _⟩,YR (Upon.refl _ _) _,by simp[World.putM]⟩
theorem ZbG{w:World}(mb:Nat)(nm:ByteArray)(h:CI w mb) :
  Calls prog 175 #[.map (some mb),.string nm] w fun x w'=>(∃b:Bool,x=.returned (.bool b))∧w'=w:=by
 obtain⟨L,g,f⟩:=h;obtain⟨i,hi⟩:=f nm;have m:=hid g;have j:=hid hi;clear g f hi;go_enter func175,ntmps175;go_wp2_with (at_lookup;refine Jo Qm _ rfl _ _ rfl mb L nm _ rfl rfl m.out j.out ?_);go_ret;exact⟨⟨_,rfl⟩,rfl⟩
def ZfS(w:World)(mb len:Nat)(v:Value)(wr:World):Prop:=∃i:Nat,v=.int .i64 (i:Int)∧i≤len∧CI wr mb∧Below w.heap.size w wr
def ZfY(W:World)(mb len:Nat)(v:Value)(wr:World):Prop:=∃i:Nat,v=.int .i64 (i:Int)∧i≤len∧CI wr mb∧Upon mb W wr
def ZfU(W:World)(mb len:Nat)(v:Value)(wr:World):Prop:=∃i:Nat,v=.int .i64 (i:Int)∧i≤len∧CI wr mb∧Below W.heap.size W wr
theorem Ee{w:World}{b:Nat}{f g j m q v x y z A:Value}{t:TypeId}(h:w.heap[b]?=some (.cells #[f,g,j,m,q,v,x,y,z,A] t (0,0))) :
  (w.cell? ⟨b,0,none⟩=some f∧w.cell? ⟨b,1,none⟩=some g∧w.cell? ⟨b,2,none⟩=some j∧w.cell? ⟨b,3,none⟩=some m∧w.cell? ⟨b,4,none⟩=some q∧w.cell? ⟨b,5,none⟩=some v∧w.cell? ⟨b,6,none⟩=some x∧w.cell? ⟨b,7,none⟩=some y∧w.cell? ⟨b,8,none⟩=some z∧w.cell? ⟨b,9,none⟩=some A):=by
 refine⟨?_,?_,?_,?_,?_,?_,?_,?_,?_,?_⟩
 all_goals simp[World.cell?,h]
theorem Zcf{w w':World}{e:PE}{f:Option Addr}{cap:Nat}(h:AE w e f cap)(j:∀b o,f=some ⟨b,o,none⟩→NF w e.args b o)(hb:Below w.heap.size w w'):∀b o,f=some ⟨b,o,none⟩→NF w' e.args b o:=by
 intro b o g;rcases h.args with h0|⟨b',o',e',hlt',hac⟩
 ·rw[h0];trivial
 rw[g] at e';injection e' with e';injection e' with e1 e2
 subst e1;subst e2;exact(j b o g).below hb _ _ _ hlt' hac
theorem Zgg{w:World}{base nn c:Nat}{j:Option Addr}{xs:List Value}(h:w.ownsRow base 88 6 (.slice j nn c) nn xs)(m:NmR xs nn){q:Nat}(v:q<nn):∃g,j=some ⟨g,0,none⟩∧g<w.heap.size∧∃(k:Int)(nm:ByteArray)(n d a:Int),
  w.cell? ⟨g,q*6,none⟩=some (.int .i64 k)∧w.cell? ⟨g,q*6+1,none⟩=some (.string nm)∧w.cell? ⟨g,q*6+2,none⟩=some (.int .i64 n)∧w.cell? ⟨g,q*6+3,none⟩=some (.int .i64 d)∧w.cell? ⟨g,q*6+4,none⟩=some (.slice none 0 0)∧w.cell? ⟨g,q*6+5,none⟩=some (.int .i64 a):=by
 obtain⟨g,cap,e,_,f⟩:=h.form oq;injection e with e1 _ e3
 subst e1;subst e3;obtain⟨k,nm,n,d,a,x,y,z,A,C,D⟩:=m.2 q v;exact⟨g,rfl,f,k,nm,n,d,a,(h.cellAt _ oq).trans x,(h.cellAt _ oq).trans y,(h.cellAt _ oq).trans z,(h.cellAt _ oq).trans A,(h.cellAt _ oq).trans C,(h.cellAt _ oq).trans D⟩
theorem yF{w:World}(f:List ND)(ins:List IN)(G:List FL)(X:List OU)(an ai af ao:Option Addr)(cn ci cf co:Nat)(hp:AP w ⟨f,ins,G,X⟩ an ai af ao cn ci cf co)(hz:NZ w f an)(hb:∀x∈f,UG x.body∧x.body.sz≤100) :
  Calls prog 157 #[pv ⟨f,ins,G,X⟩ an ai af ao cn ci cf co] w fun x w'=>Qu x∧Below w.heap.size w w':=by
 have HN:=hid hp.nodes;have HZ:=hid hz;have bf:=hid hb;have cq:f.length≤9223372036854775807:=by have:=hp.caps.1;simp only at this;omega
 clear hp hz hb;unfold pv Qu;simp only;have cp:=fun w=>run_makeMap (P:=prog) 266 w
 go_enter func157,ntmps157;go_wp2;go_loopw [16] (fun v wr=>Hid (ZfS w (w.heap.size+1) f.length v wr)) (fun i _=>f.length-(intOf i).toNat)
 case atStart=>exact⟨0,rfl,Zk _,by simpa using CI.new (w.alloc _),bq⟩
 obtain⟨D,rfl⟩:=ey wr;obtain⟨i,rfl,hi,C,hbel⟩:=hrel.out;clear hrel;have F:=hid C;have HBEL:=hid hbel;have M:=hbel.size;have ce:=C.lt;clear C;by_cases ab:i<f.length
 ·obtain⟨bb,oo,rfl,I,L⟩:=HN.out.at ab;have z:=HZ.out bb oo rfl i ab;have R:=bf.out _ (Zi ab);have cl:=Zd I M;obtain⟨x,hx⟩:=ez (f[i]);rw[hx] at L z R;obtain⟨nm,ps,cj,⟨k1,nm1,n1,d1,br,a1⟩,fa⟩:=x;obtain⟨pa,pc,ad,cap,u0,u1,u2,u3,u4,u5,u6,u7,u8,u9,ar,⟨ct,cu,az⟩,bs⟩:=L.cells;simp only at z R;have aj:=hid ar;have bk:=hid (fun b o (e:ad=some ⟨b,o,none⟩)=>z b o cap (by rw[←e];exact u7));have HB2:=hid R;have bn:=hid az;have y:=fun o=>hbel.cell (p:=⟨bb,o,none⟩) I
  have y0:=(y _).trans u0;have y1:=(y _).trans u1;have y2:=(y _).trans u2;have y3:=(y _).trans u3;have y4:=(y _).trans u4;have y5:=(y _).trans u5;have y6:=(y _).trans u6;have y7:=(y _).trans u7;have y8:=(y _).trans u8;have y9:=(y _).trans u9;have cv:ps.length≤9223372036854775807:=oq;have cm:(i:Int)<(f.length:Int):=oq;have E:=hid (fun(w':World) (hb:Below D.heap.size D w')=>UM (w:=w') (w.heap.size+1) nm (F.out.below hb));clear hbel L z R hx bs I ar az y u0 u1 u2 u3 u4 u5 u6 u7 u8 u9;go_wp2_with (go_at_call 173;refine(E.out _ bq).mono ?_;rintro x w2 ⟨⟨b,rfl⟩,au,ac,ba⟩;have ak:=hid au;have aa:=hid ((by repeat (first|(with_reducible exact Upon.refl _ _)|((with_reducible refine Upon.setAt ?_ ?_ _);(rotate_left;focus (first|exact Or.inl rfl|omega|(simp;done)|(simp;omega))))|(with_reducible refine Upon.alloc ?_ _)|(with_reducible refine Upon.drewN ?_ _)|(with_reducible refine Upon.drew ?_)|(with_reducible refine Upon.trans ?_ ac))):Upon (w.heap.size+1) D w2);have z:w2.heap.size=D.heap.size+1:=(by rw[ba];simp);have ag:=(ac.block D.heap.size (by simp) oq).trans (Yw D _);have aq:=hid ag;obtain⟨z0,z1,z2,z3,z4,z5,z6,z7,z8,z9⟩:=Ee ag;clear au ac ag ba;cases b)
  ·obtain⟨W3,H⟩:=ez (w2.alloc (.map #[] 0));go_wp2
   try rw[H]
   have U:CI W3 (D.heap.size+1):=by rw[←H,←z];exact CI.new w2
   have hb3:Below w2.heap.size w2 W3:=by rw[←H];exact(Zg _ _).alloc (Zc _) _
   have bg:=hid (ak.out.below hb3);have bd:=(hb3.block D.heap.size oq).trans aq.out;have bo:=hid bd;have J:Below w.heap.size w W3:=(HBEL.out.trans (aa.out.below M oq)).trans (hb3.mono oq);have bj:=hid J;have cw:W3.heap.size=D.heap.size+1+1:=by rw[←H];simp[z]
   have al:=hid U;clear z0 z2 z3 z4 z5 z6 z7 z8 z9 z1 y0 y1 y2 y3 y4 y5 y6 y7 y8 y9 hb3 bd J aq z H U aa ak F E;go_loopw [30] (fun v wr2=>Hid (ZfY W3 (D.heap.size+1) ps.length v wr2)) (fun i _=>ps.length-(intOf i).toNat)
   case atStart=>exact⟨0,rfl,Zk _,al.out,Upon.refl _ _⟩
   obtain⟨j,rfl,hj,C,O⟩:=hrel.out;clear hrel;have F:=hid C;have ap:=hid O;have ah:=(O.block D.heap.size oq oq).trans bo.out;obtain⟨z0,z1,z2,z3,z4,z5,z6,z7,z8,z9⟩:=Ee ah;have bp:=hid ah;have m:=bj.out.trans (O.below oq oq);have Z:=hid m;have ch:=O.size;have cg:=C.lt;clear ah C O;by_cases bv:j<ps.length
   ·obtain⟨b3,o3,rfl,cb,bc⟩:=(bn.out.below QU m).at bv;have v0:=bc.1;rw[Z8] at v0;have bu:(j:Int)<(ps.length:Int):=oq;have E:=hid (UM (D.heap.size+1) ps[j] F.out);obtain⟨pn,ay⟩:=ez (ps[j]);rw[ay] at v0 E;clear bc m ay;go_wp2_with (go_at_call 173;refine E.out.mono ?_;rintro x w5 ⟨⟨b,rfl⟩,av,ae,bz⟩;have bh:=hid av;have am:=hid ae;have be:=(ae.block D.heap.size oq oq).trans bp.out;obtain⟨t0,t1,t2,t3,t4,t5,t6,t7,t8,t9⟩:=Ee be;clear av ae be;cases b)
    ·refine⟨⟨j+1,by go_num,oq,bh.out,ap.out.trans am.out⟩,by simp[intOf];omega⟩
    go_ret2;exact⟨⟨_,_,rfl⟩,Z.out.trans (am.out.below oq oq)⟩
   have bu:decide ((j:Int)<(ps.length:Int))=false:=ZZ oq;have Y:=hid (zj (aj.out.below (m.mono oq)) (fun b o e=>Zcf aj.out bk.out (m.mono oq) b o e) HB2.out.1 HB2.out.2);unfold ev at Y;simp only at Y;clear m;go_wp2_with (go_at_call 174;refine Y.out.mono ?_;rintro x w5 ⟨⟨ln,nn,ck,xs,rfl,ax,aw,cr⟩,hb5⟩;have bm:=hid ax;have bl:=hid aw;have HB5:=hid hb5;have bz:=hb5.size;clear ax aw hb5);go_loopw [44] (fun v wr3=>Hid (ZfU w5 (D.heap.size+1) nn v wr3)) (fun i _=>nn-(intOf i).toNat)
   case atStart=>exact⟨0,rfl,Zk _,F.out.below HB5.out,Zg _ _⟩
   obtain⟨w4,rfl⟩:=ey wr;obtain⟨q,rfl,hq,V,hb6⟩:=hrel.out;clear hrel;have T:=hid V;have HB6:=hid hb6;have cx:=hb6.size;clear V;by_cases bx:q<nn
   ·obtain⟨g,e1,bt,nk,ca,n2,d2,a2,x0,x1,x2,x3,x4,x5⟩:=Zgg bm.out bl.out bx;have A:=fun o=>hb6.cell (p:=⟨g,o,none⟩) bt
    have v0:=(A _).trans x0;have v1:=(A _).trans x1;have v2:=(A _).trans x2;have v3:=(A _).trans x3;have v4:=(A _).trans x4;have v5:=(A _).trans x5;have bw:(q:Int)<(nn:Int):=oq;have cc:g<w4.heap.size:=oq;subst e1;have bi:=hid (fun(w':World) (hb:Below w4.heap.size w4 w')=>ZbG (w:=w') (D.heap.size+1) ca (T.out.below hb));clear hb6 A x0 x1 x2 x3 x4 x5;go_wp2_with (go_at_call 175;refine(bi.out _ bq).mono ?_;rintro x w7 ⟨⟨b,rfl⟩,rfl⟩;cases b)
    ·go_ret2;exact⟨⟨_,_,rfl⟩,Z.out.trans ((HB5.out.trans ((bq:Below w5.heap.size w5 _).mono oq)).mono oq)⟩
    refine⟨⟨q+1,by go_num,oq,T.out.below bq,bq⟩,by simp[intOf];omega⟩
   have bw:decide ((q:Int)<(nn:Int))=false:=ZZ oq;clear hb6;go_wp2;refine⟨⟨i+1,by go_num,oq,?_,Z.out.trans ((HB5.out.trans (HB6.out.mono oq)).mono oq)⟩,by simp[intOf];omega⟩;exact((bg.out.upon ap.out oq).below HB5.out).below (HB6.out.mono oq)
  go_ret2;exact⟨⟨_,_,rfl⟩,HBEL.out.trans (aa.out.below M oq)⟩
 have cd:decide ((i:Int)<(f.length:Int))=false:=ZZ oq;clear hbel;go_wp2;go_ret2;exact⟨⟨_,_,rfl⟩,HBEL.out⟩
theorem Zf9{w:World}{b:Nat}{g j m q v x y f:Value}{t:TypeId}(h:w.heap[b]?=some (.cells #[g,j,m,q,v,x,y,f] t (0,0))):w.cell? ⟨b,7,none⟩=some f:=by simp[World.cell?,h]
def zv(w:World)(mb:Nat)(len:Nat)(p:PG)(an ai af ao:Option Addr)(cn ci cf co:Nat)(v:Value)(wr:World):Prop :=
 ∃i:Nat,v=.int .i64 (i:Int)∧i≤len∧CI wr mb∧Qk wr w.heap.size p an ai af ao cn ci cf co∧Below w.heap.size w wr∧w.heap.size<mb
theorem zv.next{w wr:World}{mb i len:Nat}{p:PG}{an q m v:Option Addr}{z y x A:Nat}(hi:i<len)(g:Qk wr w.heap.size p an q m v z y x A)(hb:Below w.heap.size w wr)(D:w.heap.size<mb)
  {w2 w3:World}(j:Below wr.heap.size wr w2)(C:Upon mb w2 w3)(E:CI w3 mb):zv w mb len p an q m v z y x A (.int .i64 ((i:Int)+1)) w3:=by
 have f:=Zb g;refine⟨i+1,by simp,hi,E,?_,?_,D⟩
 ·exact(C.block _ (Zd f j.size) oq).trans ((j.block _ f).trans g)
 exact(hb.trans (j.mono hb.size)).trans (C.below (Zm hb.size j.size) (Nat.le_of_lt D))
theorem G9{w:World}(q:List ND)(ins:List IN)(f:List FL)(C:List OU)(an ai af ao:Option Addr)(cn ci cf co:Nat)(hp:AP w ⟨q,ins,f,C⟩ an ai af ao cn ci cf co) :
  Calls prog 158 #[pv ⟨q,ins,f,C⟩ an ai af ao cn ci cf co] w fun x w'=>Qu x∧Below w.heap.size w w':=by
 have HI:=hid hp.ins;have HF:=hid hp.flows;have J:=hp.caps;simp only at J;have aj:ins.length≤9223372036854775807:=oq;have ah:f.length≤9223372036854775807:=oq;clear hp J;unfold pv Qu;simp only;have ak:=fun w=>run_makeMap (P:=prog) 266 w
 go_enter func158,ntmps158;go_wp2;go_loopw [13] (fun v wr=>Hid (zv w (w.heap.size+1) ins.length ⟨q,ins,f,C⟩ an ai af ao cn ci cf co v wr)) (fun i _=>ins.length-(intOf i).toNat)
 case atStart=>exact⟨0,rfl,Zk _,by simpa using CI.new (w.alloc _),(Za _ _ _ (by simp)).trans (Yw w _),bq,oq⟩
 obtain⟨i,rfl,hi,z,j,hbel,_⟩:=hrel.out;clear hrel;have F:=hid z;have G:=hid j;have HBEL:=hid hbel;have m:=hbel.size;have M:=z.lt;have O:=Zb j;unfold Qk at j;simp only at j;obtain⟨⟨x0,x1,x2,x3⟩,xf⟩:=Yx j;clear j z;by_cases E:i<ins.length
 ·obtain⟨bb,oo,rfl,g,y⟩:=HI.out.at E;have D:=Et w wr bb _ _ hbel g y;have ac:=Zd g m;have R:=hid (fun(X:ByteArray) (w':World) (hb:Below wr.heap.size wr w')=>UM (w:=w') (w.heap.size+1) X (F.out.below hb));have U:=hid (fun(w2 w3:World)=>zv.next (w:=w) (wr:=wr) (w2:=w2) (w3:=w3) E G.out HBEL.out (show w.heap.size<w.heap.size+1 by omega));obtain⟨x,Y⟩:=ez (ins[i]);rw[Y] at D;obtain⟨X,al,ph,fa⟩:=x;obtain⟨y0,y1,y2,y3,V⟩:=D;simp only at y0 y1 y2 y3;have ae:(i:Int)<(ins.length:Int):=oq;clear hbel y Y V g;go_wp2_with (go_at_call 173;refine(R.out X _ bq).mono ?_;rintro x w3 ⟨⟨b,rfl⟩,I,A,ag⟩;have T:=hid I;have H:=hid A;have Z:=(A.block wr.heap.size (by simp) oq).trans (Yw wr _);obtain⟨⟨z0,z1,z2,z3⟩,zf⟩:=Yx Z;clear I A Z;cases b)
  ·refine⟨U.out _ w3 bq H.out T.out,by simp[intOf];omega⟩
  go_ret2;exact⟨⟨_,_,rfl⟩,HBEL.out.trans (((by repeat (first|(with_reducible exact Upon.refl _ _)|((with_reducible refine Upon.setAt ?_ ?_ _);(rotate_left;focus (first|exact Or.inl rfl|omega|(simp;done)|(simp;omega))))|(with_reducible refine Upon.alloc ?_ _)|(with_reducible refine Upon.drewN ?_ _)|(with_reducible refine Upon.drew ?_)|(with_reducible refine Upon.trans ?_ H.out))):Upon (w.heap.size+1) wr _).below m oq)⟩
 have L:decide ((i:Int)<(ins.length:Int))=false:=ZZ oq;clear hbel;go_wp2;go_loopw [27] (fun v wr=>Hid (zv w (w.heap.size+1) f.length ⟨q,ins,f,C⟩ an ai af ao cn ci cf co v wr)) (fun i _=>f.length-(intOf i).toNat)
 case atStart=>exact⟨0,rfl,Zk _,F.out,G.out,HBEL.out,oq⟩
 clear G HBEL O m M x0 x1 x2 x3 xf F L E;obtain⟨i,rfl,hi,z,j,hbel,_⟩:=hrel.out;clear hrel;have F:=hid z;have G:=hid j;have HBEL:=hid hbel;have m:=hbel.size;have M:=z.lt;have O:=Zb j;clear j z;by_cases E:i<f.length
 ·obtain⟨bb,oo,rfl,g,y⟩:=HF.out.at E;have D:=Vs w wr bb _ _ hbel g y;have ac:=Zd g m;have R:=hid (fun(X:ByteArray) (w':World) (hb:Below wr.heap.size wr w')=>UM (w:=w') (w.heap.size+1) X (F.out.below hb));have U:=hid (fun(w2 w3:World)=>zv.next (w:=w) (wr:=wr) (w2:=w2) (w3:=w3) E G.out HBEL.out (show w.heap.size<w.heap.size+1 by omega));obtain⟨x,Y⟩:=ez (f[i]);rw[Y] at D;obtain⟨X,⟨k1,nm1,n1,d1,aa,a1⟩,fa⟩:=x;obtain⟨ad,cap,y0,y1,y2,y3,y4,y5,y6,y7,ab,V⟩:=D.cells;have ae:(i:Int)<(f.length:Int):=oq;clear hbel D y Y V g ab;go_wp2_with (go_at_call 173;refine(R.out X _ bq).mono ?_;rintro x w3 ⟨⟨b,rfl⟩,I,A,ag⟩;have T:=hid I;have H:=hid A;have Z:=(A.block wr.heap.size (by simp) oq).trans (Yw wr _);have z7:=Zf9 Z;clear I A Z;cases b)
  ·refine⟨U.out _ w3 bq H.out T.out,by simp[intOf];omega⟩
  go_ret2;exact⟨⟨_,_,rfl⟩,HBEL.out.trans (((by repeat (first|(with_reducible exact Upon.refl _ _)|((with_reducible refine Upon.setAt ?_ ?_ _);(rotate_left;focus (first|exact Or.inl rfl|omega|(simp;done)|(simp;omega))))|(with_reducible refine Upon.alloc ?_ _)|(with_reducible refine Upon.drewN ?_ _)|(with_reducible refine Upon.drew ?_)|(with_reducible refine Upon.trans ?_ H.out))):Upon (w.heap.size+1) wr _).below m oq)⟩
 have L:decide ((i:Int)<(f.length:Int))=false:=ZZ oq;clear hbel;go_wp2;go_ret2;exact⟨⟨_,_,rfl⟩,HBEL.out⟩
def Zes(w:World)(mb mb2:Nat)(len:Nat)(p:PG)(an ai af ao:Option Addr)(cn ci cf co:Nat)(v:Value)(wr:World):Prop :=
 ∃i:Nat,v=.int .i64 (i:Int)∧i≤len∧CI wr mb∧CI wr mb2∧Qk wr w.heap.size p an ai af ao cn ci cf co∧Below w.heap.size w wr
theorem G8{w:World}(z:List ND)(ins:List IN)(f:List FL)(g:List OU)(an ai af ao:Option Addr)(cn ci cf co:Nat)(hp:AP w ⟨z,ins,f,g⟩ an ai af ao cn ci cf co) :
  Calls prog 160 #[pv ⟨z,ins,f,g⟩ an ai af ao cn ci cf co] w fun x w'=>Qu x∧Below w.heap.size w w':=by
 have HO:=hid hp.outs;have HF:=hid hp.flows;have O:=hp.caps;simp only at O;have aq:g.length≤9223372036854775807:=oq;have am:f.length≤9223372036854775807:=oq;clear hp O;unfold pv Qu;simp only;have ap:=fun w=>run_makeMap (P:=prog) 266 w
 go_enter func160,ntmps160;go_wp2;go_loopw [15] (fun v wr=>Hid (Zes w (w.heap.size+1) (w.heap.size+1+1) f.length ⟨z,ins,f,g⟩ an ai af ao cn ci cf co v wr)) (fun i _=>f.length-(intOf i).toNat)
 case atStart=>exact⟨0,rfl,Zk _,by simpa using (CI.new (w.alloc _)).below ((Zg _ _).alloc (Zc _) _),by simpa using (CI.new ((w.alloc _).alloc _)),(Za _ _ _ (by simp;omega)).trans ((Za _ _ _ (by simp)).trans (Yw w _)),bq⟩
 obtain⟨wo,rfl⟩:=ey wr;obtain⟨i,rfl,hi,F,D,q,hbel⟩:=hrel.out;clear hrel;have H:=hid q;have HBEL:=hid hbel;have A:=hid D;have y:=hbel.size;have T:=D.lt;have E:=Zb q;unfold Qk at q;simp only at q;obtain⟨⟨x0,x1,x2,x3⟩,xf⟩:=Yx q;clear q D;by_cases M:i<f.length
 ·obtain⟨bb,oo,rfl,m,C⟩:=HF.out.at M;have G:=Vs w wo bb _ _ hbel m C;have aj:=Zd m y;obtain⟨x,hx⟩:=ez (f[i]);rw[hx] at G;obtain⟨X,⟨k1,nm1,n1,d1,ag,a1⟩,fa⟩:=x;obtain⟨ad,cap,y0,y1,y2,y3,y4,y5,y6,y7,ah,U⟩:=G.cells;obtain⟨L,hM,hL⟩:=F;obtain⟨iv,aa⟩:=hL X;have HM:=hid hM;have HG:=hid aa;have ae:=hid (fun j=>Ef hL X j);have ak:(i:Int)<(f.length:Int):=oq;clear hbel G C hx U m ah hM hL aa;go_wp2_with (first|(at_lookup;refine Jo Qm _ rfl _ _ rfl (w.heap.size+1) L X _ rfl rfl (HM.out.below bq) HG.out ?_)|(at_mapUpdate;refine XJ Qm _ rfl _ _ _ rfl (w.heap.size+1) L X _ rfl rfl rfl (HM.out.below bq) ?_;intro arr clock al));refine⟨⟨i+1,by go_num,oq,⟨_,al,ae.out _⟩,(A.out.below bq).upon (YR (Upon.refl _ _) _) oq,?_,?_⟩,by simp[intOf];omega⟩
  ·exact((YR (Upon.refl (w.heap.size+1) _) _).block w.heap.size (by simp;omega) oq).trans ((Za _ _ _ E).trans H.out)
  exact QJ bq oq _
 have R:decide ((i:Int)<(f.length:Int))=false:=ZZ oq;have I:=hid F;clear hbel F;go_wp2;go_loopw [28] (fun v wr=>Hid (Zes w (w.heap.size+1) (w.heap.size+1+1) g.length ⟨z,ins,f,g⟩ an ai af ao cn ci cf co v wr)) (fun i _=>g.length-(intOf i).toNat)
 case atStart=>exact⟨0,rfl,Zk _,I.out,A.out,H.out,HBEL.out⟩
 clear H HBEL E y T x0 x1 x2 x3 xf I A R M;obtain⟨wp,rfl⟩:=ey wr;obtain⟨i,rfl,hi,F,D,q,hbel⟩:=hrel.out;clear hrel;have I:=hid F;have A:=hid D;have H:=hid q;have HBEL:=hid hbel;have y:=hbel.size;have T:=D.lt;have E:=Zb q;clear q F D;by_cases M:i<g.length
 ·obtain⟨bb,oo,rfl,m,C⟩:=HO.out.at M;have G:=qX w wp bb _ _ hbel m C;have aj:=Zd m y;obtain⟨x,hx⟩:=ez (g[i]);rw[hx] at G;obtain⟨X,fl,dl,fa⟩:=x;obtain⟨y0,y1,y2,y3,U⟩:=G;simp only at y0 y1 y2 y3;have ak:(i:Int)<(g.length:Int):=oq;have ab:=hid (fun(w':World) (hb:Below wp.heap.size wp w')=>UM (w:=w') (w.heap.size+1+1) X (A.out.below hb));clear hbel C hx U m;go_wp2_with (first|(go_at_call 173;refine(ab.out _ bq).mono ?_;rintro x w3 ⟨⟨b,rfl⟩,Z,V,ar⟩;have ac:=hid Z;have J:=hid ((by repeat (first|(with_reducible exact Upon.refl _ _)|((with_reducible refine Upon.setAt ?_ ?_ _);(rotate_left;focus (first|exact Or.inl rfl|omega|(simp;done)|(simp;omega))))|(with_reducible refine Upon.alloc ?_ _)|(with_reducible refine Upon.drewN ?_ _)|(with_reducible refine Upon.drew ?_)|(with_reducible refine Upon.trans ?_ V))):Upon (w.heap.size+1+1) wp w3);have nb:=(V.block wp.heap.size (by simp) oq).trans (Yw wp _);obtain⟨⟨z0,z1,z2,z3⟩,zf⟩:=Yx nb;clear Z V nb;have Y:=hid (I.out.upon J.out oq);cases b)|(go_at_call 175;refine(ZbG _ _ Y.out).mono ?_;rintro x w4 ⟨⟨b2,rfl⟩,rfl⟩;cases b2))
  all_goals first|(go_ret2;exact⟨⟨_,_,rfl⟩,HBEL.out.trans (J.out.below y oq)⟩)|(refine⟨⟨i+1,by go_num,oq,Y.out,ac.out,(J.out.block _ E oq).trans H.out,HBEL.out.trans (J.out.below y oq)⟩,by simp[intOf];omega⟩)
 have R:decide ((i:Int)<(g.length:Int))=false:=ZZ oq;clear hbel;go_wp2;go_ret2;exact⟨⟨_,_,rfl⟩,HBEL.out⟩
open Go.RowKit Go.Shelf
attribute [local go_sem] ZT
theorem VU{F:Fence}{q:Nat}{T K E:TypeId}{z:Value}(M:X8 T K E z)(w:World){ops:Array Oper}{rest:List Oper}{o:Oper}{a:Act}{Q:Exit→Act→World→Prop}
  (y:o.guard=none)(m x:Operand)(g:o.op=Op.lookup T m x false)(mb:Nat)(L:List (ByteArray × Value))(k:ByteArray)(v:Value)
  (A:a.eval m=.map (some mb))(D:a.eval x=.string k)(h:YT w mb L)(C:(Xn k L).getD z=v)
  (hK:wpListIn F q prog ops Q rest (a.put o.dst v) w) :
  wpListIn F q prog ops Q (o::rest) a w:=by
 refine wpListIn_plain y fun K' hK'=>?_
 have f:=Qf M h k false;rw[C,Z1 (by decide)] at f;unfold Oper.wpIn;refine⟨by simp[Oper.about,g],?_⟩;rw[Oper.semAt_plain F _ _ (by rw[g];intro c j;cases j)];simp[execOp,g,A,D,f,Result.andThen];exact hK' _ _ hK
theorem JU{F:Fence}{q:Nat}{T K E:TypeId}{z:Value}(M:X8 T K E z)(w:World){ops:Array Oper}{rest:List Oper}{o:Oper}{a:Act}{Q:Exit→Act→World→Prop}
  (A:o.guard=none)(m x v:Operand)(f:o.op=Op.mapUpdate T m x v)(mb:Nat)(L:List (ByteArray × Value))(k:ByteArray)(u:Value)
  (C:a.eval m=.map (some mb))(G:a.eval x=.string k)(D:a.eval v=u)(h:YT w mb L)
  (hK:∀arr clock,YT (World.putM w mb (.map arr clock)) mb (JJ k u L)→wpListIn F q prog ops Q rest (a.put o.dst undef) (World.putM w mb (.map arr clock))) :
  wpListIn F q prog ops Q (o::rest) a w:=by
 refine wpListIn_plain A fun K' hK'=>?_
 obtain⟨arr,clock,g,y⟩:=EC M h k u;unfold Oper.wpIn;refine⟨by simp[Oper.about,f],?_⟩;rw[Oper.semAt_plain F _ _ (by rw[f];intro c j;cases j)];simp[execOp,f,C,G,D,g,Result.andThen];exact hK' _ _ (hK arr clock y)
theorem xR{w:World}(mb f:Nat)(k n d a:Int)(nm:ByteArray)(D:Option Addr)(len cap:Nat)(h:CI w mb)(E:CI w f) :
  Calls prog 176 #[.agg #[.int .i64 k,.string nm,.int .i64 n,.int .i64 d,.slice D len cap,.int .i64 a],.map (some mb),.map (some f)] w fun x w'=>(∃er:Int,x=.returned (.int .i64 er))∧Below w.heap.size w w':=by
 have C:=hid (fun(w':World) (hb:Below w.heap.size w w')=>ZbG (w:=w') mb nm (h.below hb));obtain⟨L,z,j⟩:=E;have y:=hid z;clear h z;by_cases m:k=1
 ·subst m;clear j;go_enter func176,ntmps176;go_wp2_with (go_at_call 175;refine(C.out _ bq).mono ?_;rintro x G ⟨⟨b,rfl⟩,rfl⟩;cases b)
  all_goals (go_ret;exact⟨⟨_,rfl⟩,bq⟩)
 have F:(k == 1)=false:=ZY.2 m;by_cases g:k=2
 ·subst g;obtain⟨i,hi⟩:=j nm
  cases hg:Xn nm L with
  | none =>
   have q:=hid hg;clear m j hi hg;go_enter func176,ntmps176;go_wp2_with (at_lookup;refine Xs yY _ rfl _ _ rfl f L nm rfl rfl (y.out.below bq) q.out ?_);go_ret;exact⟨⟨_,rfl⟩,bq⟩
  | some v =>
   rw[hg] at hi;have hi:v=.int .i64 i:=hi;subst hi;have q:=hid hg;clear m j hg;go_enter func176,ntmps176;go_wp2_with (at_lookup;refine X5 yY _ rfl _ _ rfl f L nm _ rfl rfl (y.out.below bq) q.out ?_)
   all_goals (go_ret;exact⟨⟨_,rfl⟩,bq⟩)
 have A:(k == 2)=false:=ZY.2 g;clear m g j;go_enter func176,ntmps176;go_wp2;go_ret;exact⟨⟨0,rfl⟩,bq⟩
def ZaV(W0:World)(mb len:Nat)(v:Value)(wr:World):Prop:=∃i:Nat,v=.int .i64 (i:Int)∧i≤len∧CI wr mb∧Upon mb W0 wr
theorem yC{w:World}(g:List ND)(ins:List IN)(f:List FL)(m:List OU)(an H z M:Option Addr)(J I A R:Nat)(hp:AP w ⟨g,ins,f,m⟩ an H z M J I A R) :
  Calls prog 159 #[pv ⟨g,ins,f,m⟩ an H z M J I A R] w fun x w'=>Qu x∧Below w.heap.size w w':=by
 have HI:=hid hp.ins;have HF:=hid hp.flows;have HN:=hid hp.nodes;have aq:=hp.caps;simp only at aq;have dc:ins.length≤9223372036854775807:=oq;have db:f.length≤9223372036854775807:=oq;have de:g.length≤9223372036854775807:=oq;have HC:=hid aq.2.2.1;clear hp aq;unfold pv Qu;simp only;have dd:=fun w=>run_makeMap (P:=prog) 266 w
 have cq:=fun w=>run_makeMap (P:=prog) 186 w
 have cd:=hid (fun w=>Qr (w:=w) z f.length A);refine(Zt (n:=6)).1 ?_;refine callsIn_of_wp_marks func159 rfl trivial ?_ rfl;simp only[ntmps159,ZI,Zp,Zw,Nat.reduceAdd,Nat.reduceSub,ZF,ZE,ZL,ZJ,ZM,ZC];gi_wp2_with fail;have bP:Qk (((((((w.alloc (.cells #[.slice an g.length J,.slice H ins.length I,.slice z f.length A,.slice M m.length R] 27)).alloc (.cells #[.int .i64 0] 3)).alloc (.cells #[.int .i64 0] 38)).alloc (.map #[] 0)).alloc (.map #[] 0)).alloc (.cells #[.map (some (w.heap.size+1+1+1))] 266)).alloc (.cells #[.map (some (w.heap.size+1+1+1+1))] 186)) w.heap.size ⟨g,ins,f,m⟩ an H z M J I A R:=((Za _ _ _ oq).trans ((Za _ _ _ oq).trans ((Za _ _ _ oq).trans ((Za _ _ _ oq).trans ((Za _ _ _ oq).trans ((Za _ _ _ oq).trans (Yw w _)))))));have bA:Boxed (((((((w.alloc (.cells #[.slice an g.length J,.slice H ins.length I,.slice z f.length A,.slice M m.length R] 27)).alloc (.cells #[.int .i64 0] 3)).alloc (.cells #[.int .i64 0] 38)).alloc (.map #[] 0)).alloc (.map #[] 0)).alloc (.cells #[.map (some (w.heap.size+1+1+1))] 266)).alloc (.cells #[.map (some (w.heap.size+1+1+1+1))] 186)) (w.heap.size+1) 3 (.int .i64 0):=by
  have h:=((((((Boxed.new (w.alloc (.cells #[.slice an g.length J,.slice H ins.length I,.slice z f.length A,.slice M m.length R] 27)) 3 (.int .i64 0)).alloc (.cells #[.int .i64 0] 38)).alloc (.map #[] 0)).alloc (.map #[] 0)).alloc (.cells #[.map (some (w.heap.size+1+1+1))] 266)).alloc (.cells #[.map (some (w.heap.size+1+1+1+1))] 186));simp only[Zu] at h;exact h
 have bE:Boxed (((((((w.alloc (.cells #[.slice an g.length J,.slice H ins.length I,.slice z f.length A,.slice M m.length R] 27)).alloc (.cells #[.int .i64 0] 3)).alloc (.cells #[.int .i64 0] 38)).alloc (.map #[] 0)).alloc (.map #[] 0)).alloc (.cells #[.map (some (w.heap.size+1+1+1))] 266)).alloc (.cells #[.map (some (w.heap.size+1+1+1+1))] 186)) (w.heap.size+1+1) 38 (.int .i64 0):=by
  have h:=(((((Boxed.new ((w.alloc (.cells #[.slice an g.length J,.slice H ins.length I,.slice z f.length A,.slice M m.length R] 27)).alloc (.cells #[.int .i64 0] 3)) 38 (.int .i64 0)).alloc (.map #[] 0)).alloc (.map #[] 0)).alloc (.cells #[.map (some (w.heap.size+1+1+1))] 266)).alloc (.cells #[.map (some (w.heap.size+1+1+1+1))] 186));simp only[Zu] at h;exact h
 have be:CI (((((((w.alloc (.cells #[.slice an g.length J,.slice H ins.length I,.slice z f.length A,.slice M m.length R] 27)).alloc (.cells #[.int .i64 0] 3)).alloc (.cells #[.int .i64 0] 38)).alloc (.map #[] 0)).alloc (.map #[] 0)).alloc (.cells #[.map (some (w.heap.size+1+1+1))] 266)).alloc (.cells #[.map (some (w.heap.size+1+1+1+1))] 186)) (w.heap.size+1+1+1):=by
  have h:=(CI.new (((w.alloc (.cells #[.slice an g.length J,.slice H ins.length I,.slice z f.length A,.slice M m.length R] 27)).alloc (.cells #[.int .i64 0] 3)).alloc (.cells #[.int .i64 0] 38))).below ((((Zg _ _).alloc (Zc _) (.map #[] 0)).alloc oq (.cells #[.map (some (w.heap.size+1+1+1))] 266)).alloc oq (.cells #[.map (some (w.heap.size+1+1+1+1))] 186));simp only[Zu] at h;exact h
 have bf:CI (((((((w.alloc (.cells #[.slice an g.length J,.slice H ins.length I,.slice z f.length A,.slice M m.length R] 27)).alloc (.cells #[.int .i64 0] 3)).alloc (.cells #[.int .i64 0] 38)).alloc (.map #[] 0)).alloc (.map #[] 0)).alloc (.cells #[.map (some (w.heap.size+1+1+1))] 266)).alloc (.cells #[.map (some (w.heap.size+1+1+1+1))] 186)) (w.heap.size+1+1+1+1):=by
  have h:=(CI.new ((((w.alloc (.cells #[.slice an g.length J,.slice H ins.length I,.slice z f.length A,.slice M m.length R] 27)).alloc (.cells #[.int .i64 0] 3)).alloc (.cells #[.int .i64 0] 38)).alloc (.map #[] 0))).below (((Zg _ _).alloc (Zc _) (.cells #[.map (some (w.heap.size+1+1+1))] 266)).alloc oq (.cells #[.map (some (w.heap.size+1+1+1+1))] 186));simp only[Zu] at h;exact h
 have bM:Boxed (((((((w.alloc (.cells #[.slice an g.length J,.slice H ins.length I,.slice z f.length A,.slice M m.length R] 27)).alloc (.cells #[.int .i64 0] 3)).alloc (.cells #[.int .i64 0] 38)).alloc (.map #[] 0)).alloc (.map #[] 0)).alloc (.cells #[.map (some (w.heap.size+1+1+1))] 266)).alloc (.cells #[.map (some (w.heap.size+1+1+1+1))] 186)) (w.heap.size+1+1+1+1+1) 266 (.map (some (w.heap.size+1+1+1))):=by
  have h:=((Boxed.new (((((w.alloc (.cells #[.slice an g.length J,.slice H ins.length I,.slice z f.length A,.slice M m.length R] 27)).alloc (.cells #[.int .i64 0] 3)).alloc (.cells #[.int .i64 0] 38)).alloc (.map #[] 0)).alloc (.map #[] 0)) 266 (.map (some (w.heap.size+1+1+1)))).alloc (.cells #[.map (some (w.heap.size+1+1+1+1))] 186));simp only[Zu] at h;exact h
 have bN:Boxed (((((((w.alloc (.cells #[.slice an g.length J,.slice H ins.length I,.slice z f.length A,.slice M m.length R] 27)).alloc (.cells #[.int .i64 0] 3)).alloc (.cells #[.int .i64 0] 38)).alloc (.map #[] 0)).alloc (.map #[] 0)).alloc (.cells #[.map (some (w.heap.size+1+1+1))] 266)).alloc (.cells #[.map (some (w.heap.size+1+1+1+1))] 186)) (w.heap.size+1+1+1+1+1+1) 186 (.map (some (w.heap.size+1+1+1+1))):=by
  have h:=(Boxed.new ((((((w.alloc (.cells #[.slice an g.length J,.slice H ins.length I,.slice z f.length A,.slice M m.length R] 27)).alloc (.cells #[.int .i64 0] 3)).alloc (.cells #[.int .i64 0] 38)).alloc (.map #[] 0)).alloc (.map #[] 0)).alloc (.cells #[.map (some (w.heap.size+1+1+1))] 266)) 186 (.map (some (w.heap.size+1+1+1+1))));simp only[Zu] at h;exact h
 have bd:Below w.heap.size w (((((((w.alloc (.cells #[.slice an g.length J,.slice H ins.length I,.slice z f.length A,.slice M m.length R] 27)).alloc (.cells #[.int .i64 0] 3)).alloc (.cells #[.int .i64 0] 38)).alloc (.map #[] 0)).alloc (.map #[] 0)).alloc (.cells #[.map (some (w.heap.size+1+1+1))] 266)).alloc (.cells #[.map (some (w.heap.size+1+1+1+1))] 186)):=bq;have cl:(((((((w.alloc (.cells #[.slice an g.length J,.slice H ins.length I,.slice z f.length A,.slice M m.length R] 27)).alloc (.cells #[.int .i64 0] 3)).alloc (.cells #[.int .i64 0] 38)).alloc (.map #[] 0)).alloc (.map #[] 0)).alloc (.cells #[.map (some (w.heap.size+1+1+1))] 266)).alloc (.cells #[.map (some (w.heap.size+1+1+1+1))] 186)).heap.size=w.heap.size+7:=by simp
 obtain⟨W0,bs⟩:∃W0,(((((((w.alloc (.cells #[.slice an g.length J,.slice H ins.length I,.slice z f.length A,.slice M m.length R] 27)).alloc (.cells #[.int .i64 0] 3)).alloc (.cells #[.int .i64 0] 38)).alloc (.map #[] 0)).alloc (.map #[] 0)).alloc (.cells #[.map (some (w.heap.size+1+1+1))] 266)).alloc (.cells #[.map (some (w.heap.size+1+1+1+1))] 186))=W0:=⟨_,rfl⟩;rw[bs] at bP bA bE bM bN bd cl be bf ⊢;clear bs;have BP:=hid bP;have BA:=hid bA;have BE:=hid bE;have BM:=hid bM;have BN:=hid bN;have bh:=hid bd;have cc:=hid bf;clear bP bA bE bM bN bd bf;gi_loopw [19] (fun v wr=>Hid (ZaV W0 (w.heap.size+1+1+1) ins.length v wr)) (fun i _=>ins.length-(intOf i).toNat)
 case atStart=>exact⟨0,rfl,Zk _,be,Upon.refl _ _⟩
 clear be;obtain⟨i,rfl,hi,V,q⟩:=hrel.out;clear hrel;have y:=hid q;have ba:=q.size;have hbel:=bh.out.trans (q.below (B:=w.heap.size) oq oq);have HBEL:=hid hbel;have O:Boxed wr (w.heap.size+1+1+1+1+1) 266 (.map (some (w.heap.size+1+1+1))):=(q.block _ oq oq).trans BM.out;have cM:=O.cell;have l5:w.heap.size+1+1+1+1+1<wr.heap.size:=oq;have l0:w.heap.size<wr.heap.size:=oq;have C:=(q.block _ oq oq).trans BP.out;unfold Qk at C;simp only at C;obtain⟨⟨x0,x1,x2,x3⟩,xf⟩:=Yx C;have ak:=hid V;obtain⟨L,hM,hL⟩:=V;have HM:=hid hM;have HL:=hid hL;clear q hM hL C;by_cases ab:i<ins.length
 ·skip
  obtain⟨bb,oo,rfl,E,F⟩:=HI.out.at ab;have Z:=Et w wr bb _ _ hbel E F;have bu:bb<wr.heap.size:=oq;obtain⟨x,hx⟩:=ez (ins[i]);rw[hx] at Z;obtain⟨nm,di,ph,fa⟩:=x;obtain⟨y0,y1,y2,y3,bw⟩:=Z;simp only at y0 y1 y2 y3;obtain⟨iv,aa⟩:=HL.out nm;have HG:=hid aa;have al:=hid (fun j=>Ef HL.out nm j);have bx:(i:Int)<(ins.length:Int):=oq;clear hbel F hx E aa;gi_wp2_with (first|(gi_at_lookup;refine VU Qm _ rfl _ _ rfl (w.heap.size+1+1+1) L nm _ rfl rfl (HM.out.below bq) HG.out ?_)|(gi_at_mapUpdate;refine JU Qm _ rfl _ _ _ rfl (w.heap.size+1+1+1) L nm _ rfl rfl rfl (HM.out.below bq) ?_;intro arr clock U));refine⟨⟨i+1,by go_num,oq,⟨_,U,al.out _⟩,y.out.trans (YR ((Upon.refl _ _).alloc _) _)⟩,by simp[intOf];omega⟩
 have ah:decide ((i:Int)<(ins.length:Int))=false:=ZZ oq;clear hbel;obtain⟨i1,rfl⟩:=ey i;gi_wp2_with fail;gi_loopw [32] (fun v wr=>Hid (ZaV W0 (w.heap.size+1+1+1) f.length v wr)) (fun i _=>f.length-(intOf i).toNat)
 case atStart=>exact⟨0,rfl,Zk _,ak.out,y.out⟩
 clear y HBEL ba O cM l5 l0 x0 x1 x2 x3 xf HM HL ah ab ak;obtain⟨i,rfl,hi,V,q⟩:=hrel.out;clear hrel;have y:=hid q;have ba:=q.size;have hbel:=bh.out.trans (q.below (B:=w.heap.size) oq oq);have HBEL:=hid hbel;have O:Boxed wr (w.heap.size+1+1+1+1+1) 266 (.map (some (w.heap.size+1+1+1))):=(q.block _ oq oq).trans BM.out;have cM:=O.cell;have l5:w.heap.size+1+1+1+1+1<wr.heap.size:=oq;have l0:w.heap.size<wr.heap.size:=oq;have C:=(q.block _ oq oq).trans BP.out;unfold Qk at C;simp only at C;obtain⟨⟨x0,x1,x2,x3⟩,xf⟩:=Yx C;have ak:=hid V;obtain⟨L,hM,hL⟩:=V;have HM:=hid hM;have HL:=hid hL;clear q hM hL C;by_cases ab:i<f.length
 ·skip
  obtain⟨bb,oo,rfl,E,F⟩:=HF.out.at ab;have Z:=Vs w wr bb _ _ hbel E F;have bu:bb<wr.heap.size:=oq;obtain⟨x,hx⟩:=ez (f[i]);rw[hx] at Z;obtain⟨nm,⟨k1,nm1,n1,d1,ac,a1⟩,fa⟩:=x;obtain⟨ad,cap,y0,y1,y2,y3,y4,y5,y6,y7,ck,bw⟩:=Z.cells;obtain⟨iv,aa⟩:=HL.out nm;have HG:=hid aa;have al:=hid (fun j=>Ef HL.out nm j);have bx:(i:Int)<(f.length:Int):=oq;clear hbel F hx E aa;gi_wp2_with (first|(gi_at_lookup;refine VU Qm _ rfl _ _ rfl (w.heap.size+1+1+1) L nm _ rfl rfl (HM.out.below bq) HG.out ?_)|(gi_at_mapUpdate;refine JU Qm _ rfl _ _ _ rfl (w.heap.size+1+1+1) L nm _ rfl rfl rfl (HM.out.below bq) ?_;intro arr clock U));refine⟨⟨i+1,by go_num,oq,⟨_,U,al.out _⟩,y.out.trans (YR ((Upon.refl _ _).alloc _) _)⟩,by simp[intOf];omega⟩
 have ah:decide ((i:Int)<(f.length:Int))=false:=ZZ oq;have bm:=hid (cc.out.upon y.out oq);have ch:=hid (show Qk wr w.heap.size ⟨g,ins,f,m⟩ an H z M J I A R from(y.out.block _ oq oq).trans BP.out);have ay:=hid (show Boxed wr (w.heap.size+1+1+1+1+1+1) 186 (.map (some (w.heap.size+1+1+1+1))) from(y.out.block _ oq oq).trans BN.out);have ax:=hid O;have av:=hid (show Boxed wr (w.heap.size+1) 3 (.int .i64 0) from(y.out.block _ oq oq).trans BA.out);have aw:=hid (show Boxed wr (w.heap.size+1+1) 38 (.int .i64 0) from(y.out.block _ oq oq).trans BE.out);clear hbel;obtain⟨i2,rfl⟩:=ey i;gi_wp2_with fail;obtain⟨W2,rfl⟩:=ey wr;gi_loopw [45] (fun v wr=>Hid (ZaV W2 (w.heap.size+1+1+1+1) g.length v wr)) (fun i _=>g.length-(intOf i).toNat)
 case atStart=>exact⟨0,rfl,Zk _,bm.out,Upon.refl _ _⟩
 clear y O cM x0 x1 x2 x3 xf HM HL ah ab bm;obtain⟨i,rfl,hi,V,q⟩:=hrel.out;clear hrel;have y:=hid q;have cm:=q.size;have hbel:=HBEL.out.trans (q.below (B:=w.heap.size) oq oq);have aj:=hid hbel;have O:Boxed wr (w.heap.size+1+1+1+1+1+1) 186 (.map (some (w.heap.size+1+1+1+1))):=(q.block _ oq oq).trans ay.out;have cM:=O.cell;have l5:w.heap.size+1+1+1+1+1+1<wr.heap.size:=oq;have l0:w.heap.size<wr.heap.size:=oq;have C:=(q.block _ oq oq).trans ch.out;unfold Qk at C;simp only at C;obtain⟨⟨x0,x1,x2,x3⟩,xf⟩:=Yx C;have bi:=hid V;obtain⟨L,hM,hL⟩:=V;have HM:=hid hM;have HL:=hid hL;clear q hM hL C;by_cases ab:i<g.length
 ·skip
  obtain⟨bb,oo,rfl,E,F⟩:=HN.out.at ab;have Z:=Vl w wr bb _ _ hbel E F;have bu:bb<wr.heap.size:=oq;obtain⟨x,hx⟩:=ez (g[i]);rw[hx] at Z;obtain⟨nm,ps,ct,⟨k1,nm1,n1,d1,ac,a1⟩,fa⟩:=x;obtain⟨pa,pc,ad,cap,y0,y1,y2,y3,y4,y5,y6,y7,y8,y9,ck,dg,bw⟩:=Z.cells;obtain⟨iv,aa⟩:=HL.out nm;have HG:=hid aa;have al:=hid (fun j=>Ef HL.out nm j);have bx:(i:Int)<(g.length:Int):=oq;clear hbel F hx E aa;gi_wp2_with ((gi_at_mapUpdate;refine JU yY _ rfl _ _ _ rfl (w.heap.size+1+1+1+1) L nm _ rfl rfl rfl (HM.out.below bq) ?_;intro arr clock U));refine⟨⟨i+1,by go_num,oq,⟨_,U,al.out _⟩,y.out.trans (YR ((Upon.refl _ _).alloc _) _)⟩,by simp[intOf];omega⟩
 have ah:decide ((i:Int)<(g.length:Int))=false:=ZZ oq;have bk:=hid (ak.out.upon y.out oq);have bc:Boxed wr (w.heap.size+1) 3 (.int .i64 0):=(y.out.block _ oq oq).trans av.out;have bg:Boxed wr (w.heap.size+1+1) 38 (.int .i64 0):=(y.out.block _ oq oq).trans aw.out;have bp:Boxed wr (w.heap.size+1+1+1+1+1) 266 (.map (some (w.heap.size+1+1+1))):=(y.out.block _ oq oq).trans ax.out;have br:=O;clear hbel;gi_wp2_with (refine⟨trivial,?_⟩;gi_at_call 90;refine(Zt.2 (cd.out _)).mono ?_;rintro e w' ⟨rfl,rfl⟩);have bS:=Boxed.new wr 24 (.slice z f.length A);have T:Below wr.heap.size wr (wr.alloc (.cells #[.slice z f.length A] 24)):=(Zg _ _).alloc (Zc _) _;have ca:(wr.alloc (.cells #[.slice z f.length A] 24)).heap.size=wr.heap.size+1:=by simp
 have bl:=bk.out;have bn:=bi.out;obtain⟨W1,bt⟩:=ez (wr.alloc (.cells #[.slice z f.length A] 24));rw[bt] at bS T ca ⊢;clear bt;have cp:Below w.heap.size w W1:=aj.out.trans (T.mono oq);have cy:Boxed W1 (w.heap.size+1) 3 (.int .i64 0):=(T.block _ oq).trans bc;have da:Boxed W1 (w.heap.size+1+1) 38 (.int .i64 0):=(T.block _ oq).trans bg;have HX:=hid (show ∀W,Below W1.heap.size W1 W→Boxed W (w.heap.size+1+1+1+1+1) 266 (.map (some (w.heap.size+1+1+1)))∧Boxed W (w.heap.size+1+1+1+1+1+1) 186 (.map (some (w.heap.size+1+1+1+1)))∧Boxed W (w.heap.size+1) 3 (.int .i64 0)∧Boxed W (w.heap.size+1+1) 38 (.int .i64 0)∧CI W (w.heap.size+1+1+1)∧CI W (w.heap.size+1+1+1+1)∧Below w.heap.size w W from by
  intro W hW;have h1:Below wr.heap.size wr W:=T.trans (hW.mono oq);exact⟨(h1.block _ oq).trans bp,(h1.block _ oq).trans br,(h1.block _ oq).trans bc,(h1.block _ oq).trans bg,bl.below h1,bn.below h1,aj.out.trans (h1.mono oq)⟩)
 have ce:=hid cp;have au:w.heap.size≤W1.heap.size:=oq;clear br bc bg bp bk bl bn T HM HL ak bi O cM;refine wpIn_rangeFunc_ownH (encs:=fun x:VX w=>#[.agg #[.int .i64 x.e.k,.string x.e.nm,.int .i64 x.e.n,.int .i64 x.e.d,.slice x.ad x.e.args.len x.cap,.int .i64 x.e.a]]) rfl oq (gf:=125) (lb:=#[.pointer (some ⟨wr.heap.size,0,none⟩)]) rfl trivial (enters_of func125 kq rfl)
  (Ki (W0:=w) Fence.wide rfl trivial trivial rfl _ wr.heap.size f z A HF.out HC.out.1 HC.out.2 W1 oq ce.out bS.cell) (fun h k=>h.trans k) (fun W l o o' hl h hc _=>KC.putObj W l o o' oq h hc) (Zg _ _) (fun _=>rfl)
  (fun pre W=>Below W1.heap.size W1 W)
  (fun c pre W=>∃a er,((Boxed W (w.heap.size+1) 3 (.int .i64 a)∧Boxed W (w.heap.size+1+1) 38 (.int .i64 er))∧Below w.heap.size w W)∧c=.ret)
  (ownFrom_below (Zc _) (Zc _))
  (fun c s X Y row hs hg hrw=>by
   obtain⟨a,er,⟨⟨h1,h2⟩,h3⟩,h4⟩:=hs;exact⟨a,er,⟨⟨boxed_own _ _ (fun(_:Unit)=>Value.int .i64 a) () X Y row h1 hg (fun r e=>(hrw r e).2),boxed_own _ _ (fun(_:Unit)=>Value.int .i64 er) () X Y row h2 hg (fun r e=>(hrw r e).2)⟩,ownFrom_below (β:=Unit) (Zc _) au () X Y row h3 hg hrw⟩,h4⟩)
  (Zg _ _)
  (fun x a' W=>∃Bx,W1.heap.size≤Bx∧W.heap[Bx]?=some (.cells #[.int .i64 x.e.k,.string x.e.nm,.int .i64 x.e.n,.int .i64 x.e.d,.slice x.ad x.e.args.len x.cap,.int .i64 x.e.a] 88 (0,0)) ∧
   a'={ tmps:=#[.agg #[.slice an g.length J,.slice H ins.length I,.slice z f.length A,.slice M m.length R],.pointer (some ⟨w.heap.size,0,none⟩),.pointer (some ⟨w.heap.size+1,0,none⟩),.pointer (some ⟨w.heap.size+1+1,0,none⟩),.pointer (some ⟨w.heap.size+1+1+1+1+1,0,none⟩),.pointer (some ⟨w.heap.size+1+1+1+1+1+1,0,none⟩),undef,u7,undef,u9,undef,u11,.pointer (some ⟨Bx,0,none⟩),undef,.map (some (w.heap.size+1+1+1)),.map (some (w.heap.size+1+1+1+1)),.pointer (some ⟨w.heap.size,1,none⟩),.slice H ins.length I,.int .i64 (ins.length:Int),.int .i64 (i1:Int),.bool false,u21,u22,u23,u24,u25,u26,u27,u28,.pointer (some ⟨w.heap.size,2,none⟩),.slice z f.length A,.int .i64 (f.length:Int),.int .i64 (i2:Int),.bool false,u34,u35,u36,u37,u38,u39,u40,u41,.pointer (some ⟨w.heap.size,0,none⟩),.slice an g.length J,.int .i64 (g.length:Int),.int .i64 (i:Int),.bool false,u47,u48,u49,u50,u51,u52,u53,u54,u55,.pointer (some ⟨w.heap.size,2,none⟩),.slice z f.length A,.func (.func 125) #[] #[.pointer (some ⟨wr.heap.size,0,none⟩)],.agg #[.int .i64 x.e.k,.string x.e.nm,.int .i64 x.e.n,.int .i64 x.e.d,.slice x.ad x.e.args.len x.cap,.int .i64 x.e.a],undef,undef,undef,undef,undef,undef,undef,undef,undef],defers:=[] })
  (fun x a' _ X Y row hs hg hrw=>by
   obtain⟨Bx,h1,h2,h3⟩:=hs;refine⟨Bx,h1,(hg.block Bx (Zq.1 h2).1 (fun e=>?_)).trans h2,h3⟩;obtain⟨_,o,ho,hc⟩:=hrw Bx e.symm;rw[h2] at ho;cases ho;cases hc)
  ?assign ?body ?done ?stop
 case assign =>
  rintro l pre x W K G hK;gi_wp2;exact hK _ _ ((KeepsOthers.alloc _ _).from _) ((KC.refl _ W).alloc (Zm au G.size) _) (G.alloc G.size _) ⟨W.heap.size,G.size,Yw W _,rfl⟩
 case body =>
  rintro l pre ⟨⟨k1,nm1,n1,d1,ac,a1⟩,cg,bj,df⟩ a' W hl ⟨r,hr⟩ G ⟨Bx,cz,az,rfl⟩ ab;simp only at az;obtain⟨ax,ay,av,aw,ar,U,bv⟩:=HX.out W G;have cM:=ax.cell;have cN:=ay.cell;obtain⟨⟨x0,x1,x2,x3,x4,x5⟩,xf⟩:=Xm az;have bz:=G.size;have cb:=hid (xR (w:=W) (w.heap.size+1+1+1) (w.heap.size+1+1+1+1) k1 n1 d1 a1 nm1 cg ac.len bj ar U);have HBW:=hid G;clear ar U G;gi_wp2_with (refine⟨trivial,?_⟩;gi_at_call 176;refine(CallsIn.inRound l (Zt.2 cb.out)).mono ?_;rintro e w2 ⟨⟨er,rfl⟩,hb2⟩;have am:Boxed w2 (w.heap.size+1) 3 (.int .i64 0):=(hb2.block _ av.lt).trans av;have ap:Boxed w2 (w.heap.size+1+1) 38 (.int .i64 0):=(hb2.block _ aw.lt).trans aw;have cu:=am.cell;have cw:=am.frozen;have cv:=ap.cell;have cx:=ap.frozen;have cj:=(hb2.block _ (Zb az)).trans az;obtain⟨⟨v0,v1,v2,v3,v4,v5⟩,vf⟩:=Xm cj;clear x0 x1 x2 x3 x4 x5 xf)
  ·exact⟨(show KeepsFrom W1.heap.size W w2 from ⟨hb2.size,fun k o _ hk _=>(hb2.block k (Zb hk)).trans hk⟩).trans (((KeepsOthers.setCell _ _ _).trans (KeepsOthers.setCell _ _ _)).from _),a1,er,⟨⟨(am.set _).other oq _,(ap.other oq _).set _⟩,((bv.trans (hb2.mono oq)).setCell (p:=⟨w.heap.size+1,0,none⟩) (by simp) _).setCell (p:=⟨w.heap.size+1+1,0,none⟩) (by simp;omega) _⟩,rfl⟩
  exact⟨⟨hb2.size,fun k o _ hk _=>(hb2.block k (Zb hk)).trans hk⟩,(KC.refl _ W).of_below hb2 (Zm au bz),HBW.out.trans (hb2.mono bz)⟩
 case done =>
  rintro D zs W hD dh G hK;obtain⟨ax,ay,ae,ag,ar,U,T⟩:=HX.out W G;have cA:=ae.cell;have fA:=ae.frozen;have cE:=ag.cell;have fE:=ag.frozen;gi_wp2;have bo:((W.setCell ⟨w.heap.size+1,0,none⟩ (.int .i64 0)).setCell ⟨w.heap.size+1+1,0,none⟩ (.int .i64 0)).heap[D]?=some (.deferred (some [])):=((KeepsOthers.setCell _ _ _).trans (KeepsOthers.setCell _ _ _)).same D _ hK rfl;refine⟨by simp,.inl ⟨_,_,rfl,run_takeDeferred bo,?_⟩⟩;have am:=(((ae.set (.int .i64 0)).other (show w.heap.size+1≠w.heap.size+1+1 by omega) (.int .i64 0)).kept (grownBy_putObj' _ D (.deferred none)) (by intro e;injection e with e;omega)).cell;have ap:=(((ag.other (show w.heap.size+1+1≠w.heap.size+1 by omega) (.int .i64 0)).set (.int .i64 0)).kept (grownBy_putObj' _ D (.deferred none)) (by intro e;injection e with e;omega)).cell;refine⟨.tuple #[.int .i64 0,.int .i64 0],?_,?_,?_⟩
  ·simp only[results,results159];go_simp
  ·exact⟨0,0,rfl⟩
  exact((T.setCell (p:=⟨w.heap.size+1,0,none⟩) (by simp) _).setCell (p:=⟨w.heap.size+1+1,0,none⟩) (by simp;omega) _).trans (KC.putObj (n₀:=w.heap.size) _ D _ _ oq bo rfl).below
 rintro D c pre W hD cr ⟨a,er,⟨⟨ae,ag⟩,T⟩,rfl⟩ hK;have cA:=ae.cell;have fA:=ae.frozen;have cE:=ag.cell;have fE:=ag.frozen;gi_wp2;refine⟨by simp,.inl ⟨_,_,rfl,run_takeDeferred hK,?_⟩⟩;have am:=(ae.kept (grownBy_putObj' _ D (.deferred none)) (by intro e;injection e with e;omega)).cell;have ap:=(ag.kept (grownBy_putObj' _ D (.deferred none)) (by intro e;injection e with e;omega)).cell;refine⟨.tuple #[.int .i64 a,.int .i64 er],?_,?_,?_⟩
 ·simp only[results,results159];go_simp
 ·exact⟨a,er,rfl⟩
 exact T.trans (KC.putObj (n₀:=w.heap.size) _ D _ _ oq hK rfl).below
theorem yh{p f:Int}(j:1≤p∧p≤2000)(m:0≤f)(h:(clock.fin p f).2.2=0):clock.YF (clock.fin p f).1 (clock.fin p f).2.1=true:=by
 unfold clock.fin at h ⊢;by_cases g:f≤2000
 ·rw[Z2 g];exact clock.YQ ⟨j.1,j.2,m,g⟩
 rw[Z1 g] at h;cases h
theorem jI{p f k n d:Int}(h:(clock.YB p f k n d).2.2=0):clock.YF (clock.YB p f k n d).1 (clock.YB p f k n d).2.1=true:=by
 unfold clock.YB at h ⊢;by_cases v:clock.YF p f=false∨k<3∨8<k
 ·rw[Z2 v] at h;cases h
 rw[Z1 v] at h ⊢;have E:clock.YF p f=true:=by
  cases hb:clock.YF p f with
  | true=>rfl
  | false=>exact absurd (Or.inl hb) v
 have hb:=clock.Xq.1 E;by_cases x:clock.Q9 k n d=false
 ·rw[Z2 x] at h;cases h
 rw[Z1 x] at h ⊢;have g:clock.Q9 k n d=true:=by
  cases hb:clock.Q9 k n d with
  | true=>rfl
  | false=>exact absurd hb x
 by_cases y:k=3
 ·rw[Z2 y] at h ⊢;have m:=clock.kQ (.inl y) g;by_cases j:p%n=0
  ·rw[Z2 j];have:=clock.KV hb.1 hb.2.1 m.1 j;exact clock.YQ ⟨this.1,this.2,hb.2.2.1,hb.2.2.2⟩
  rw[Z1 j] at h;cases h
 rw[Z1 y] at h ⊢;by_cases z:k=4
 ·rw[Z2 z] at h ⊢;have m:=clock.kQ (.inr z) g;by_cases j:p*n≤2000
  ·rw[Z2 j];exact clock.YQ ⟨clock.um hb.1 m.1,j,hb.2.2.1,hb.2.2.2⟩
  rw[Z1 j] at h;cases h
 rw[Z1 z] at h ⊢;by_cases A:k=5
 ·rw[Z2 A] at h ⊢;subst A;have m:=clock.Zga g;by_cases j:p*n%d=0
  ·rw[Z2 j] at h ⊢;have q:0≤p*n:=Int.mul_nonneg oq m.2.2.1;have C:0≤p*n/d:=Int.ediv_nonneg q oq;exact yh ⟨hb.1,hb.2.1⟩ oq h
  rw[Z1 j] at h;cases h
 rw[Z1 A] at h ⊢;by_cases q:k=6
 ·rw[Z2 q];exact E
 rw[Z1 q] at h ⊢;by_cases C:k=7
 ·rw[Z2 C] at h ⊢;exact yh ⟨hb.1,hb.2.1⟩ oq h
 rw[Z1 C] at h ⊢;by_cases D:p≤f
 ·rw[Z2 D];show clock.YF p (f-p)=true;exact clock.YQ ⟨hb.1,hb.2.1,oq,oq⟩
 rw[Z1 D] at h;cases h
def RtE(env:Env):Prop:=∀nm c,env nm=some c→clock.YF c.1 c.2=true
theorem Gm{env:Env}(h:RtE env){k:Int}{nm:ByteArray}{n d a:Int}{s:TT}(q:∀p f,s=.ok p f→clock.YF p f=true){p f:Int}(ht:Xh env k nm n d a s=.ok p f):clock.YF p f=true:=by
 unfold Xh at ht;by_cases m:k=1
 ·rw[Z2 m] at ht
  cases he:env nm with
  | none=>rw[he] at ht;cases ht
  | some c =>
   rw[he] at ht;injection ht with h1 h2
   rw[←h1,←h2];exact h nm c he
 rw[Z1 m] at ht
 cases s with
 | unk=>cases ht
 | bad a e=>cases ht
 | ok p0 f0 =>
  simp only at ht;by_cases g:k=2
  ·rw[Z2 g] at ht;exact q p f ht
  rw[Z1 g] at ht;by_cases j:(clock.YB p0 f0 k n d).2.2=0
  ·rw[Z2 j] at ht;injection ht with h1 h2
   rw[←h1,←h2];exact jI j
  rw[Z1 j] at ht;cases ht
theorem jW{env:Env}(h:RtE env):∀(l:PL)(p f:Int),YU env l=.ok p f→clock.YF p f=true:=by
 intro l
 induction l with
 | nil=>intro p f ht;cases ht
 | cons k nm n d args a tl ih1 ih2 =>
  intro p f ht;rw[YU] at ht
  cases h1:Xh env k nm n d a (YU env args) with
  | unk=>rw[h1] at ht;exact ih2 p f ht
  | bad ab eb=>rw[h1] at ht;cases ht
  | ok p1 f1 =>
   rw[h1] at ht;injection ht with e1 e2
   subst e1;subst e2;exact Gm h ih1 h1
theorem VQ{env:Env}(h:RtE env){e:PE}{p f:Int}(ht:Y1 env e=.ok p f):clock.YF p f=true:=Gm h (jW h e.args) ht
def Zc9(a b:Env):Prop:=∀nm c,a nm=some c→b nm=some c
def unf(env:Env):List FL→Nat
 | []=>0
 | f::fs=>(if env f.nm=none then 1 else 0)+unf env fs
theorem Zek(env:Env)(k:ByteArray)(c:Int × Int):∀fs:List FL,unf (upd env k c) fs≤unf env fs:=by
 intro fs
 induction fs with
 | nil=>exact Zc _
 | cons f fs ih =>
  unfold unf;have:(if upd env k c f.nm=none then 1 else 0)≤(if env f.nm=none then 1 else 0):=by
   unfold upd;by_cases h:f.nm=k
   ·rw[Z2 h];simp
   rw[Z1 h];exact Zc _
  omega
theorem ZaP(env:Env)(k:ByteArray)(c:Int × Int)(x:env k=none):∀fs:List FL,(∃f∈fs,f.nm=k)→unf (upd env k c) fs+1≤unf env fs:=by
 intro fs
 induction fs with
 | nil=>rintro⟨f,v,_⟩;cases v
 | cons f fs ih =>
  rintro⟨g,m,j⟩;unfold unf;by_cases h:f.nm=k
  ·have y:(if upd env k c f.nm=none then 1 else 0)=0:=by unfold upd;rw[Z2 h];simp
   have z:(if env f.nm=none then 1 else 0)=1:=by rw[h,x];simp
   have A:=Zek env k c fs;omega
  have q:∃f∈fs,f.nm=k:=by
   rcases ZR.1 m with rfl|m
   ·exact absurd j h
   exact⟨g,m,j⟩
  have C:=ih q;have:(if upd env k c f.nm=none then 1 else 0)=(if env f.nm=none then 1 else 0):=by
   unfold upd;rw[Z1 h]
  omega
theorem ZfC(env:Env):∀fs:List FL,unf env fs≤fs.length:=by
 intro fs
 induction fs with
 | nil=>exact Zc _
 | cons f fs ih=>unfold unf;rw[Zp];split<;>omega
inductive GrE (Xc:Env) (flows:List FL):Env→Prop where
 | base:GrE Xc flows Xc
 | step {env:Env} {f:FL} {p q:Int}:GrE Xc flows env→f∈flows→env f.nm=none→Y1 env f.e=.ok p q→GrE Xc flows (upd env f.nm (p,q))
structure FG (Xc:Env) (n0:Nat) (flows:List FL) (env:Env) (L:List (ByteArray × Value)):Prop where
 gr:GrE Xc flows env
 ext:Zc9 Xc env
 rt:RtE env
 cnt:L.length+unf env flows≤n0+flows.length
theorem FG.put{Xc:Env}{m:Nat}{f:List FL}{env:Env}{L:List (ByteArray × Value)}(h:FG Xc m f env L){i:Nat}(hi:i<f.length)(j:env f[i].nm=none)(x:Xn f[i].nm L=none){c:Int × Int}(ht:Y1 env f[i].e=.ok c.1 c.2)(q:clock.YF c.1 c.2=true)(v:Value) :
  FG Xc m f (upd env f[i].nm c) (JJ f[i].nm v L):=by
 refine⟨.step h.gr (Zi hi) j ht,fun nm d hd=>?_,fun nm d hd=>?_,?_⟩
 ·unfold upd;have:=h.ext nm d hd;by_cases g:nm=f[i].nm
  ·rw[g,j] at this;cases this
  rw[Z1 g];exact this
 ·unfold upd at hd;by_cases g:nm=f[i].nm
  ·rw[Z2 g] at hd;injection hd with hd;rw[←hd];exact q
  rw[Z1 g] at hd;exact h.rt nm d hd
 rw[jB _ _ _ x];have:=ZaP env f[i].nm c j f ⟨_,Zi hi,rfl⟩;have:=h.cnt;omega
def Zgv(W0 w:World)(mb:Nat)(L0:List (ByteArray × Value))(Xc:Env)(flows:List FL)(v:Value)(wr:World):Prop :=
 ∃(b:Bool)(env:Env)(L:List (ByteArray × Value)),v=.bool b∧FW W0 w wr mb L env∧FG Xc L0.length flows env L
def InG(W0 w:World)(mb:Nat)(L0:List (ByteArray × Value))(Xc:Env)(flows:List FL)(n1:Nat)(v6 v15:Value)(wr:World):Prop :=
 ∃(i:Nat)(b:Bool)(env:Env)(L:List (ByteArray × Value)),v15=.int .i64 (i:Int)∧v6=.bool b∧i≤flows.length∧FW W0 w wr mb L env∧FG Xc L0.length flows env L∧n1+(isT (.bool b))≤L.length
def ZfN(Xc:Env)(flows:List FL)(mb:Nat)(w:World)(x:Ending)(w':World):Prop :=
 ((∃a e,e≠0∧x=.returned (.tuple #[.int .i64 a,.int .i64 e]))∨(x=Uo∧∃L env,YT w' mb L∧XY L env∧RtE env∧Zc9 Xc env∧GrE Xc flows env))∧Upon mb w w'
theorem Zby{W0 w:World}(g:List FL)(af:Option Addr)(cf mb:Nat)(J:List (ByteArray × Value))(Xc:Env)(hW:Below W0.heap.size W0 w)(ar:W0.heap.size≤mb)(hr:Row FlC 8 W0 g af)(ao:g.length≤cf)(O:cf≤9223372036854775807)
  (hM:YT w mb J)(hE:XY J Xc)(ah:RtE Xc) :
  Calls prog 49 #[.map (some mb),.slice af g.length cf] w (ZfN Xc g mb w):=by
 have HW:=hid hW;have HR:=hid hr;have ac:=hid (show FW W0 w w mb J Xc from ⟨Upon.refl _ _,hM,hE⟩);have aa:=hid (show FG Xc J.length g Xc J from ⟨.base,fun _ _ h=>h,ah,by have:=ZfC Xc g;omega⟩);have ay:=hM.lt;have ap:g.length≤9223372036854775807:=Zm ao O;clear hW hr hM hE ah;go_enter func49,ntmps49;go_wp2;go_loopw [6] (fun v wr=>Hid (Zgv W0 w mb J Xc g v wr)) (fun v wr=>J.length+g.length+1-qI wr mb+isT v)
 case atStart=>exact⟨true,Xc,J,rfl,ac.out,aa.out⟩
 obtain⟨b,env,L,rfl,m,C⟩:=hrel.out;clear hrel;have au:qI wr mb=L.length:=m.map.size;have ai:=C.cnt;have E:=hid m;have F:=hid C;clear m C
 cases b with
 | false =>
  go_wp2;go_ret2;exact⟨.inr ⟨rfl,L,env,E.out.map,E.out.env,F.out.rt,F.out.ext,F.out.gr⟩,E.out.upon⟩
 | true =>
  obtain⟨n1,Y⟩:=ez L.length;rw[Y] at au ai;have ae:=hid Y;clear Y;obtain⟨wo,bh⟩:=ey wr;go_wp2;go_loopw [6,15] (fun v6 v15 wr=>Hid (InG W0 w mb J Xc g n1 v6 v15 wr)) (fun _ i _=>g.length-(intOf i).toNat)
  case atStart=>exact⟨0,false,env,L,rfl,rfl,Zk _,E.out,F.out,by have:=ae.out;simp only[isT];omega⟩
  clear E F ae;obtain⟨i,b,env,L,rfl,rfl,hi,m,C,R⟩:=hrel.out;clear hrel;have j:=hid m;have A:=hid C;have V:=hid R;have ax:qI wr mb=L.length:=m.map.size;have bg:w.heap.size≤wr.heap.size:=m.upon.size;have aw:=m.map.lt;clear C;by_cases al:i<g.length
  ·have G:=HR.out.below Vs (HW.out.trans (j.out.upon.below HW.out.size ar));obtain⟨bb,oo,rfl,ba,ak⟩:=G.at al;have z:=A.out.put al;obtain⟨f,hf⟩:=ez (g[i]);rw[hf] at ak z;obtain⟨D,⟨k1,nm1,T,d1,y,a1⟩,fa⟩:=f;obtain⟨az,av,x0,x1,x2,x3,x4,x5,x6,x7,M,be⟩:=ak.cells;simp only at z M;have bf:(i:Int)<(g.length:Int):=oq
   cases hen:env D with
   | some c =>
    obtain⟨c1,c2⟩:=c;have Z:=hid (show Xn D L=some (.agg #[.int .i64 c1,.int .i64 c2]) by rw[m.env D,hen];rfl);clear m G M hen z R;go_wp2_with (at_lookup;refine X5 XG _ rfl _ _ rfl mb L D _ rfl rfl (j.out.map.below bq) Z.out ?_);refine⟨⟨i+1,b,env,L,by go_num,rfl,oq,⟨(by repeat (first|(with_reducible exact Upon.refl _ _)|((with_reducible refine Upon.setAt ?_ ?_ _);(rotate_left;focus (first|exact Or.inl rfl|omega|(simp;done)|(simp;omega))))|(with_reducible refine Upon.alloc ?_ _)|(with_reducible refine Upon.drewN ?_ _)|(with_reducible refine Upon.drew ?_)|(with_reducible refine Upon.trans ?_ (Upon.of_below hb2))|(with_reducible refine Upon.trans ?_ j.out.upon))),j.out.map.below bq,j.out.env⟩,A.out,V.out⟩,by simp[intOf];omega⟩
   | none =>
    have X:Xn D L=none:=by rw[m.env D,hen];rfl
    have Z:=hid X;have ag:=hid (fun(c:Int × Int) (ht) (hc:clock.YF c.1 c.2=true) (v:Value)=>z hen X (c:=c) ht hc v);have I:=hid (za m.env ⟨k1,nm1,T,d1,y,a1⟩);have HE:=hid M;have hgd:=UA env ⟨k1,nm1,T,d1,y,a1⟩;have H:=fun p f=>VQ (e:=⟨k1,nm1,T,d1,y,a1⟩) (p:=p) (f:=f) A.out.rt
    unfold QY at I;simp only at I;clear m G M hen X z R;generalize htt:Y1 env ⟨k1,nm1,T,d1,y,a1⟩=t at hgd H I;have an:=hid htt;clear htt
    cases t with
    | unk =>
     simp only[TT.v] at I;clear hgd H;go_wp2_with (first|(at_lookup;refine Xs XG _ rfl _ _ rfl mb L D rfl rfl (j.out.map.below bq) Z.out ?_)|(go_at_call 89;(with_reducible refine(I.out _ _ _ _ (HE.out.below bq) (j.out.map.below bq)).mono ?_);rintro x U ⟨rfl,hb2⟩;obtain⟨O,aj⟩:=YC hb2;have a2:wr.heap.size<U.heap.size:=Yy hb2 oq;have a3:wr.heap.size+1<U.heap.size:=Yy hb2 oq));refine⟨⟨i+1,b,env,L,by go_num,rfl,oq,⟨(by repeat (first|(with_reducible exact Upon.refl _ _)|((with_reducible refine Upon.setAt ?_ ?_ _);(rotate_left;focus (first|exact Or.inl rfl|omega|(simp;done)|(simp;omega))))|(with_reducible refine Upon.alloc ?_ _)|(with_reducible refine Upon.drewN ?_ _)|(with_reducible refine Upon.drew ?_)|(with_reducible refine Upon.trans ?_ (Upon.of_below hb2))|(with_reducible refine Upon.trans ?_ j.out.upon))),j.out.map.below bq,j.out.env⟩,A.out,V.out⟩,by simp[intOf];omega⟩
    | bad ab eb =>
     simp only[TT.v] at I;have bd:(eb == 0)=false:=ZY.2 hgd;clear H;go_wp2_with (first|(at_lookup;refine Xs XG _ rfl _ _ rfl mb L D rfl rfl (j.out.map.below bq) Z.out ?_)|(go_at_call 89;(with_reducible refine(I.out _ _ _ _ (HE.out.below bq) (j.out.map.below bq)).mono ?_);rintro x U ⟨rfl,hb2⟩;obtain⟨O,aj⟩:=YC hb2;have a2:wr.heap.size<U.heap.size:=Yy hb2 oq;have a3:wr.heap.size+1<U.heap.size:=Yy hb2 oq));go_quiet (fail);go_wp2;go_ret2;exact⟨.inl ⟨ab,eb,hgd,rfl⟩,(by repeat (first|(with_reducible exact Upon.refl _ _)|((with_reducible refine Upon.setAt ?_ ?_ _);(rotate_left;focus (first|exact Or.inl rfl|omega|(simp;done)|(simp;omega))))|(with_reducible refine Upon.alloc ?_ _)|(with_reducible refine Upon.drewN ?_ _)|(with_reducible refine Upon.drew ?_)|(with_reducible refine Upon.trans ?_ (Upon.of_below hb2))|(with_reducible refine Upon.trans ?_ j.out.upon)))⟩
    | ok p q =>
     simp only[TT.v] at I;have am:=hid (H p q rfl);clear hgd H;go_wp2_with (first|(at_lookup;refine Xs XG _ rfl _ _ rfl mb L D rfl rfl (j.out.map.below bq) Z.out ?_)|(go_at_call 89;(with_reducible refine(I.out _ _ _ _ (HE.out.below bq) (j.out.map.below bq)).mono ?_);rintro x U ⟨rfl,hb2⟩;obtain⟨O,aj⟩:=YC hb2;have a2:wr.heap.size<U.heap.size:=Yy hb2 oq;have a3:wr.heap.size+1<U.heap.size:=Yy hb2 oq)|(at_mapUpdate;refine XJ XG _ rfl _ _ _ rfl mb L D (cvv (p,q)) rfl rfl rfl (j.out.map.below bq) ?_;intro arr clock aq));refine⟨?_,by simp[intOf];omega⟩;refine⟨i+1,true,upd env D (p,q),_,by go_num,rfl,oq,⟨YR (by repeat (first|(with_reducible exact Upon.refl _ _)|((with_reducible refine Upon.setAt ?_ ?_ _);(rotate_left;focus (first|exact Or.inl rfl|omega|(simp;done)|(simp;omega))))|(with_reducible refine Upon.alloc ?_ _)|(with_reducible refine Upon.drewN ?_ _)|(with_reducible refine Upon.drew ?_)|(with_reducible refine Upon.trans ?_ (Upon.of_below hb2))|(with_reducible refine Upon.trans ?_ j.out.upon))) _,aq,j.out.env.put D (p,q)⟩,ag.out (p,q) an.out am.out _,?_⟩;rw[jB _ _ _ Z.out];have:=V.out;simp only[isT];omega
  have bc:=A.out.cnt;clear m;go_wp2;refine⟨⟨b,env,L,rfl,j.out,A.out⟩,?_⟩
  cases b<;>simp only[isT] at R ⊢<;>omega
def yx(x:Ending):Prop:=∃a e,e≠0∧x=.returned (.tuple #[.int .i64 a,.int .i64 e])
def FdS(env:Env)(f:FL):Prop:=∃c,env f.nm=some c
def Zer(w:World)(flows:List FL)(S:FL→Prop)(v:Value)(wr:World):Prop:=∃i:Nat,v=.int .i64 (i:Int)∧i≤flows.length∧(∀j (h:j<flows.length),j<i→S flows[j])∧Below w.heap.size w wr
theorem yr{f:List FL}{S:FL→Prop}{i:Nat}(h:∀j (g:j<f.length),j<i→S f[j])(hi:∀g:i<f.length,S f[i]):∀j (g:j<f.length),j<i+1→S f[j]:=by
 intro j g q;by_cases m:j<i
 ·exact h j g m
 have:j=i:=oq;subst this;exact hi g
theorem j5{g:List FL}{S:FL→Prop}{i:Nat}(h:∀j (m:j<g.length),j<i→S g[j])(hi:g.length≤i):∀f∈g,S f:=by
 intro f q;obtain⟨j,m,rfl⟩:=Ym q;exact h j m oq
theorem yE{w:World}(g:List FL)(O:Option Addr)(E mb:Nat)(L:List (ByteArray × Value))(env:Env)(X:Row FlC 8 w g O)(F:g.length≤E)(G:E≤9223372036854775807)
  (U:YT w mb L)(T:XY L env) :
  Calls prog 50 #[.map (some mb),.slice O g.length E] w fun x w'=>(yx x∨(x=Uo∧∀f∈g,FdS env f))∧Below w.heap.size w w':=by
 have Z:=hid X;have J:=hid U;have H:g.length≤9223372036854775807:=Zm F G;clear X U;go_enter func50,ntmps50;go_wp2;go_loopw [12] (fun v wr=>Hid (Zer w g (FdS env) v wr)) (fun i _=>g.length-(intOf i).toNat)
 case atStart=>exact⟨0,rfl,Zk _,fun j hj h=>absurd h oq,bq⟩
 obtain⟨i,rfl,hi,V,hbel⟩:=hrel.out;clear hrel;have HBEL:=hid hbel;have M:=hid V;have ag:=hbel.size;clear V;by_cases I:i<g.length
 ·have q:=Z.out.below Vs hbel;obtain⟨bb,oo,rfl,ab,A⟩:=q.at I;have m:=hid (fun h:FdS env g[i]=>yr (S:=FdS env) M.out (fun _=>h));obtain⟨f,hf⟩:=ez (g[i]);rw[hf] at A m;obtain⟨y,⟨k1,nm1,n1,d1,D,a1⟩,fa⟩:=f;obtain⟨aa,R,x0,x1,x2,x3,x4,x5,x6,x7,z,ac⟩:=A.cells
  try simp only at m
  have ae:(i:Int)<(g.length:Int):=oq
  cases hc:env y with
  | some c =>
   obtain⟨c1,c2⟩:=c;have C:=hid (show Xn y L=some (.agg #[.int .i64 c1,.int .i64 c2]) by rw[T y,hc];rfl);have Y:=hid (m.out (show FdS env _ from ⟨_,hc⟩));clear hbel q z hc m;go_wp2_with (at_lookup;refine X5 XG _ rfl _ _ rfl mb L y _ rfl rfl (J.out.below bq) C.out ?_);refine⟨⟨i+1,by go_num,oq,Y.out,bq⟩,by simp[intOf];omega⟩
  | none =>
   have C:=hid (show Xn y L=none by rw[T y,hc];rfl);clear hbel q z hc m;go_wp2_with (at_lookup;refine Xs XG _ rfl _ _ rfl mb L y rfl rfl (J.out.below bq) C.out ?_);go_ret2;exact⟨.inl ⟨fa,6,by decide,rfl⟩,bq⟩
 go_wp2;go_ret2;exact⟨.inr ⟨rfl,j5 (S:=FdS env) (i:=i) M.out oq⟩,HBEL.out⟩
def FcS(env:Env)(f:FL):Prop:=∃p q,Y1 env f.e=.ok p q∧env f.nm=some (p,q)
theorem yD{w:World}(g:List FL)(af:Option Addr)(cf mb:Nat)(L:List (ByteArray × Value))(env:Env)(hr:Row FlC 8 w g af)(ak:g.length≤cf)(D:cf≤9223372036854775807)
  (hM:YT w mb L)(hE:XY L env)(hA:∀f∈g,∃c,env f.nm=some c)(aa:RtE env) :
  Calls prog 52 #[.map (some mb),.slice af g.length cf] w fun x w'=>(yx x∨(x=Uo∧∀f∈g,FcS env f))∧Below w.heap.size w w':=by
 have HR:=hid hr;have HM:=hid hM;have HA:=hid hA;have ai:=hid aa;have al:g.length≤9223372036854775807:=Zm ak D;clear hr hM hA aa;go_enter func52,ntmps52;go_wp2;go_loopw [10] (fun v wr=>Hid (Zer w g (FcS env) v wr)) (fun i _=>g.length-(intOf i).toNat)
 case atStart=>exact⟨0,rfl,Zk _,fun j hj h=>absurd h oq,bq⟩
 obtain⟨i,rfl,hi,hS,hbel⟩:=hrel.out;clear hrel;have HBEL:=hid hbel;have HS:=hid hS;have ar:=hbel.size;clear hS;by_cases ah:i<g.length
 ·have I:=HR.out.below Vs hbel;obtain⟨bb,oo,rfl,an,ag⟩:=I.at ah;obtain⟨c,O⟩:=HA.out g[i] (Zi ah);have z:=hid (fun h:FcS env g[i]=>yr (S:=FcS env) HS.out (fun _=>h));obtain⟨f,hf⟩:=ez (g[i]);rw[hf] at ag O z;obtain⟨nm,⟨k1,nm1,n1,X,m,U⟩,M⟩:=f;obtain⟨aj,V,x0,x1,x2,x3,x4,x5,x6,x7,ac,ao⟩:=ag.cells;simp only at O;obtain⟨c1,c2⟩:=c;have E:=clock.Xq.1 (ai.out nm (c1,c2) O);simp only at E;have hg:Xn nm L=some (.agg #[.int .i64 c1,.int .i64 c2]):=by rw[hE nm,O];rfl
  have T:=hid hg;have J:=HM.out.below hbel;have aq:=J7 (w:=(wr.alloc (Obj.cells #[.string nm,.int .i64 k1,.string nm1,.int .i64 n1,.int .i64 X,.slice aj m.len V,.int .i64 U,.int .i64 M] 111)).drew) (J.below bq) hg;have F:=hid (za hE ⟨k1,nm1,n1,X,m,U⟩);have R:=hid ac;unfold QY at F;simp only at F;have A:∀p q,Y1 env ⟨k1,nm1,n1,X,m,U⟩=.ok p q→(p=c1∧q=c2)→FcS env ⟨nm,⟨k1,nm1,n1,X,m,U⟩,M⟩:=fun p q Y Z=>⟨p,q,Y,by rw[Z.1,Z.2];exact O⟩
  have ap:(i:Int)<(g.length:Int):=oq;have y:=hid J;clear hbel I ac O hg J;generalize htt:Y1 env ⟨k1,nm1,n1,X,m,U⟩=t at F A
  cases t with
  | unk =>
   simp only[TT.v] at F;have ae:=fun w=>UD w 0 0 0 0 false
   have am:¬(0:Int)=c1:=oq;clear A z htt E;go_wp2;go_region_with (go_at_call 89;(with_reducible refine(F.out _ _ _ _ (R.out.below bq) (y.out.below bq)).mono ?_);rintro x C ⟨rfl,hb2⟩;obtain⟨D,G⟩:=YC hb2;have a2:wr.heap.size<C.heap.size:=Yy hb2 oq;have H:=J7 (w:=C) (y.out.below bq) T.out)
   all_goals go_wp2
   all_goals (go_ret2;exact⟨.inl ⟨M,5,by decide,rfl⟩,bq⟩)
  | bad ab eb =>
   simp only[TT.v] at F;have ae:=fun w=>UD w 0 0 ab eb false
   have am:¬(0:Int)=c1:=oq;clear A z htt E;go_wp2;go_region_with (go_at_call 89;(with_reducible refine(F.out _ _ _ _ (R.out.below bq) (y.out.below bq)).mono ?_);rintro x C ⟨rfl,hb2⟩;obtain⟨D,G⟩:=YC hb2;have a2:wr.heap.size<C.heap.size:=Yy hb2 oq;have H:=J7 (w:=C) (y.out.below bq) T.out)
   all_goals go_wp2
   all_goals (go_ret2;exact⟨.inl ⟨M,5,by decide,rfl⟩,bq⟩)
  | ok p q =>
   simp only[TT.v] at F;have ae:=fun w=>UD w p q 0 0 true
   by_cases Y:p=c1
   ·by_cases Z:q=c2
    ·have HN:=hid (z.out (A p q rfl ⟨Y,Z⟩));subst Y;subst Z;clear A z htt E;go_wp2;go_region_with (go_at_call 89;(with_reducible refine(F.out _ _ _ _ (R.out.below bq) (y.out.below bq)).mono ?_);rintro x C ⟨rfl,hb2⟩;obtain⟨D,G⟩:=YC hb2;have a2:wr.heap.size<C.heap.size:=Yy hb2 oq;have H:=J7 (w:=C) (y.out.below bq) T.out)
     all_goals go_wp2
     all_goals refine⟨⟨i+1,by go_num,oq,HN.out,bq⟩,by simp[intOf];omega⟩
    subst Y;clear A z htt E;go_wp2;go_region_with (go_at_call 89;(with_reducible refine(F.out _ _ _ _ (R.out.below bq) (y.out.below bq)).mono ?_);rintro x C ⟨rfl,hb2⟩;obtain⟨D,G⟩:=YC hb2;have a2:wr.heap.size<C.heap.size:=Yy hb2 oq;have H:=J7 (w:=C) (y.out.below bq) T.out)
    all_goals go_wp2
    all_goals (go_ret2;exact⟨.inl ⟨M,5,by decide,rfl⟩,bq⟩)
   clear A z htt E;go_wp2;go_region_with (go_at_call 89;(with_reducible refine(F.out _ _ _ _ (R.out.below bq) (y.out.below bq)).mono ?_);rintro x C ⟨rfl,hb2⟩;obtain⟨D,G⟩:=YC hb2;have a2:wr.heap.size<C.heap.size:=Yy hb2 oq;have H:=J7 (w:=C) (y.out.below bq) T.out)
   all_goals go_wp2
   all_goals (go_ret2;exact⟨.inl ⟨M,5,by decide,rfl⟩,bq⟩)
 go_wp2;go_ret2;exact⟨.inr ⟨rfl,j5 (S:=FcS env) (i:=i) HS.out oq⟩,HBEL.out⟩
theorem Zgn:∀(l:List IN)(e:Env),RtE e→(∀x∈l,clock.YF x.per x.ph=true)→RtE (J4 l e):=by
 intro l
 induction l with
 | nil=>intro e h _;exact h
 | cons x l ih =>
  intro e h g;refine ih _ (fun nm c hc=>?_) (fun y hy=>g y (List.mem_cons_of_mem _ hy));unfold upd at hc;by_cases f:nm=x.nm
  ·rw[Z2 f] at hc;injection hc with hc;rw[←hc];exact g x List.mem_cons_self
  rw[Z1 f] at hc;exact h nm c hc
theorem Zd7{ins:List IN}(h:∀x∈ins,clock.YF x.per x.ph=true):RtE (Xc ins):=Zgn ins _ (fun nm c hc=>by cases hc) h
theorem GrE.trans{a:Env}{f:List FL}{b c:Env}(h:GrE a f b)(k:GrE b f c):GrE a f c:=by
 induction k with
 | base=>exact h
 | step _ h1 h2 h3 ih=>exact .step ih h1 h2 h3
structure UI (p:PG) (env:Env):Prop where
 rt:RtE env
 ext:Zc9 (Xc p.ins) env
 gr:GrE (Xc p.ins) p.flows env
 calls:X0 env p.flows=true
 flows:∀f∈p.flows,FcS env f
def ZeH(w:World)(p:PG)(x:Ending)(w':World):Prop :=
 ((∃a e,e≠0∧x=.returned (.tuple #[.slice none 0 0,.int .i64 a,.int .i64 e]))∨∃v env,x=.returned (.tuple #[v,.int .i64 0,.int .i64 0])∧UI p env∧ZeI w' v (p.flows.map (fun f=>Jv env f.nm)))∧Below w.heap.size w w'
def L2G(w W:World)(mb:Nat)(p:PG)(v:Value)(wr:World):Prop :=
 ∃(j:Nat)(env:Env)(L:List (ByteArray × Value)),v=.int .i64 (j:Int)∧j≤4∧CW w W wr mb∧YT wr mb L∧XY L env∧RtE env∧Zc9 (Xc p.ins) env∧GrE (Xc p.ins) p.flows env∧(2≤j→∀f∈p.flows,∃c,env f.nm=some c)∧(3≤j→X0 env p.flows=true)∧(4≤j→∀f∈p.flows,FcS env f)
theorem Kx{x:Ending}(h:yx x):∃a e,e≠0∧(e == 0)=false∧x=.returned (.tuple #[.int .i64 a,.int .i64 e]):=by
 obtain⟨a,e,f,g⟩:=h;exact⟨a,e,f,ZY.2 f,g⟩
theorem Eh{w:World}(p:PG)(an ai af ao:Option Addr)(cn ci cf co:Nat)(hp:AP w p an ai af ao cn ci cf co)(hs:zp p.nodes+E3 p.flows≤8000)(hl:p.flows.length≤1000)(hI:∀x∈p.ins,clock.YF x.per x.ph=true) :
  Calls prog 19 #[pv p an ai af ao cn ci cf co] w (ZeH w p):=by
 obtain⟨nodes,ins,flows,I⟩:=p;have bk:=Zd7 hI;simp only at hs hl bk;have bg:=hid (fun(w':World) (hb:Below w.heap.size w w')=>JA ⟨nodes,ins,flows,I⟩ an ai af ao cn ci cf co (hp.below hb) hs);unfold pv at bg;simp only at bg;have HI:=hid hp.ins;have HF:=hid hp.flows;have y:=hp.caps;simp only at y;have dd:ins.length≤9223372036854775807:=oq;have dc:flows.length≤9223372036854775807:=oq;have ck:=hid bk;clear hp hI bk;unfold pv;simp only;have de:=fun w=>run_makeMap (P:=prog) 118 w
 go_enter func19,ntmps19;go_wp2_with (go_at_call 48;refine(bg.out _ bq).mono ?_;rintro x w1 ⟨rfl,hb1⟩;obtain⟨cr,cu⟩:=YC hb1;have b1:w.heap.size<w1.heap.size:=Yy hb1 oq);have HB1:=hid hb1;have be:(w1.alloc (.map #[] 0)).heap[w.heap.size]?=some (.cells #[.slice an nodes.length cn,.slice ai ins.length ci,.slice af flows.length cf,.slice ao I.length co] 27 (0,0)):=(Za _ _ _ b1).trans ((hb1.block _ oq).trans (Yw w _));have ah:=hid (show CW w (w1.alloc (.map #[] 0)) (w1.alloc (.map #[] 0)) w1.heap.size from ⟨Upon.refl _ _,by simp;omega,bq,b1⟩);have bi:=hid (YT.new w1);have ak:=hid be;generalize w1.alloc (.map #[] 0)=W1 at *;obtain⟨V,bz⟩:=ez w1.heap.size;rw[bz] at b1 ah bi ⊢;clear bz cr cu hb1 HB1 be;go_loopw [22] (fun v wr=>Hid (ZfQ w W1 V ins v wr)) (fun i _=>ins.length-(intOf i).toNat)
 case atStart=>exact⟨0,fun _=>none,[],rfl,Zk _,ah.out,bi.out,Zbu,rfl⟩
 obtain⟨i,env,L,rfl,hi,z,J,hE,Z⟩:=hrel.out;clear hrel;have HM:=hid J;have m:=hid z;have HE:=hid hE;have g:=z.low;have ca:=J.lt;have q:=g.size;have A:=(z.upon.block _ (Zb ak.out) oq).trans ak.out;obtain⟨⟨p0,p1,p2,p3⟩,pf⟩:=Yx A;have ax:=hid A;have H:=Zb A;clear z J hE A;by_cases ar:i<ins.length
 ·obtain⟨bb,oo,rfl,ac,bd⟩:=HI.out.at ar;have bw:=bd.later g ac;rw[kN ar] at Z;obtain⟨f,hf⟩:=ez (ins[i]);rw[hf] at bw Z;obtain⟨nm,per,ph,fa⟩:=f;obtain⟨y0,y1,y2,y3,_⟩:=bw;simp only at y0 y1 y2 y3;have cd:=hid (show J4 (ins.drop (i+1)) (upd env nm (per,ph))=Xc ins from Z);have ap:(i:Int)<(ins.length:Int):=oq;have cq:bb<wr.heap.size:=oq;clear bd Z g;go_wp2_with (at_mapUpdate;refine XJ XG _ rfl _ _ _ rfl V L nm (cvv (per,ph)) rfl rfl rfl (HM.out.below bq) ?_;intro arr clock cy);refine⟨⟨i+1,upd env nm (per,ph),_,by go_num,oq,⟨m.out.upon.trans (YR ((Upon.refl _ _).alloc _) _),m.out.size,m.out.below,b1⟩,cy,HE.out.put nm (per,ph),cd.out⟩,by simp[intOf];omega⟩
 have ap:i=ins.length:=oq;subst ap;have ct:env=Xc ins:=by rw[Yp] at Z;exact Z
 subst ct;clear Z;obtain⟨W2,X⟩:∃W2,wr.alloc (Obj.cells #[.func (.func 49) #[.map (some V)] #[],.func (.func 50) #[.map (some V)] #[],.func (.func 51) #[.map (some V)] #[],.func (.func 52) #[.map (some V)] #[]] 119)=W2:=⟨_,rfl⟩;obtain⟨fb,ay⟩:=ez wr.heap.size;go_wp2
 try rw[X]
 have bp:=hid (show W2.heap[fb]?=some _ from by rw[←X,←ay];exact Yw wr _);have cz:W2.heap.size=fb+1:=by rw[←X,←ay];simp
 have az:=hid (show W2.heap[w.heap.size]?=some (.cells #[.slice an nodes.length cn,.slice ai ins.length ci,.slice af flows.length cf,.slice ao I.length co] 27 (0,0)) from by rw[←X];exact(Za _ _ _ H).trans ax.out);have bo:=hid (show CW w W2 W2 V from ⟨Upon.refl _ _,oq,by rw[←X];exact g.alloc q _,b1⟩);have cg:=hid (show YT W2 V L from by rw[←X];exact HM.out.below bq);rw[ay] at ca;clear X ay g q H p0 p1 p2 p3 pf ax HM m ak bi ah;go_loopw [45] (fun v wr=>Hid (L2G w W2 V ⟨nodes,ins,flows,I⟩ v wr)) (fun i _=>4-(intOf i).toNat)
 case atStart=>exact⟨0,Xc ins,L,rfl,oq,bo.out,cg.out,HE.out,ck.out,fun _ _ h=>h,.base,fun h=>absurd h oq,fun h=>absurd h oq,fun h=>absurd h oq⟩
 obtain⟨j,env,L2,rfl,hj,z,J,hE,R,hex,bl,E,F,aa⟩:=hrel.out;clear hrel;simp only at hex bl E F aa;have aw:=hid bl;have bj:=hid R;have av:=hid hex;have g:=z.low;have q:=g.size;have A:=(z.upon.block _ (Zb az.out) oq).trans az.out;have G:=(z.upon.block _ (Zb bp.out) oq).trans bp.out;obtain⟨⟨p0,p1,p2,p3⟩,pf⟩:=Yx A;obtain⟨⟨q0,q1,q2,q3⟩,qf⟩:=Yx G;have ax:=hid A;have D:=HF.out.below Vs g;have HM:=hid J;have au:=hid hE;have m:=hid z
 match j,hj with
 | 0,_ =>
  have HC:=hid (Zby (W0:=w) (w:=wr) flows af cf V L2 env g (Nat.le_of_lt b1) HF.out y.2.2.1.1 y.2.2.1.2 J hE R);have aj:=hid E;have bh:=hid F;clear z J hE D A G R hex E F aa g;go_wp2_with (go_at_call 49;refine HC.out.mono ?_;rintro x w3 ⟨C,cb⟩;unfold Uo at C;rcases C with C|⟨rfl,L3,env3,hM3,hE3,hR3,hX3,hG3⟩;obtain⟨ab,eb,U,al,rfl⟩:=Kx C)
  all_goals first|(go_ret3;exact⟨.inl ⟨ab,eb,U,rfl⟩,m.out.low.trans (cb.below q (Nat.le_of_lt b1))⟩)|exact⟨⟨1,env3,L3,by go_num,oq,⟨m.out.upon.trans cb,m.out.size,m.out.below,b1⟩,hM3,hE3,hR3,fun nm c h=>hX3 nm c (av.out nm c h),aw.out.trans hG3,fun h=>absurd h oq,fun h=>absurd h oq,fun h=>absurd h oq⟩,by simp[intOf]⟩
 | 1,_ =>
  have HC:=hid (yE (w:=wr) flows af cf V L2 env D y.2.2.1.1 y.2.2.1.2 J hE);have aj:=hid E;have bh:=hid F;clear z J hE D A G R hex E F aa g;go_wp2_with (go_at_call 50;refine HC.out.mono ?_;rintro x w3 ⟨C,hb3⟩;unfold Uo at C;rcases C with C|⟨rfl,hall⟩;obtain⟨ab,eb,U,al,rfl⟩:=Kx C)
  all_goals first|(go_ret3;exact⟨.inl ⟨ab,eb,U,rfl⟩,m.out.low.trans (hb3.mono q)⟩)|exact⟨⟨2,env,L2,by go_num,oq,⟨m.out.upon.trans (Upon.of_below hb3),m.out.size,m.out.below,b1⟩,HM.out.below hb3,au.out,bj.out,av.out,aw.out,fun _=>hall,fun h=>absurd h oq,fun h=>absurd h oq⟩,by simp[intOf]⟩
 | 2,_ =>
  have HC:=hid (yB (w:=wr) flows af cf V L2 env D y.2.2.1.1 y.2.2.1.2 J hE);have aj:=hid (E oq);clear z J hE D A G R hex E F aa g
  cases hck:X0 env flows with
  | false =>
   rw[hck] at HC;go_wp2_with (go_at_call 51;go_loud (refine HC.out.mono ?_;rintro x w3 ⟨⟨ab,eb,U,rfl⟩,hb3⟩;have al:(eb == 0)=false:=ZY.2 U));go_ret3;exact⟨.inl ⟨ab,eb,U,rfl⟩,m.out.low.trans (hb3.mono q)⟩
  | true =>
   rw[hck] at HC;go_wp2_with (go_at_call 51;go_loud (refine HC.out.mono ?_;rintro x w3 ⟨he,hb3⟩;obtain rfl:x=.returned (.tuple #[.int .i64 0,.int .i64 0]):=he));refine⟨⟨3,env,L2,by go_num,oq,⟨m.out.upon.trans (Upon.of_below hb3),m.out.size,m.out.below,b1⟩,HM.out.below hb3,au.out,bj.out,av.out,aw.out,fun _=>aj.out,fun _=>hck,fun h=>absurd h oq⟩,by simp[intOf]⟩
 | 3,_ =>
  have HC:=hid (yD (w:=wr) flows af cf V L2 env D y.2.2.1.1 y.2.2.1.2 J hE (E oq) R);have aj:=hid E;have bh:=hid F;clear z J hE D A G R hex E F aa g;go_wp2_with (go_at_call 52;refine HC.out.mono ?_;rintro x w3 ⟨C,hb3⟩;unfold Uo at C;rcases C with C|⟨rfl,hfc⟩;obtain⟨ab,eb,U,al,rfl⟩:=Kx C)
  all_goals first|(go_ret3;exact⟨.inl ⟨ab,eb,U,rfl⟩,m.out.low.trans (hb3.mono q)⟩)|exact⟨⟨4,env,L2,by go_num,oq,⟨m.out.upon.trans (Upon.of_below hb3),m.out.size,m.out.below,b1⟩,HM.out.below hb3,au.out,bj.out,av.out,aw.out,fun _=>aj.out oq,fun _=>bh.out oq,fun _=>hfc⟩,by simp[intOf]⟩
 | 4,_ =>
  have bc:=E oq;have br:=hid bc;have cc:=hid (show UI ⟨nodes,ins,flows,I⟩ env from ⟨R,hex,bl,F oq,aa oq⟩);obtain⟨W3,Y⟩:=ez (wr.alloc (.cells (madeCells #[.int .i64 0,.int .i64 0] (flows.length*2)) 62));obtain⟨b,hb⟩:=ez wr.heap.size;have H:=Zb A;have bm:=J.lt;have bf:W3.heap[w.heap.size]?=some (.cells #[.slice an nodes.length cn,.slice ai ins.length ci,.slice af flows.length cf,.slice ao I.length co] 27 (0,0)):=by rw[←Y];exact(Za _ _ _ H).trans A
  obtain⟨⟨r0,r1,r2,r3⟩,rf⟩:=Yx bf;clear z J hE D G R hex E F aa bc;go_wp2_with (at_make;refine ZaS _ rfl _ _ rfl flows.length rfl rfl hl ?_)
  try rw[Y]
  try rw[hb]
  have bt:W3.heap[b]?=some (.cells (madeCells #[.int .i64 0,.int .i64 0] (flows.length*2)) 62 (0,0)):=by rw[←Y,←hb];exact Yw wr _
  have HB3:=hid bt;have da:W3.heap.size=b+1:=by rw[←Y,←hb];simp
  have aq:Below w.heap.size w W3:=by rw[←Y];exact g.alloc q _
  have bs:=hid aq;have ch:=hid (show YT W3 V L2 from by rw[←Y];exact HM.out.below bq);rw[hb] at bm H q;clear Y hb aq g bt A bf HM ax m p0 p1 p2 p3 pf q0 q1 q2 q3 qf r0 r1 r2 r3 rf;go_loopw [68] (fun v wr=>Hid (ZfR w W3 V b env L2 flows v wr)) (fun i _=>flows.length-(intOf i).toNat)
  case atStart=>exact⟨0,_,rfl,Zk _,Upon.refl _ _,HB3.out,Zai _,fun j h hj=>absurd hj oq⟩
  obtain⟨i,arr,rfl,hi,ae,T,bu,O⟩:=hrel.out;clear hrel;have g:=bs.out.trans (ae.below oq (Nat.le_of_lt H));have q:=g.size;have db:=ae.size;have cl:=hid ae;have ag:=hid T;have M:=zA T;have J:=ch.out.upon ae oq;have bn:=hid O;by_cases ar:i<flows.length
  ·obtain⟨bb,oo,rfl,ac,ba⟩:=HF.out.at ar;have am:=ba.later g ac;obtain⟨c,hc⟩:=br.out flows[i] (Zi ar);obtain⟨f,hf⟩:=ez (flows[i]);have ce:=hid hf;rw[hf] at am hc;obtain⟨nm,⟨k1,nm1,n1,d1,cm,a1⟩,fa⟩:=f;obtain⟨ad,cap,y0,y1,y2,y3,y4,y5,y6,y7,cp,cv⟩:=am.cells;obtain⟨c1,c2⟩:=c;have HG:=hid (show Xn nm L2=some (.agg #[.int .i64 c1,.int .i64 c2]) by rw[au.out nm,hc];rfl);have ap:(i:Int)<(flows.length:Int):=oq;have cq:bb<wr.heap.size:=oq;have bv:b<wr.heap.size:=Zb T;have z0:wr.cell? ⟨b,i*2,none⟩=some arr[i*2]:=by rw[(M _).1];exact Yn oq
   have z1:wr.cell? ⟨b,i*2+1,none⟩=some arr[i*2+1]:=by rw[(M _).1];exact Yn oq
   have df:=(M (i*2)).2;have dg:=(M (i*2+1)).2;have cj:=hid J;have HC:=hid hc;clear ae T O M J am ba hf hc cp cv g ac;go_wp2_with (at_lookup;refine Kj XG _ rfl _ _ rfl V L2 nm _ rfl rfl (cj.out.below bq) HG.out ?_);refine⟨⟨i+1,_,by go_num,oq,((cl.out.setAt (.inl rfl) _).setAt (.inl rfl) _).alloc _,(Za _ _ _ (by simpa [World.setCell] using bv)).trans (xS (xS ag.out (i*2) (.int .i64 c1)) (i*2+1) (.int .i64 c2)),by simpa using bu,fun j hj hji=>?_⟩,by simp[intOf];omega⟩;by_cases cx:j<i
   ·have h:=bn.out j hj cx;rw[Array.getElem?_setIfInBounds_ne oq,Array.getElem?_setIfInBounds_ne oq,Array.getElem?_setIfInBounds_ne oq,Array.getElem?_setIfInBounds_ne oq];exact h
   have cw:j=i:=oq;subst cw;have hk:Jv env flows[j].nm=(c1,c2):=by rw[ce.out];unfold Jv;rw[HC.out];rfl
   rw[hk];rw[Array.getElem?_setIfInBounds_ne oq,Array.getElem?_setIfInBounds_self_of_lt oq,Array.getElem?_setIfInBounds_self_of_lt (by rw[Array.size_setIfInBounds];omega)];exact⟨rfl,rfl⟩
  have ap:i=flows.length:=oq;subst ap;clear ae T O M J;go_wp2;go_ret3;refine⟨.inr ⟨_,env,rfl,cc.out,b,by simp,Zb ag.out,fun j hj=>?_⟩,g⟩;have bx:j<flows.length:=by simpa using hj
  have h:=bn.out j bx bx;have M:=zA ag.out;refine⟨(M _).1.trans ?_,(M _).1.trans ?_⟩
  ·rw[h.1];simp
  rw[h.2];simp
 | j+5,h=>exact absurd h oq
theorem Zef{c:Nat}:∀l:List ND,(∀x∈l,x.body.sz≤c)→zp l≤l.length*c:=by
 intro l
 induction l with
 | nil=>intro _;simp[zp]
 | cons x l ih =>
  intro h;have f:=h x (by simp);have g:=ih (fun y hy=>h y (by simp[hy]));unfold PE.sz at f;simp only[zp,Zp,Nat.succ_mul];omega
theorem Zee{c:Nat}:∀l:List FL,(∀x∈l,x.e.sz≤c)→E3 l≤l.length*c:=by
 intro l
 induction l with
 | nil=>intro _;simp[E3]
 | cons x l ih =>
  intro h;have f:=h x (by simp);have g:=ih (fun y hy=>h y (by simp[hy]));unfold PE.sz at f;simp only[E3,Zp,Nat.succ_mul];omega
theorem yn{l:PL}(h:szL l 1 100≤100):l.sz+1≤100:=by
 have:=Zfz l 1 100 oq oq h;omega
structure JX (p:PG):Prop where
 nodes:∀x∈p.nodes,UG x.body∧x.body.sz≤100
 flows:∀x∈p.flows,x.e.sz≤100∧YE x.e=true
 lens:p.nodes.length≤40∧p.ins.length≤40∧p.flows.length≤40∧p.outs.length≤40
 sums:zp p.nodes+E3 p.flows≤8000
 ins:∀x∈p.ins,clock.YF x.per x.ph=true
theorem Ve.ok{p:PG}(h:Ve p):JX p:=by
 have y:=h.lens;have f:∀x∈p.nodes,UG x.body∧x.body.sz≤100:=fun x hx=>⟨eA (h.nodes x hx).2.2.2.2,yn (h.nodes x hx).1⟩
 have g:∀x∈p.flows,x.e.sz≤100∧YE x.e=true:=fun x hx=>⟨yn (h.flows x hx).1,(h.flows x hx).2⟩
 refine⟨f,g,oq,?_,fun x hx=>?_⟩
 ·have q:=Zef p.nodes (fun x hx=>(f x hx).2);have v:=Zee p.flows (fun x hx=>(g x hx).1);omega
 obtain⟨j,m⟩:=h.ins x hx;simp only[inB,ZB,Yk] at j m;exact clock.YQ ⟨oq,oq,oq,oq⟩
def Zgu(W2:World)(v:Value)(wr:World):Prop:=∃j:Nat,v=.int .i64 (j:Int)∧j≤4∧Below W2.heap.size W2 wr
theorem Zam{w:World}(p:PG)(an A z C:Option Addr)(F E D G:Nat)(J:AP w p an A z C F E D G)(hz:NZ w p.nodes an)(I:JX p) :
  Calls prog 126 #[pv p an A z C F E D G] w fun x w'=>Qu x∧Below w.heap.size w w':=by
 obtain⟨nodes,ins,f,g⟩:=p;have O:∀w',Below w.heap.size w w'→NZ w' nodes an:=fun w' hb=>hz.below J.nodes hb
 have L:=hid (fun(w':World) (hb:Below w.heap.size w w')=>JA ⟨nodes,ins,f,g⟩ an A z C F E D G (J.below hb) I.sums);have H0:=hid (fun(w':World) (hb:Below w.heap.size w w')=>yF (w:=w') nodes ins f g an A z C F E D G (J.below hb) (O w' hb) I.nodes);have H1:=hid (fun(w':World) (hb:Below w.heap.size w w')=>G9 (w:=w') nodes ins f g an A z C F E D G (J.below hb));have H2:=hid (fun(w':World) (hb:Below w.heap.size w w')=>yC (w:=w') nodes ins f g an A z C F E D G (J.below hb));have H3:=hid (fun(w':World) (hb:Below w.heap.size w w')=>G8 (w:=w') nodes ins f g an A z C F E D G (J.below hb));clear J I hz O;unfold pv Qu at *;simp only at L H0 H1 H2 H3 ⊢;go_enter func126,ntmps126;go_wp2_with (go_at_call 48;refine(L.out _ bq).mono ?_;rintro x T ⟨rfl,hb1⟩;obtain⟨Z,aa⟩:=YC hb1;have b1:w.heap.size<T.heap.size:=Yy hb1 oq);obtain⟨M,q⟩:=ez (T.alloc (Obj.cells #[.func (.func 157) #[] #[],.func (.func 158) #[] #[],.func (.func 159) #[] #[],.func (.func 160) #[] #[]] 224));obtain⟨fb,y⟩:=ez T.heap.size;have V:=hid (show M.heap[w.heap.size]?=some (.cells #[.slice an nodes.length F,.slice A ins.length E,.slice z f.length D,.slice C g.length G] 27 (0,0)) from by rw[←q];exact(Za _ _ _ b1).trans ((hb1.block _ oq).trans (Yw w _)));have U:=hid (show M.heap[fb]?=some _ from by rw[←q,←y];exact Yw T _);have HB2:=hid (show Below w.heap.size w M from by rw[←q];exact bq);have ab:M.heap.size=fb+1:=by rw[←q,←y];simp
 rw[y] at b1
 try rw[q]
 try rw[y]
 clear q y hb1 Z aa;go_loopw [13] (fun v wr=>Hid (Zgu M v wr)) (fun i _=>4-(intOf i).toNat)
 case atStart=>exact⟨0,rfl,oq,Zg _ _⟩
 obtain⟨j,rfl,hj,hbel⟩:=hrel.out;clear hrel;have m:=hbel.size;have R:=(hbel.block _ oq).trans V.out;have H:=(hbel.block _ oq).trans U.out;obtain⟨⟨p0,p1,p2,p3⟩,pf⟩:=Yx R;obtain⟨⟨q0,q1,q2,q3⟩,qf⟩:=Yx H;have HBW:=hid (HB2.out.trans (hbel.mono oq));have HB:=hid hbel;clear R H hbel
 match j,hj with
 | 0,_ =>
  go_wp2_with (go_at_call 157;refine(H0.out _ HBW.out).mono ?_;rintro x w3 ⟨⟨X,Y,rfl⟩,hb3⟩;have HB3:=hid hb3;clear hb3)
  ·go_ret2;exact⟨⟨_,_,rfl⟩,HBW.out.trans (HB3.out.mono (by have:=HBW.out.size;omega))⟩
  refine⟨⟨1,by go_num,oq,HB.out.trans (HB3.out.mono m)⟩,by simp[intOf]⟩
 | 1,_ =>
  go_wp2_with (go_at_call 158;refine(H1.out _ HBW.out).mono ?_;rintro x w3 ⟨⟨X,Y,rfl⟩,hb3⟩;have HB3:=hid hb3;clear hb3)
  ·go_ret2;exact⟨⟨_,_,rfl⟩,HBW.out.trans (HB3.out.mono (by have:=HBW.out.size;omega))⟩
  refine⟨⟨2,by go_num,oq,HB.out.trans (HB3.out.mono m)⟩,by simp[intOf]⟩
 | 2,_ =>
  go_wp2_with (go_at_call 159;refine(H2.out _ HBW.out).mono ?_;rintro x w3 ⟨⟨X,Y,rfl⟩,hb3⟩;have HB3:=hid hb3;clear hb3)
  ·go_ret2;exact⟨⟨_,_,rfl⟩,HBW.out.trans (HB3.out.mono (by have:=HBW.out.size;omega))⟩
  refine⟨⟨3,by go_num,oq,HB.out.trans (HB3.out.mono m)⟩,by simp[intOf]⟩
 | 3,_ =>
  go_wp2_with (go_at_call 160;refine(H3.out _ HBW.out).mono ?_;rintro x w3 ⟨⟨X,Y,rfl⟩,hb3⟩;have HB3:=hid hb3;clear hb3)
  ·go_ret2;exact⟨⟨_,_,rfl⟩,HBW.out.trans (HB3.out.mono (by have:=HBW.out.size;omega))⟩
  refine⟨⟨4,by go_num,oq,HB.out.trans (HB3.out.mono m)⟩,by simp[intOf]⟩
 | 4,_ =>
  go_wp2;go_ret2;exact⟨⟨_,_,rfl⟩,HBW.out⟩
 | j+5,h=>exact absurd h oq
theorem eF{w:World}(p:PG)(an q m y:Option Addr)(C A z D:Nat)(E:AP w p an q m y C A z D)(J:NZ w p.nodes an)(f:JX p) :
  Calls prog 92 #[pv p an q m y C A z D] w (ZeH w p):=by
 have j:=hid (fun(w':World) (hb:Below w.heap.size w w')=>Zam (w:=w') p an q m y C A z D (E.below hb) (J.below E.nodes hb) f);have g:=hid (fun(w':World) (hb:Below w.heap.size w w')=>Eh (w:=w') p an q m y C A z D (E.below hb) f.sums (by have:=f.lens;omega) f.ins);obtain⟨nodes,ins,F,L⟩:=p;clear E J f;unfold pv at *;unfold Qu at j;unfold ZeH at g ⊢;simp only at j g ⊢;go_enter func92,ntmps92;go_wp2_with (first|(go_at_call 126;refine(j.out _ bq).mono ?_;rintro x T ⟨⟨M,I,rfl⟩,hb1⟩;obtain⟨O,R⟩:=YC hb1;have U:w.heap.size<T.heap.size:=Yy hb1 oq)|(go_at_call 19;refine(g.out _ bq).mono ?_;rintro x V ⟨H,hb2⟩;rcases H with ⟨a2,e2,he2,rfl⟩|⟨v,env,rfl,hcf,hrow⟩))
 ·have G:I≠0:=by rename_i hq;simpa using hq
  go_ret3;exact⟨.inl ⟨M,I,G,rfl⟩,bq⟩
 ·go_ret3;exact⟨.inl ⟨a2,e2,he2,rfl⟩,bq⟩
 go_ret3;exact⟨.inr ⟨v,env,rfl,hcf,hrow⟩,bq⟩
end Go.Proofs.YtgigilkpndhddaaGreatDoor.syn
