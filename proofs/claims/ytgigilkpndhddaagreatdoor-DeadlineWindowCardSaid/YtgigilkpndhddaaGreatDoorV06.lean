/- Parts of the proof. -/
import Derived.Deep.CutBlock
import Derived.Deep.DeepCutAuto
import Derived.Deep.OwnRows
import Derived.Test.YtgigilkpndhddaaGreatDoorV05
set_option linter.all false
set_option maxRecDepth 100000
set_option maxHeartbeats 16000000
namespace Go.Proofs.YtgigilkpndhddaaGreatDoor.syn
open Tryz
open Go.RowKit
theorem VZ{w:World}{b:Nat}{f g:Value}{t:TypeId}(h:w.heap[b]?=some (.cells #[f,g] t (0,0))) :
  (w.cell? ⟨b,0,none⟩=some f∧w.cell? ⟨b,1,none⟩=some g)∧∀o,w.frozen? ⟨b,o,none⟩=false:=by
 refine⟨⟨?_,?_⟩,?_⟩
 all_goals first|(intro o;simp[World.frozen?,h])|simp[World.cell?,h]
theorem gG{w:World}{r:Nat}{a b:Value}{t:TypeId}(h:w.heap[r]?=some (.cells #[a,b] t (0,0)))(o:Nat)(u:Value) :
  (w.setCell ⟨r,o,none⟩ u).heap[r]?=some (.cells (#[a,b].setIfInBounds o u) t (0,0)):=by
 have f:=Zb h;have g:w.heap[r]=.cells #[a,b] t (0,0):=by simpa [Yn f] using h
 show(w.heap.modify r _)[r]?=_;rw[Yn (by simpa using f),Array.getElem_modify_self,g];rfl
theorem set2{w:World}{r:Nat}{a b a' b':Value}{t:TypeId}(h:w.heap[r]?=some (.cells #[a,b] t (0,0))) :
  ((w.setCell ⟨r,0,none⟩ a').setCell ⟨r,1,none⟩ b').heap[r]?=some (.cells #[a',b'] t (0,0)):=gG (a:=a') (b:=b) (gG h 0 a') 1 b'
theorem ZaO(env:Env)(k:Int)(nm:ByteArray)(n d a:Int)(args:PL):(∃ab eb,Xh env k nm n d a (YU env args)=.bad ab eb) ∨
  ∃p f kb,(Xh env k nm n d a (YU env args)).v=.agg #[.int .i64 p,.int .i64 f,.bool kb,.int .i64 0,.int .i64 0] ∧
   (∀c tl,ckL env c (.cons k nm n d args a tl)=(decide ((p,f)=c)&&ckL env c tl))∧∀tl,ckA env (.cons k nm n d args a tl)=ckL env (p,f) tl:=by
 cases h:Xh env k nm n d a (YU env args) with
 | bad ab eb=>exact .inl ⟨ab,eb,rfl⟩
 | unk=>exact .inr ⟨0,0,false,rfl,fun c tl=>by rw[ckL,h],fun tl=>by rw[ckA,h]⟩
 | ok p f=>exact .inr ⟨p,f,true,rfl,fun c tl=>by rw[ckL,h],fun tl=>by rw[ckA,h]⟩
theorem Zdv{env:Env}{k:Int}{nm:ByteArray}{n d a ab f:Int}{args:PL}(h:Xh env k nm n d a (YU env args)=.bad ab f)(c:Int × Int)(g:PL):ckL env c (.cons k nm n d args a g)=false:=by rw[ckL,h]
theorem Zdt{env:Env}{k:Int}{nm:ByteArray}{n d a ab f:Int}{args:PL}(h:Xh env k nm n d a (YU env args)=.bad ab f)(g:PL):ckA env (.cons k nm n d args a g)=false:=by rw[ckA,h]
def yv(b:Bool)(x:Ending):Prop:=if b=true then x=Uo else ∃a e,e≠0∧x=.returned (.tuple #[.int .i64 a,.int .i64 e])
def ZfE(w:World)(env:Env)(e:PE)(ad:Option Addr)(cap:Nat)(v:Value)(wr:World):Prop :=
 ∃(i:Nat)(rest:PL)(c1 c2:Int),v=.int .i64 (i:Int)∧Qs w ad e.args rest i∧(i=0→rest=e.args)∧(i≠0→ckL env (c1,c2) rest=ckA env e.args) ∧
  wr.heap[w.heap.size]?=some (.cells #[.int .i64 e.k,.string e.nm,.int .i64 e.n,.int .i64 e.d,.slice ad e.args.len cap,.int .i64 e.a] 88 (0,0)) ∧
  wr.heap[w.heap.size+1]?=some (.cells #[.int .i64 c1,.int .i64 c2] 62 (0,0))∧Below w.heap.size w wr
theorem xQ{w:World}(e:PE)(ad:Option Addr)(cap mb:Nat)(L:List (ByteArray × Value))(env:Env)(V:AE w e ad cap)(hM:YT w mb L)(hE:XY L env) :
  Calls prog 91 #[.map (some mb),.agg #[.int .i64 e.k,.string e.nm,.int .i64 e.n,.int .i64 e.d,.slice ad e.args.len cap,.int .i64 e.a]] w fun x w'=>yv (ckA env e.args) x∧Below w.heap.size w w':=by
 obtain⟨k,nm,n,d,args,a⟩:=e;have ah:=V.len;simp only at ah ⊢;have HA:=hid V;have HM:=hid hM;clear V hM;obtain⟨r,hr⟩:=ez (ckA env args);rw[hr];have HR:=hid hr;clear hr;go_enter func91,ntmps91;go_wp2;go_loopw [13] (fun v wr=>Hid (ZfE w env ⟨k,nm,n,d,args,a⟩ ad cap v wr)) (fun i _=>args.len-(intOf i).toNat)
 case atStart=>exact⟨0,args,0,0,rfl,Qs.start HA.out.args,fun _=>rfl,fun h=>absurd rfl h,(Z5 _ _ (by simp)).trans (Yw w _),by simpa using Yw (w.alloc _) _,bq⟩
 obtain⟨i,rest,c1,c2,rfl,y,R,q,E,F,hbel⟩:=hrel.out;clear hrel;simp only at R q;obtain⟨⟨x0,x1,x2,x3,x4,x5⟩,xf⟩:=Xm E;obtain⟨⟨g0,g1⟩,gf⟩:=VZ F;have m:=hid E;have A:=hid F;have HBEL:=hid hbel;have aa:=y.1;simp only at aa;have O:=Zb E;have D:=Zb F;have ap:=hbel.size;have T:=hid y;have aj:=hid (y.below hbel);clear E F hbel y
 cases rest with
 | nil =>
  have ag:(i:Int)=(args.len:Int):=by simp only[PL.len] at aa;omega
  have h1:r=true:=by
   rw[←HR.out];by_cases C:i=0
   ·rw[←R C];rfl
   rw[←q C];rfl
  subst h1;clear R q;go_wp2;go_ret2;exact⟨rfl,HBEL.out⟩
 | cons k1 nm1 n1 d1 args1 a1 tl =>
  have ag:(i:Int)<(args.len:Int):=by simp only[PL.len] at aa;omega
  obtain⟨b,o,rfl,hb,C,h1,h2,h3,h5,hn,⟨ak,ac,h4,Y,ae,af⟩,ht⟩:=aj.out.2.2.resolve_left (by intro h;cases h);have M:=hid (za hE ⟨k1,nm1,n1,d1,args1,a1⟩);have HE:=hid (show AE wr ⟨k1,nm1,n1,d1,args1,a1⟩ ak ac from ⟨hn,⟨Y,ae⟩,af⟩);have hgd:=UA env ⟨k1,nm1,n1,d1,args1,a1⟩;unfold QY at M;simp only at M;have ai:Y1 env ⟨k1,nm1,n1,d1,args1,a1⟩=Xh env k1 nm1 n1 d1 a1 (YU env args1):=rfl;rw[ai] at M hgd;clear ai ht hn af;rcases ZaO env k1 nm1 n1 d1 a1 args1 with ⟨ab,eb,hbad⟩|⟨p,f,kb,hv,hckl,hcka⟩
  ·have h1:r=false:=by
    rw[←HR.out];by_cases C:i=0
    ·rw[←R C];exact Zdt hbad tl
    rw[←q C];exact Zdv hbad (c1,c2) tl
   subst h1;rw[hbad] at M hgd;simp only[TT.v] at M;have ao:(eb == 0)=false:=ZY.2 hgd;clear R q hbad;go_wp2_with (go_at_call 89;(with_reducible refine(M.out _ _ _ _ (HE.out.below bq) (HM.out.below bq)).mono ?_);rintro x z ⟨rfl,hb2⟩;obtain⟨X,Z⟩:=YC hb2;have a2:w.heap.size<z.heap.size:=Yy hb2 oq;have H:w.heap.size+1<z.heap.size:=Yy hb2 oq;have a3:wr.heap.size<z.heap.size:=Yy hb2 oq;have j:=(hb2.block w.heap.size oq).trans ((Z5 _ _ O).trans m.out);obtain⟨⟨y0,y1,y2,y3,y4,y5⟩,yf⟩:=Xm j;have g:=(hb2.block (w.heap.size+1) oq).trans ((Z5 _ _ D).trans A.out);obtain⟨⟨z0,z1⟩,zf⟩:=VZ g;have G:=hid g;clear j g);go_quiet (fail);go_wp2;go_ret2;exact⟨⟨ab,eb,hgd,rfl⟩,bq⟩
  rw[hv] at M;clear hv hgd;by_cases C:i=0
  ·have al:((i:Int) == 0)=true:=by rw[beq_iff_eq];omega
   have hq:=fun w=>J1 p f p f w
   simp only[and_self,decide_true] at hq;have h2:ckL env (p,f) tl=ckA env args:=by rw[←R C,hcka tl]
   have H2:=hid h2;have an:=hid C;clear R q hckl hcka C h2;go_wp2_with (go_at_call 89;(with_reducible refine(M.out _ _ _ _ (HE.out.below bq) (HM.out.below bq)).mono ?_);rintro x z ⟨rfl,hb2⟩;obtain⟨X,Z⟩:=YC hb2;have a2:w.heap.size<z.heap.size:=Yy hb2 oq;have H:w.heap.size+1<z.heap.size:=Yy hb2 oq;have a3:wr.heap.size<z.heap.size:=Yy hb2 oq;have j:=(hb2.block w.heap.size oq).trans ((Z5 _ _ O).trans m.out);obtain⟨⟨y0,y1,y2,y3,y4,y5⟩,yf⟩:=Xm j;have g:=(hb2.block (w.heap.size+1) oq).trans ((Z5 _ _ D).trans A.out);obtain⟨⟨z0,z1⟩,zf⟩:=VZ g;have G:=hid g;clear j g);refine⟨⟨i+1,tl,p,f,by go_num,T.out.tail,fun h=>oq,fun _=>H2.out,?_,?_,bq⟩,by simp[intOf];omega⟩
   ·exact(Below.block (show Below (w.heap.size+1) wr _ from bq) _ oq).trans m.out
   exact(Z5 _ _ (by simpa [World.setCell] using H)).trans (set2 G.out)
  have al:((i:Int) == 0)=false:=by rw[ZY];omega
  have J:=q C;rw[hckl (c1,c2) tl] at J;have am:=hid C;by_cases I:p=c1∧f=c2
  ·obtain⟨rfl,rfl⟩:=I;have hq:=fun w=>J1 p f p f w
   simp only[and_self,decide_true] at hq;have H2:=hid (show ckL env (p,f) tl=ckA env args by rw[←J];simp);clear R q hckl hcka C J;go_wp2_with (go_at_call 89;(with_reducible refine(M.out _ _ _ _ (HE.out.below bq) (HM.out.below bq)).mono ?_);rintro x z ⟨rfl,hb2⟩;obtain⟨X,Z⟩:=YC hb2;have a2:w.heap.size<z.heap.size:=Yy hb2 oq;have H:w.heap.size+1<z.heap.size:=Yy hb2 oq;have a3:wr.heap.size<z.heap.size:=Yy hb2 oq;have j:=(hb2.block w.heap.size oq).trans ((Z5 _ _ O).trans m.out);obtain⟨⟨y0,y1,y2,y3,y4,y5⟩,yf⟩:=Xm j;have g:=(hb2.block (w.heap.size+1) oq).trans ((Z5 _ _ D).trans A.out);obtain⟨⟨z0,z1⟩,zf⟩:=VZ g;have G:=hid g;clear j g);refine⟨⟨i+1,tl,p,f,by go_num,T.out.tail,fun h=>oq,fun _=>H2.out,?_,?_,bq⟩,by simp[intOf];omega⟩
   ·exact(Below.block (show Below (w.heap.size+1) wr _ from bq) _ oq).trans m.out
   exact(Z5 _ _ H).trans G.out
  have hq:=fun w=>J1 p f c1 c2 w
  simp only[I,decide_false] at hq;have h1:r=false:=by
   rw[←HR.out,←J];have:¬((p,f)=(c1,c2)):=by intro e;injection e with e1 e2;exact I ⟨e1,e2⟩
   rw[ZZ this];rfl
  subst h1;have U:=hid I;clear R q hckl hcka C J I;go_wp2_with (go_at_call 89;(with_reducible refine(M.out _ _ _ _ (HE.out.below bq) (HM.out.below bq)).mono ?_);rintro x z ⟨rfl,hb2⟩;obtain⟨X,Z⟩:=YC hb2;have a2:w.heap.size<z.heap.size:=Yy hb2 oq;have H:w.heap.size+1<z.heap.size:=Yy hb2 oq;have a3:wr.heap.size<z.heap.size:=Yy hb2 oq;have j:=(hb2.block w.heap.size oq).trans ((Z5 _ _ O).trans m.out);obtain⟨⟨y0,y1,y2,y3,y4,y5⟩,yf⟩:=Xm j;have g:=(hb2.block (w.heap.size+1) oq).trans ((Z5 _ _ D).trans A.out);obtain⟨⟨z0,z1⟩,zf⟩:=VZ g;have G:=hid g;clear j g)
  all_goals first|(exact(U.out ⟨rfl,rfl⟩).elim)|(exact(U.out ⟨by assumption,by assumption⟩).elim)|(exact(U.out ⟨by first|rfl|(symm;assumption),by first|rfl|(symm;assumption)⟩).elim)|(go_ret2;exact⟨⟨a,5,by decide,rfl⟩,bq⟩)
theorem UD(w:World)(p f a e:Int)(g:Bool):(Instr.field 172 (.agg #[.int .i64 p,.int .i64 f,.bool g,.int .i64 a,.int .i64 e]) 0).run prog w=.ok (.agg #[.int .i64 p,.int .i64 f]) w:=by kernel_rfl
theorem J7{w:World}{mb:Nat}{L:List (ByteArray × Value)}{nm:ByteArray}{v:Value}(h:YT w mb L)(f:Xn nm L=some v) :
  (Instr.lookup 118 (.map (some mb)) (.string nm) false).run prog w=.ok v w:=by
 have:=Qf XG h nm false;rw[f] at this;exact this
theorem ZeX{w:World}{b:Nat}{f:Value}{t:TypeId}(h:w.heap[b]?=some (.cells #[f] t (0,0))) :
  w.cell? ⟨b,0,none⟩=some f∧∀o,w.frozen? ⟨b,o,none⟩=false:=by
 refine⟨?_,?_⟩
 all_goals first|(intro o;simp[World.frozen?,h])|simp[World.cell?,h]
theorem set1{w:World}{r:Nat}{a u:Value}{t:TypeId}(h:w.heap[r]?=some (.cells #[a] t (0,0))) :
  (w.setCell ⟨r,0,none⟩ u).heap[r]?=some (.cells #[u] t (0,0)):=by
 have f:=Zb h;have g:w.heap[r]=.cells #[a] t (0,0):=by simpa [Yn f] using h
 show(w.heap.modify r _)[r]?=_;rw[Yn (by simpa using f),Array.getElem_modify_self,g];rfl
def Up(w:World)(rb:Nat)(r:Int):Prop:=w.heap[rb]?=some (.cells #[.int .i64 r] 3 (0,0))
theorem ZcU{w:World}(k n d a:Int)(nm:ByteArray)(v:Value)(f:Nat)(r:Int)(h:Up w f r)(q:1≤r)(y:r≤1000000) :
  Calls prog 87 #[.agg #[.int .i64 k,.string nm,.int .i64 n,.int .i64 d,v,.int .i64 a],.pointer (some ⟨f,0,none⟩)] w fun x w' =>
   x=.returned (.bool true)∧Up w' f (r-1)∧Upon f w w':=by
 have H:=hid h;obtain⟨c0,m⟩:=ZeX h;have g:=Zb h;have hd:decide ((0:Int)≤r-1)=true:=by simp;omega
 have j:(0:Int)≤r-1:=oq;clear h;go_enter func87,ntmps87;go_wp2;go_ret;refine⟨by simp,?_,?_⟩
 ·exact(Z5 _ _ (by simpa [World.setCell] using g)).trans (set1 H.out)
 exact(by repeat (first|(with_reducible exact Upon.refl _ _)|((with_reducible refine Upon.setAt ?_ ?_ _);(rotate_left;focus (first|exact Or.inl rfl|omega|(simp;done)|(simp;omega))))|(with_reducible refine Upon.alloc ?_ _)|(with_reducible refine Upon.drewN ?_ _)|(with_reducible refine Upon.drew ?_)))
def jV(rb:Nat):Value:=.func (.func 87) #[] #[.pointer (some ⟨rb,0,none⟩)]
def Gv(e:PE):Prop:=∀(W0 w:World)(ad:Option Addr)(cap rb:Nat)(r:Int),AE W0 e ad cap→Below W0.heap.size W0 w→W0.heap.size≤rb→Up w rb r→(e.args.sz:Int)+1≤r→r≤1000000 →
 Calls prog 88 #[.agg #[.int .i64 e.k,.string e.nm,.int .i64 e.n,.int .i64 e.d,.slice ad e.args.len cap,.int .i64 e.a],jV rb] w fun x w' =>
  x=.returned (.bool true)∧Up w' rb (r-(e.args.sz+1))∧Upon rb w w'
def Zf6(W0 w:World)(e:PE)(ad:Option Addr)(rb:Nat)(r:Int)(v:Value)(wr:World):Prop :=
 ∃(i:Nat)(rest:PL)(rr:Int),v=.int .i64 (i:Int)∧Qs W0 ad e.args rest i∧Up wr rb rr∧rr-rest.sz=r-(e.args.sz+1)∧Upon rb w wr
theorem uO(e:PE)(ih:∀e':PE,e'.args.sz<e.args.sz→Gv e'):Gv e:=by
 intro U w ad cap rb r I hb ac A ao bb;obtain⟨k,nm,n,d,args,a⟩:=e;have aa:=I.len;simp only at aa ao ⊢;have HA:=hid I;have O:=hid hb;have ai:=hid A;have ag:=hid ih;have ah:=hid (Zb A);have az:=Zb A;have av:=hb.size;clear I hb A ih;unfold jV;have HT:=hid (fun w v=>ZcU (w:=w) k n d a nm v rb r);have ba:¬w.heap.size=rb:=oq;have au:¬rb=w.heap.size:=oq;go_enter func88,ntmps88;go_wp2_with (go_at_call 87;refine(HT.out _ _ ((Z5 _ _ ah.out).trans ai.out) oq oq).mono ?_;rintro x w1 ⟨rfl,H,D⟩;obtain⟨ax,ay⟩:=Zgs D;have b1:w.heap.size<w1.heap.size:=Zd oq D.size);have ak:=hid D;have R:=hid H;clear D H;go_loopw [14] (fun v wr=>Hid (Zf6 U w ⟨k,nm,n,d,args,a⟩ ad rb r v wr)) (fun i _=>args.len-(intOf i).toNat)
 case atStart=>exact⟨0,args,r-1,rfl,Qs.start HA.out.args,R.out,by simp only;omega,((Upon.refl _ _).alloc _).trans ak.out⟩
 obtain⟨i,rest,rr,rfl,f,g,C,E⟩:=hrel.out;clear hrel;simp only at C;have T:=hid E;have j:=hid g;have M:=f.1;simp only at M;have L:Below U.heap.size U wr:=O.out.trans (E.below O.out.size ac);have m:=hid f;have aj:=hid (f.below L);have HBW:=hid L;have ab:=Zb g;have aw:=E.size;clear E g f L
 cases rest with
 | nil =>
  have Z:(i:Int)=(args.len:Int):=by simp only[PL.len] at M;omega
  simp only[PL.sz] at C;go_wp2;go_ret;refine⟨rfl,?_,T.out⟩;have e1:rr=r-(↑args.sz+1):=by simpa using C
  rw[←e1];exact j.out
 | cons k1 nm1 n1 d1 args1 a1 tl =>
  have Z:(i:Int)<(args.len:Int):=by simp only[PL.len] at M;omega
  have z:=m.out.2.2.resolve_left (by intro h;cases h);obtain⟨b,o,rfl,hb,h0,h1,h2,h3,h5,hn,⟨V,F,h4,am,ar,an⟩,ht⟩:=aj.out.2.2.resolve_left (by intro h;cases h);obtain⟨b',o',J,Y,g0,g1,g2,g3,g5,gn,⟨aq,al,g4,q,G,X⟩,gt⟩:=z;injection J with J;injection J with hbo1 hbo2;subst hbo1;subst hbo2
  have af:=m.out.2.1;simp only[PL.sz] at af C;have y:=(HBW.out.cell (p:=⟨b,o+i*6+4,none⟩) Y).trans g4;rw[h4] at y;injection y with y;injection y with he1 he2 he3
  subst he1;subst he3;have HE:=hid (show AE U ⟨k1,nm1,n1,d1,args1,a1⟩ V F from ⟨gn,⟨q,G⟩,X⟩);have HC:=hid (fun w' hb hr=>ag.out ⟨k1,nm1,n1,d1,args1,a1⟩ (by show args1.sz<args.sz;omega) U w' V F rb rr HE.out hb ac hr (by show(args1.sz:Int)+1≤rr;omega) oq);unfold jV at HC;simp only at HC;clear hn an ht g0 g1 g2 g3 g5 gn g4 X gt q G Y;go_wp2_with (go_at_call 88;go_loud (refine(HC.out _ (HBW.out.trans (Below.mono (show Below wr.heap.size wr _ from bq) HBW.out.size)) ((Z5 _ _ ab).trans j.out)).mono ?_;rintro x w2 ⟨rfl,ae,ap⟩));refine⟨⟨i+1,tl,rr-(args1.sz+1),by go_num,m.out.tail,ae,by simp only;omega,(T.out.alloc _).trans ap⟩,by simp[intOf];omega⟩
theorem yt(e:PE):Gv e:=by
 suffices h:∀(N:Nat)(e:PE),e.args.sz<N→Gv e from h _ e (ZW _)
 intro N
 induction N with
 | zero=>intro e h;omega
 | succ N ih=>intro e h;exact uO e (fun e' h'=>ih e' oq)
def zp:List ND→Nat
 | []=>0
 | n::l=>n.body.args.sz+1+zp l
def E3:List FL→Nat
 | []=>0
 | f::l=>f.e.args.sz+1+E3 l
theorem kO{l:List ND}{i:Nat}(h:i<l.length):l.drop i=l[i]::l.drop (i+1):=by rw[ZN h]
theorem GU.cells{w:World}{b o:Nat}{nm nm1:ByteArray}{ps:List ByteArray}{g y z m j q:Int}{f:PL}(h:GU w b o ⟨nm,ps,g,⟨y,nm1,z,m,f,j⟩,q⟩):∃pa pc ad cap,
  w.cell? ⟨b,o,none⟩=some (.string nm)∧w.cell? ⟨b,o+1,none⟩=some (.slice pa ps.length pc)∧w.cell? ⟨b,o+2,none⟩=some (.int .i64 g)∧w.cell? ⟨b,o+3,none⟩=some (.int .i64 y)∧w.cell? ⟨b,o+4,none⟩=some (.string nm1) ∧
  w.cell? ⟨b,o+5,none⟩=some (.int .i64 z)∧w.cell? ⟨b,o+6,none⟩=some (.int .i64 m)∧w.cell? ⟨b,o+7,none⟩=some (.slice ad f.len cap)∧w.cell? ⟨b,o+8,none⟩=some (.int .i64 j)∧w.cell? ⟨b,o+9,none⟩=some (.int .i64 q) ∧
  AE w ⟨y,nm1,z,m,f,j⟩ ad cap∧(ps.length≤pc∧pc≤9223372036854775807∧Row xK 1 w ps pa)∧(nm.size≤9223372036854775807∧I64 g∧I64 q):=by
 obtain⟨C,⟨pa,pc,D,A,p2,p3⟩,E,⟨ad,cap,F,G,H,I,J,L,v⟩,M,x⟩:=h;exact⟨pa,pc,ad,cap,C,D,E,F,G,H,I,J,L,M,v,⟨A,p2,p3⟩,x⟩
theorem FlC.later{w wr:World}{b o:Nat}{f:FL}(h:FlC w b o f)(hb:Below w.heap.size w wr)(hlt:b<w.heap.size):FlC wr b o f:=Vs w wr b o f hb hlt h
def Qk(w:World)(b:Nat)(p:PG)(an ai af ao:Option Addr)(cn ci cf co:Nat):Prop:=w.heap[b]?=some (.cells #[.slice an p.nodes.length cn,.slice ai p.ins.length ci,.slice af p.flows.length cf,.slice ao p.outs.length co] 27 (0,0))
def Zeq(w:World)(p:PG)(an ai af ao:Option Addr)(cn ci cf co:Nat)(len:Nat)(tot:Nat→Nat)(v:Value)(wr:World):Prop :=
 ∃(i:Nat)(r:Int),v=.int .i64 (i:Int)∧i≤len∧Up wr (w.heap.size+1) r∧(tot i:Int)≤r∧r≤8000∧Qk wr w.heap.size p an ai af ao cn ci cf co∧Below w.heap.size w wr
theorem JA{w:World}(p:PG)(an ai af ao:Option Addr)(cn ci cf co:Nat)(hp:AP w p an ai af ao cn ci cf co)(hs:zp p.nodes+E3 p.flows≤8000) :
  Calls prog 48 #[pv p an ai af ao cn ci cf co] w fun x w'=>x=.returned (.bool true)∧Below w.heap.size w w':=by
 obtain⟨nodes,ins,flows,R⟩:=p;obtain⟨hn,hi,hf,ho,ab⟩:=hp;simp only at hn hi hf ho ab hs;have HN:=hid hn;have HF:=hid hf;have ap:nodes.length≤9223372036854775807:=oq;have am:flows.length≤9223372036854775807:=oq;clear hn hi hf ho;unfold pv;simp only;go_enter func48,ntmps48;go_wp2;go_loopw [13] (fun v wr=>Hid (Zeq w ⟨nodes,ins,flows,R⟩ an ai af ao cn ci cf co nodes.length (fun i=>zp (nodes.drop i)+E3 flows) v wr)) (fun i _=>nodes.length-(intOf i).toNat)
 case atStart=>exact⟨0,8000,rfl,Zk _,by simpa [Up] using Yw (w.alloc _) _,by simp only[List.drop_zero];omega,oq,(Z5 _ _ (by simp)).trans (Yw w _),bq⟩
 obtain⟨i,r,rfl,hi,j,y,ak,q,hbel⟩:=hrel.out;clear hrel;simp only at y;unfold Qk at q;simp only at q;obtain⟨⟨x0,x1,x2,x3⟩,xf⟩:=Yx q;have I:=hid q;have z:=hid j;have HBEL:=hid hbel;have F:=Zb j;have E:=Zb q;have H:=hbel.size;clear q j;by_cases L:i<nodes.length
 ·obtain⟨bb,oo,rfl,m,G⟩:=HN.out.at L;have Y:=Vl w wr bb _ _ hbel m G;have ah:=Zd m H;rw[kO L] at y;obtain⟨n,hn⟩:=ez (nodes[i]);rw[hn] at Y G y;obtain⟨nm,ps,al,⟨k1,nm1,n1,d1,g,a1⟩,fa⟩:=n;simp only[zp] at y;obtain⟨pa,pc,ad,cap,y0,y1,y2,y3,y4,y5,y6,y7,y8,y9,U,aj,V⟩:=Y.cells;obtain⟨_,_,ag,aa,_,_,_,_,_,_,_,ae,_,_,C,_,_⟩:=G.cells;have A:=(hbel.cell (p:=⟨bb,oo+i*10+7,none⟩) m).trans ae;rw[y7] at A;injection A with A;injection A with he1 he2 he3
  subst he1;subst he3;have HE:=hid C;have T:=hid (fun w' hb hr=>yt ⟨k1,nm1,n1,d1,g,a1⟩ w w' ad cap (w.heap.size+1) r HE.out hb oq hr (by show(g.sz:Int)+1≤r;omega) oq);unfold jV at T;simp only at T;have X:(i:Int)<(nodes.length:Int):=oq;clear hbel Y G U C ae aj V m;go_wp2_with (go_at_call 88;go_loud (refine(T.out _ bq ((Z5 _ _ F).trans z.out)).mono ?_;rintro x w2 ⟨rfl,M,O⟩));refine⟨⟨i+1,r-(g.sz+1),by go_num,oq,M,by simp only;omega,oq,(O.block _ (by simp;omega) oq).trans ((Z5 _ _ E).trans I.out),(HBEL.out.alloc oq _).trans (O.below (by simp;omega) oq)⟩,by simp[intOf];omega⟩
 have X:i=nodes.length:=oq;subst X;have Z:=hid (show(E3 flows:Int)≤r by rw[Yp] at y;simpa [zp] using y);clear hbel y;go_wp2;go_loopw [26] (fun v wr=>Hid (Zeq w ⟨nodes,ins,flows,R⟩ an ai af ao cn ci cf co flows.length (fun i=>E3 (flows.drop i)) v wr)) (fun i _=>flows.length-(intOf i).toNat)
 case atStart=>exact⟨0,r,rfl,Zk _,z.out,by simpa using Z.out,oq,I.out,HBEL.out⟩
 clear z HBEL I Z F E H x0 x1 x2 x3 xf;obtain⟨i,r,rfl,hi,j,y,ak,q,hbel⟩:=hrel.out;clear hrel;simp only at y;unfold Qk at q;simp only at q;obtain⟨⟨x0,x1,x2,x3⟩,xf⟩:=Yx q;have I:=hid q;have z:=hid j;have HBEL:=hid hbel;have F:=Zb j;have E:=Zb q;have H:=hbel.size;clear q j;by_cases L:i<flows.length
 ·obtain⟨bb,oo,rfl,m,D⟩:=HF.out.at L;have J:=D.later hbel m;have ah:=Zd m H;rw[yR L] at y;obtain⟨f,hf⟩:=ez (flows[i]);rw[hf] at J D y;obtain⟨nm,⟨k1,nm1,n1,d1,g,a1⟩,fa⟩:=f;simp only[E3] at y;obtain⟨ad,cap,y0,y1,y2,y3,y4,y5,y6,y7,U,V⟩:=J.cells;obtain⟨ag,aa,_,_,_,_,_,ac,_,_,C,_⟩:=D.cells;have A:=(hbel.cell (p:=⟨bb,oo+i*8+5,none⟩) m).trans ac;rw[y5] at A;injection A with A;injection A with he1 he2 he3
  subst he1;subst he3;have HE:=hid C;have T:=hid (fun w' hb hr=>yt ⟨k1,nm1,n1,d1,g,a1⟩ w w' ad cap (w.heap.size+1) r HE.out hb oq hr (by show(g.sz:Int)+1≤r;omega) oq);unfold jV at T;simp only at T;have X:(i:Int)<(flows.length:Int):=oq;clear hbel J D U C ac V m;go_wp2_with (go_at_call 88;go_loud (refine(T.out _ bq ((Z5 _ _ F).trans z.out)).mono ?_;rintro x w2 ⟨rfl,M,O⟩));refine⟨⟨i+1,r-(g.sz+1),by go_num,oq,M,by simp only;omega,oq,(O.block _ (by simp;omega) oq).trans ((Z5 _ _ E).trans I.out),(HBEL.out.alloc oq _).trans (O.below (by simp;omega) oq)⟩,by simp[intOf];omega⟩
 clear hbel;go_wp2;go_ret;exact⟨rfl,HBEL.out⟩
attribute [local go_sem] ZT
def Xu:PL→List PE
 | .nil=>[]
 | .cons k nm n d args a tl=>⟨k,nm,n,d,args,a⟩::(Xu args++Xu tl)
theorem zV:∀l:PL,(Xu l).length=l.sz:=by
 intro l
 induction l with
 | nil=>rfl
 | cons k nm n d args a tl ih1 ih2=>simp only[Xu,Zp,Zx,ih1,ih2,PL.sz];omega
structure VX (W0:World) where
 e:PE
 ad:Option Addr
 cap:Nat
 ok:AE W0 e ad cap
def VX.vs{W0:World}(x:VX W0):Array Value:=#[.agg #[.int .i64 x.e.k,.string x.e.nm,.int .i64 x.e.n,.int .i64 x.e.d,.slice x.ad x.e.args.len x.cap,.int .i64 x.e.a]]
def kB{W0:World}(n₀:Nat)(J Jx:List (VX W0)→World→Prop)(pre:List (VX W0))(e:PE)(W:World)(x:Ending)(W':World):Prop :=
 (x=.returned (.bool true)∧(∃ys:List (VX W0),ys.map (·.e)=e::Xu e.args∧J (pre++ys) W')∧KC n₀ W W') ∨
  (x=.returned (.bool false)∧∃q:List (VX W0),q.map (·.e) <+: (e::Xu e.args)∧Jx (pre++q) W')
def Zf5{W0:World}(n₀:Nat)(J:List (VX W0)→World→Prop)(pre:List (VX W0))(e:PE)(ad:Option Addr)(W:World)(v:Value)(wr:World):Prop :=
 ∃(i:Nat)(rest:PL)(ys:List (VX W0)),v=.int .i64 (i:Int)∧Qs W0 ad e.args rest i∧ys.map (·.e)++Xu rest=e::Xu e.args∧J (pre++ys) wr∧KC n₀ W wr
theorem j7{W0:World}(F:Fence)(hd:F.depth=none)(hF:F.fn 88)(bb:F.round=none)(l B N:Nat)(J Jx:List (VX W0)→World→Prop)(hJ:AbidesFrom B J)
  (hY:∀m pre x W,J pre W→pre.length<N→YieldAt F m prog l x.vs W fun e W'=>(e=.returned (.bool true)∧J (pre++[x]) W'∧KC W0.heap.size W W')∨(e=.returned (.bool false)∧Jx (pre++[x]) W'))(e:PE)
  (ih:∀e':PE,e'.args.sz<e.args.sz→∀(n:Nat)(A:Option Addr)(cap:Nat)(pre:List (VX W0))(W:World),AE W0 e' A cap→Below W0.heap.size W0 W→J pre W→pre.length+e'.args.sz+1≤N →
   CallsIn F n prog 88 #[.agg #[.int .i64 e'.k,.string e'.nm,.int .i64 e'.n,.int .i64 e'.d,.slice A e'.args.len cap,.int .i64 e'.a],.func (.yield l) #[] #[]] W (kB W0.heap.size J Jx pre e' W)) :
  ∀(n:Nat)(A:Option Addr)(cap:Nat)(pre:List (VX W0))(W:World),AE W0 e A cap→Below W0.heap.size W0 W→J pre W→pre.length+e.args.sz+1≤N →
   CallsIn F n prog 88 #[.agg #[.int .i64 e.k,.string e.nm,.int .i64 e.n,.int .i64 e.d,.slice A e.args.len cap,.int .i64 e.a],.func (.yield l) #[] #[]] W (kB W0.heap.size J Jx pre e W):=by
 intro n A cap pre W D hb hj hN;obtain⟨k,nm,nn,d,args,a⟩:=e;have ak:=D.len;simp only at ak hN ih ⊢;have ax:∀k:Nat,(F.depth.isSome=true→1≤k):=fun k h=>by rw[hd] at h;cases h
 have am:=hb.size;obtain⟨X,af,ag⟩:∃X:VX W0,X.vs=#[.agg #[.int .i64 k,.string nm,.int .i64 nn,.int .i64 d,.slice A args.len cap,.int .i64 a]]∧X.e=⟨k,nm,nn,d,args,a⟩:=⟨⟨⟨k,nm,nn,d,args,a⟩,A,cap,D⟩,rfl,rfl⟩;obtain⟨fn,bf,assign,body,hy,hR⟩:=hY (n-1) pre X (W.alloc (Obj.cells #[.int .i64 k,.string nm,.int .i64 nn,.int .i64 d,.slice A args.len cap,.int .i64 a] 88)) (JM hJ hj _) oq;rw[af] at hy;have ab:=hid ag;clear af ag;have HA:=hid D;have HB:=hid hb;have an:=hid ih;have HR:=hid hR;clear D hb ih hR hj;refine callsIn_of_wp func88 rfl hF ?_ bb;simp only[ntmps88,ZI,Zp,Zw,Nat.reduceAdd,Nat.reduceSub,ZF,ZE,ZL,ZJ,ZM,ZC];gi_wp2;refine HR.out.mono ?_;rintro e W1 (⟨rfl,ae,V⟩|⟨rfl,au⟩)
 ·have L:=V.same W.heap.size _ (Yw W _) rfl;obtain⟨⟨x0,x1,x2,x3,x4,x5⟩,xf⟩:=Xm L;have ao:=hid ae;have ap:=hid ((KC.refl W0.heap.size W).alloc am _ |>.trans V);clear ae V L;gi_wp2;gi_loopw [14] (fun v wr=>Hid (Zf5 W0.heap.size J pre ⟨k,nm,nn,d,args,a⟩ A W v wr)) (fun i _=>args.len-(intOf i).toNat)
  case atStart=>exact⟨0,args,[X],rfl,Qs.start HA.out.args,by simp only[List.map_cons,List.map_nil,List.singleton_append,ab.out],ao.out,ap.out⟩
  obtain⟨i,rest,ys,rfl,f,g,aj,Y⟩:=hrel.out;clear hrel;simp only at g;have aa:=hid Y;have Z:=hid aj;have U:=f.1;simp only at U;have E:Below W0.heap.size W0 wr:=HB.out.trans Y.below;have j:=hid f;have aq:=hid (f.below E);have HBW:=hid E;have O:=E.size;clear Y aj f E
  cases rest with
  | nil =>
   have ai:(i:Int)=(args.len:Int):=by simp only[PL.len] at U;omega
   simp only[Xu,List.append_nil] at g;have C:=hid g;clear g;gi_wp2;go_ret;exact .inl ⟨rfl,⟨ys,C.out,Z.out⟩,aa.out⟩
  | cons k1 nm1 n1 d1 args1 a1 tl =>
   have ai:(i:Int)<(args.len:Int):=by simp only[PL.len] at U;omega
   have H:=j.out.2.2.resolve_left (by intro h;cases h);obtain⟨b,o,rfl,hb,h0,h1,h2,h3,h5,hn,⟨R,y,h4,av,be,aw⟩,ht⟩:=aq.out.2.2.resolve_left (by intro h;cases h);obtain⟨b',o',T,ah,g0,g1,g2,g3,g5,gn,⟨bd,ar,g4,z,I,ac⟩,gt⟩:=H;injection T with T;injection T with hbo1 hbo2;subst hbo1;subst hbo2
   have al:=j.out.2.1;simp only[PL.sz] at al;have M:=Z3 List.length g;simp only[Zx,Zo,zV,Zp,PL.sz] at M;have G:=(HBW.out.cell (p:=⟨b,o+i*6+4,none⟩) ah).trans g4;rw[h4] at G;injection G with G;injection G with he1 he2 he3
   subst he1;subst he3;have HE:=hid (show AE W0 ⟨k1,nm1,n1,d1,args1,a1⟩ R y from ⟨gn,⟨z,I⟩,ac⟩);have HC:=hid (an.out ⟨k1,nm1,n1,d1,args1,a1⟩ (by show args1.sz<args.sz;omega) (n-1) R y (pre++ys) (wr.alloc (Obj.cells #[.int .i64 k1,.string nm1,.int .i64 n1,.int .i64 d1,.slice R args1.len y,.int .i64 a1] 88)) HE.out (HBW.out.alloc O _) (JM hJ Z.out _) (by simp only[Zx];omega));simp only at HC;have C:=hid g;clear hn aw ht g0 g1 g2 g3 g5 gn g4 ac gt z I ah g M;gi_wp2_with ((try refine⟨ax _,?_⟩);gi_at_call 88;refine HC.out.mono ?_;rintro x w2 (⟨rfl,⟨zs,bc,ay⟩,ba⟩|⟨rfl,q,hq,az⟩))
   ·go_roundw
    case rel=>exact⟨i+1,tl,ys++zs,by go_num,j.out.tail,by rw[ZU,bc,←C.out,Xu];simp,by rw[←List.append_assoc];exact ay,(aa.out.alloc O _).trans ba⟩
    simp[intOf];omega
   go_ret;refine .inr ⟨rfl,ys++q,?_,by rw[←List.append_assoc];exact az⟩;obtain⟨r,hr⟩:=hq;refine⟨r++Xu tl,?_⟩;rw[ZU,←C.out,Xu,←ZC,←hr];simp
 gi_wp2;go_ret;exact .inr ⟨rfl,[X],⟨Xu args,by simp only[List.map_cons,List.map_nil,List.singleton_append,ab.out]⟩,au⟩
attribute [local go_sem] ZT
theorem uN{W0:World}(F:Fence)(hd:F.depth=none)(q:F.fn 88)(j:F.round=none)(l B N:Nat)(J g:List (VX W0)→World→Prop)(v:AbidesFrom B J)
  (y:∀m pre x W,J pre W→pre.length<N→YieldAt F m prog l x.vs W fun e W'=>(e=.returned (.bool true)∧J (pre++[x]) W'∧KC W0.heap.size W W')∨(e=.returned (.bool false)∧g (pre++[x]) W')) :
  ∀(e:PE)(n:Nat)(f:Option Addr)(cap:Nat)(pre:List (VX W0))(W:World),AE W0 e f cap→Below W0.heap.size W0 W→J pre W→pre.length+e.args.sz+1≤N →
   CallsIn F n prog 88 #[.agg #[.int .i64 e.k,.string e.nm,.int .i64 e.n,.int .i64 e.d,.slice f e.args.len cap,.int .i64 e.a],.func (.yield l) #[] #[]] W (kB W0.heap.size J g pre e W):=by
 intro e
 suffices h:∀(M:Nat)(e:PE),e.args.sz<M→∀(n:Nat)(f:Option Addr)(cap:Nat)(pre:List (VX W0))(W:World),AE W0 e f cap→Below W0.heap.size W0 W→J pre W→pre.length+e.args.sz+1≤N →
   CallsIn F n prog 88 #[.agg #[.int .i64 e.k,.string e.nm,.int .i64 e.n,.int .i64 e.d,.slice f e.args.len cap,.int .i64 e.a],.func (.yield l) #[] #[]] W (kB W0.heap.size J g pre e W) from h _ e (ZW _)
 intro M
 induction M with
 | zero=>intro e h;omega
 | succ M ih=>intro e h;exact j7 F hd q j l B N J g v y e (fun e' h'=>ih e' oq)
def XU:List FL→List PE
 | []=>[]
 | f::l=>f.e::(Xu f.e.args++XU l)
def Zf7{W0:World}(J:List (VX W0)→World→Prop)(flows:List FL)(W:World)(v:Value)(wr:World):Prop :=
 ∃(i:Nat)(ys:List (VX W0)),v=.int .i64 (i:Int)∧i≤flows.length∧ys.map (·.e)++XU (flows.drop i)=XU flows∧J ys wr∧KC W0.heap.size W wr
theorem uQ{W0:World}(F:Fence)(hd:F.depth=none)(hG:F.fn 125)(hF:F.fn 88)(T:F.round=none)(n l B Bs:Nat)(g:List FL)(af:Option Addr)(cf:Nat)
  (Y:Row FlC 8 W0 g af)(ac:g.length≤cf)(ae:cf≤9223372036854775807)(J Jx:List (VX W0)→World→Prop)(hJ:AbidesFrom B J)
  (hY:∀m pre x W,J pre W→pre.length<(XU g).length→YieldAt F m prog l x.vs W fun e W'=>(e=.returned (.bool true)∧J (pre++[x]) W'∧KC W0.heap.size W W')∨(e=.returned (.bool false)∧Jx (pre++[x]) W'))
  (W:World)(hB:Below W0.heap.size W0 W)(ar:W.cell? ⟨Bs,0,none⟩=some (.slice af g.length cf))(h0:J [] W) :
  CallsIn F n prog 125 #[.func (.yield l) #[] #[],.pointer (some ⟨Bs,0,none⟩)] W fun e W'=>(∃v,e=.returned v) ∧
   ((∃xs:List (VX W0),xs.map (·.e)=XU g∧J xs W')∨(∃pre:List (VX W0),pre.map (·.e) <+: XU g∧Jx pre W')):=by
 have ag:∀k:Nat,(F.depth.isSome=true→1≤k):=fun k h=>by rw[hd] at h;cases h
 have ah:g.length≤9223372036854775807:=Zm ac ae;have HV:=hid (uN F hd hF T l B (XU g).length J Jx hJ hY);have HR:=hid Y;have HB:=hid hB;have Z:=hid h0;have ao:=hB.size;clear Y hY hB h0;refine callsIn_of_wp func125 rfl hG ?_ T;simp only[ntmps125,ZI,Zp,Zw,Nat.reduceAdd,Nat.reduceSub,ZF,ZE,ZL,ZJ,ZM,ZC];gi_wp2;gi_loopw [7] (fun v wr=>Hid (Zf7 J g W v wr)) (fun i _=>g.length-(intOf i).toNat)
 case atStart=>exact⟨0,[],rfl,Zk _,rfl,Z.out,KC.refl _ _⟩
 obtain⟨i,M,rfl,hi,j,V,X⟩:=hrel.out;clear hrel;have z:Below W0.heap.size W0 wr:=HB.out.trans X.below;have HBW:=hid z;have HK:=hid X;have aa:=hid V;have E:=z.size;by_cases R:i<g.length
 ·obtain⟨bb,oo,rfl,A,C⟩:=HR.out.at R;have D:=C.later z A;have aq:=Zd A E;rw[yR R] at j;obtain⟨f,hf⟩:=ez (g[i]);rw[hf] at D C j;obtain⟨nm,⟨k1,nm1,n1,d1,y,a1⟩,fa⟩:=f;obtain⟨ad,cap,y0,y1,y2,y3,y4,y5,y6,y7,ab,ai⟩:=D.cells;obtain⟨ap,an,_,_,_,_,_,U,_,_,I,_⟩:=C.cells;have H:=(z.cell (p:=⟨bb,oo+i*8+5,none⟩) A).trans U;rw[y5] at H;injection H with H;injection H with he1 he2 he3
  subst he1;subst he3;have L:=Z3 List.length j;simp only[Zx,Zo,XU,Zp,zV] at L;have HC:=hid (HV.out ⟨k1,nm1,n1,d1,y,a1⟩ (n-1) ad cap M (wr.alloc (Obj.cells #[.string nm,.int .i64 k1,.string nm1,.int .i64 n1,.int .i64 d1,.slice ad y.len cap,.int .i64 a1,.int .i64 fa] 111)) I (z.alloc E _) (JM hJ V _) (by show M.length+y.sz+1≤_;omega));simp only at HC;have O:(i:Int)<(g.length:Int):=oq;have G:=hid j;clear z X V D C ab I U ai A j L;gi_wp2_with ((try refine⟨ag _,?_⟩);gi_at_call 88;refine HC.out.mono ?_;rintro x w2 (⟨rfl,⟨zs,am,aj⟩,al⟩|⟨rfl,q,hq,ak⟩))
  ·go_roundw
   case rel=>exact⟨i+1,M++zs,by go_num,oq,by rw[ZU,am,←G.out,XU];simp,aj,(HK.out.alloc E _).trans al⟩
   simp[intOf];omega
  refine Zl (results_none rfl _ _ _) rfl ?_;refine⟨⟨_,rfl⟩,.inr ⟨M++q,?_,ak⟩⟩;obtain⟨r,Y⟩:=hq;refine⟨r++XU (g.drop (i+1)),?_⟩;rw[ZU,←G.out,XU,←ZC,←Y];simp
 have O:i=g.length:=oq;subst O;have G:=hid (show M.map (·.e)=XU g by rw[Yp] at j;simpa [XU] using j);clear z X V j;gi_wp2;go_end0;exact⟨⟨_,rfl⟩,.inl ⟨M,G.out,aa.out⟩⟩
theorem Ki{W0:World}(F:Fence)(hd:F.depth=none)(hG:F.fn 125)(hF:F.fn 88)(hro:F.round=none)(n Bs:Nat)(flows:List FL)(af:Option Addr)(cf:Nat)
  (hr:Row FlC 8 W0 flows af)(hc1:flows.length≤cf)(hc2:cf≤9223372036854775807)(w:World)(hBs:Bs<w.heap.size)(hB:Below W0.heap.size W0 w)(hbx:w.cell? ⟨Bs,0,none⟩=some (.slice af flows.length cf)) :
  SeqStopsK F n prog 125 #[.pointer (some ⟨Bs,0,none⟩)] (fun x:VX W0=>x.vs) (KC W0.heap.size) (fun xs=>xs.map (·.e)=XU flows) (fun pre=>pre.map (·.e) <+: XU flows) (XU flows).length w:=fun l J Jx W hW hJ hJx hY h0 =>
 uQ F hd hG hF hro n l W.heap.size Bs flows af cf hr hc1 hc2 J Jx hJ (fun m pre x W hj hl=>YieldAt.deep hd m (hY pre x W hj hl)) W (hB.trans (hW.mono hB.size)) ((hW.cell (p:=⟨Bs,0,none⟩) hBs).trans hbx) h0
theorem Qr{w:World}(f:Option Addr)(n c:Nat):Calls prog 90 #[.slice f n c] w fun e w'=>e=.returned (.func (.func 125) #[] #[.pointer (some ⟨w.heap.size,0,none⟩)])∧w'=w.alloc (.cells #[.slice f n c] 24):=by
 go_enter func90,ntmps90;go_wp2;go_ret;exact⟨rfl,rfl⟩
open Go.RowKit Go.Shelf
attribute [local go_sem] ZT
def okE(env:Env)(e:PE):Bool:=decide (e.k≠2)||ckA env e.args
def X0(env:Env)(flows:List FL):Bool:=(XU flows).all (okE env)
theorem yB{w:World}(f:List FL)(E:Option Addr)(C mb:Nat)(L:List (ByteArray × Value))(env:Env)(hr:Row FlC 8 w f E)(al:f.length≤C)(am:C≤9223372036854775807)
  (hM:YT w mb L)(hE:XY L env) :
  Calls prog 51 #[.map (some mb),.slice E f.length C] w fun x w'=>yv (X0 env f) x∧Below w.heap.size w w':=by
 have HR:=hid hr;have HM:=hid hM;clear hr hM;have ai:=hid (fun w=>Qr (w:=w) E f.length C);refine(Zt (n:=6)).1 ?_;refine callsIn_of_wp_marks func51 rfl trivial ?_ rfl;simp only[ntmps51,ZI,Zp,Zw,Nat.reduceAdd,Nat.reduceSub,ZF,ZE,ZL,ZJ,ZM,ZC];gi_wp2_with (refine⟨trivial,?_⟩;gi_at_call 90;refine(Zt.2 (ai.out _)).mono ?_;rintro e w' ⟨rfl,rfl⟩);have bM:=(((Boxed.new w 118 (.map (some mb))).alloc (.cells #[.int .i64 0] 3)).alloc (.cells #[.int .i64 0] 38)).alloc (.cells #[.slice E f.length C] 24);have bA:=((Boxed.new (w.alloc (.cells #[.map (some mb)] 118)) 3 (.int .i64 0)).alloc (.cells #[.int .i64 0] 38)).alloc (.cells #[.slice E f.length C] 24);have bE:=(Boxed.new ((w.alloc (.cells #[.map (some mb)] 118)).alloc (.cells #[.int .i64 0] 3)) 38 (.int .i64 0)).alloc (.cells #[.slice E f.length C] 24);have bS:=Boxed.new (((w.alloc (.cells #[.map (some mb)] 118)).alloc (.cells #[.int .i64 0] 3)).alloc (.cells #[.int .i64 0] 38)) 24 (.slice E f.length C);simp only[Zu] at bA bE bS;have R:Below w.heap.size w ((((w.alloc (.cells #[.map (some mb)] 118)).alloc (.cells #[.int .i64 0] 3)).alloc (.cells #[.int .i64 0] 38)).alloc (.cells #[.slice E f.length C] 24)):=bq;have ao:((((w.alloc (.cells #[.map (some mb)] 118)).alloc (.cells #[.int .i64 0] 3)).alloc (.cells #[.int .i64 0] 38)).alloc (.cells #[.slice E f.length C] 24)).heap.size=w.heap.size+4:=by simp
 obtain⟨W0,ac⟩:=ez ((((w.alloc (.cells #[.map (some mb)] 118)).alloc (.cells #[.int .i64 0] 3)).alloc (.cells #[.int .i64 0] 38)).alloc (.cells #[.slice E f.length C] 24))
 try simp only[Zu]
 rw[ac] at bM bA bE bS R ao ⊢;clear ac;have I:w.heap.size≤W0.heap.size:=oq;refine wpIn_rangeFunc_ownH (encs:=fun x:VX w=>#[.agg #[.int .i64 x.e.k,.string x.e.nm,.int .i64 x.e.n,.int .i64 x.e.d,.slice x.ad x.e.args.len x.cap,.int .i64 x.e.a]]) rfl oq (gf:=125) (lb:=#[.pointer (some ⟨w.heap.size+1+1+1,0,none⟩)]) rfl trivial (enters_of func125 kq rfl)
  (Ki (W0:=w) Fence.wide rfl trivial trivial rfl _ (w.heap.size+1+1+1) f E C HR.out al am W0 oq R bS.cell) (fun h k=>h.trans k) (fun W l o o' hl h hc _=>KC.putObj W l o o' oq h hc) (Zg _ _) (fun _=>rfl)
  (fun pre W=>((Boxed W w.heap.size 118 (.map (some mb))∧Boxed W (w.heap.size+1) 3 (.int .i64 0))∧Boxed W (w.heap.size+1+1) 38 (.int .i64 0))∧Below w.heap.size w W∧(pre.map (·.e)).all (okE env)=true)
  (fun c pre W=>∃a H,((Boxed W (w.heap.size+1) 3 (.int .i64 a)∧Boxed W (w.heap.size+1+1) 38 (.int .i64 H))∧Below w.heap.size w W)∧(c=.ret∧H≠0∧(pre.map (·.e)).all (okE env)=false))
  (OwnFrom.and (OwnFrom.and (OwnFrom.and (Own.from (boxed_own _ _ _) _) (Own.from (boxed_own _ _ _) _)) (Own.from (boxed_own _ _ _) _)) (OwnFrom.and (ownFrom_below (Zc _) I) (ownFrom_pure _ _)))
  (fun c s X Y row hs hg hrw=>by
   obtain⟨a,H,⟨⟨O,Z⟩,h3⟩,h4⟩:=hs;exact⟨a,H,⟨⟨boxed_own _ _ (fun(_:Unit)=>Value.int .i64 a) () X Y row O hg (fun r e=>(hrw r e).2),boxed_own _ _ (fun(_:Unit)=>Value.int .i64 H) () X Y row Z hg (fun r e=>(hrw r e).2)⟩,ownFrom_below (β:=Unit) (Zc _) I () X Y row h3 hg hrw⟩,h4⟩)
  ⟨⟨⟨bM,bA⟩,bE⟩,R,rfl⟩
  (fun x a' W=>∃Bx,w.heap.size+1+1<Bx∧W.heap[Bx]?=some (.cells #[.int .i64 x.e.k,.string x.e.nm,.int .i64 x.e.n,.int .i64 x.e.d,.slice x.ad x.e.args.len x.cap,.int .i64 x.e.a] 88 (0,0)) ∧
   a'={ tmps:=#[.map (some mb),.slice E f.length C,.pointer (some ⟨w.heap.size,0,none⟩),undef,.pointer (some ⟨w.heap.size+1,0,none⟩),.pointer (some ⟨w.heap.size+1+1,0,none⟩),.pointer (some ⟨Bx,0,none⟩),undef,undef,.slice E f.length C,
    .func (.func 125) #[] #[.pointer (some ⟨w.heap.size+1+1+1,0,none⟩)],.agg #[.int .i64 x.e.k,.string x.e.nm,.int .i64 x.e.n,.int .i64 x.e.d,.slice x.ad x.e.args.len x.cap,.int .i64 x.e.a],undef,undef,undef,undef,undef,undef,undef,undef,undef,undef,undef,undef,undef],defers:=[] })
  (fun x a' _ X Y row hs hg hrw=>by
   obtain⟨Bx,O,Z,h3⟩:=hs;refine⟨Bx,O,(hg.block Bx (Zq.1 Z).1 (fun e=>?_)).trans Z,h3⟩;obtain⟨_,o,ho,hc⟩:=hrw Bx e.symm;rw[Z] at ho;cases ho;cases hc)
  ?assign ?body ?done ?stop
 case assign =>
  rintro l pre x W K ⟨⟨⟨z,j⟩,g⟩,m,q⟩ hK;gi_wp2;exact hK _ _ ((KeepsOthers.alloc _ _).from _) ((KC.refl _ W).alloc m.size _) ⟨⟨⟨z.alloc _,j.alloc _⟩,g.alloc _⟩,m.alloc m.size _,q⟩ ⟨W.heap.size,g.lt,Yw W _,rfl⟩
 case body =>
  rintro l pre ⟨⟨k1,nm1,n1,d1,v,a1⟩,F,A,G⟩ a' W hl ⟨r,hr⟩ ⟨⟨⟨z,j⟩,g⟩,m,q⟩ ⟨Bx,au,ah,rfl⟩ av;simp only at ah;have cM:=z.cell;obtain⟨⟨x0,x1,x2,x3,x4,x5⟩,xf⟩:=Xm ah;have U:=m.size;by_cases T:k1=2
  ·subst T;have V:=hid (xQ (w:=W) ⟨2,nm1,n1,d1,v,a1⟩ F A mb L env (G.below m) (HM.out.below m) hE);simp only at V
   cases hck:ckA env v with
   | true =>
    rw[hck] at V;have y:((pre++[(⟨⟨2,nm1,n1,d1,v,a1⟩,F,A,G⟩:VX w)]).map (·.e)).all (okE env)=true:=by
     rw[ZU,List.all_append,q];simp[okE,hck]
    gi_wp2_with (refine⟨trivial,?_⟩;gi_at_call 91;refine(CallsIn.inRound l (Zt.2 V.out)).mono ?_;rintro e w2 ⟨he,hb2⟩;obtain rfl:e=.returned (.tuple #[.int .i64 0,.int .i64 0]):=he);exact⟨⟨hb2.size,fun k o _ hk _=>(hb2.block k (Zb hk)).trans hk⟩,(KC.refl _ W).of_below hb2 U,⟨⟨⟨(hb2.block _ z.lt).trans z,(hb2.block _ j.lt).trans j⟩,(hb2.block _ g.lt).trans g⟩,m.trans (hb2.mono U),y⟩⟩
   | false =>
    rw[hck] at V;have y:((pre++[(⟨⟨2,nm1,n1,d1,v,a1⟩,F,A,G⟩:VX w)]).map (·.e)).all (okE env)=false:=by
     rw[ZU,List.all_append];simp[okE,hck]
    gi_wp2_with (refine⟨trivial,?_⟩;gi_at_call 91;refine(CallsIn.inRound l (Zt.2 V.out)).mono ?_;rintro e w2 ⟨⟨ab,eb,ae,rfl⟩,hb2⟩;have aq:(eb == 0)=false:=ZY.2 ae;have J:Boxed w2 (w.heap.size+1) 3 (.int .i64 0):=(hb2.block _ j.lt).trans j;have M:Boxed w2 (w.heap.size+1+1) 38 (.int .i64 0):=(hb2.block _ g.lt).trans g;have cA:=J.cell;have fA:=J.frozen;have cE:=M.cell;have fE:=M.frozen);exact⟨(show KeepsFrom W0.heap.size W w2 from ⟨hb2.size,fun k o _ hk _=>(hb2.block k (Zb hk)).trans hk⟩).trans (((KeepsOthers.setCell _ _ _).trans (KeepsOthers.setCell _ _ _)).from _),ab,eb,⟨⟨(J.set _).other oq _,(M.other oq _).set _⟩,((m.trans (hb2.mono U)).setCell (p:=⟨w.heap.size+1,0,none⟩) (by simp) _).setCell (p:=⟨w.heap.size+1+1,0,none⟩) (by simp;omega) _⟩,rfl,ae,y⟩
  have ar:(k1 == 2)=false:=ZY.2 T;have y:((pre++[(⟨⟨k1,nm1,n1,d1,v,a1⟩,F,A,G⟩:VX w)]).map (·.e)).all (okE env)=true:=by
   rw[ZU,List.all_append,q];simp[okE,T]
  gi_wp2;exact⟨KeepsFrom.refl _ _,KC.refl _ _,⟨⟨⟨z,j⟩,g⟩,m,y⟩⟩
 case done =>
  rintro D zs W hD ap ⟨⟨⟨z,j⟩,g⟩,m,q⟩ hK;have O:X0 env f=true:=by unfold X0;rw[←ap];exact q
  have cA:=j.cell;have fA:=j.frozen;have cE:=g.cell;have fE:=g.frozen;gi_wp2;have aa:((W.setCell ⟨w.heap.size+1,0,none⟩ (.int .i64 0)).setCell ⟨w.heap.size+1+1,0,none⟩ (.int .i64 0)).heap[D]?=some (.deferred (some [])):=((KeepsOthers.setCell _ _ _).trans (KeepsOthers.setCell _ _ _)).same D _ hK rfl;refine⟨by simp,.inl ⟨_,_,rfl,run_takeDeferred aa,?_⟩⟩;have aj:=(((j.set (.int .i64 0)).other (show w.heap.size+1≠w.heap.size+1+1 by omega) (.int .i64 0)).kept (grownBy_putObj' _ D (.deferred none)) (by intro e;injection e with e;omega)).cell;have ak:=(((g.other (show w.heap.size+1+1≠w.heap.size+1 by omega) (.int .i64 0)).set (.int .i64 0)).kept (grownBy_putObj' _ D (.deferred none)) (by intro e;injection e with e;omega)).cell;refine⟨.tuple #[.int .i64 0,.int .i64 0],?_,?_,?_⟩
  ·simp only[results,results51];go_simp
  ·unfold yv;rw[Z2 O];rfl
  exact((m.setCell (p:=⟨w.heap.size+1,0,none⟩) (by simp) _).setCell (p:=⟨w.heap.size+1+1,0,none⟩) (by simp;omega) _).trans (KC.putObj (n₀:=w.heap.size) _ D _ _ oq aa rfl).below
 rintro D c pre W hD ag ⟨a,H,⟨⟨j,g⟩,m⟩,rfl,an,q⟩ hK;have O:X0 env f=false:=by
  unfold X0;obtain⟨t,ht⟩:=ag;rw[←ht,List.all_append,q];rfl
 have cA:=j.cell;have fA:=j.frozen;have cE:=g.cell;have fE:=g.frozen;gi_wp2;refine⟨by simp,.inl ⟨_,_,rfl,run_takeDeferred hK,?_⟩⟩;have aj:=(j.kept (grownBy_putObj' _ D (.deferred none)) (by intro e;injection e with e;omega)).cell;have ak:=(g.kept (grownBy_putObj' _ D (.deferred none)) (by intro e;injection e with e;omega)).cell;refine⟨.tuple #[.int .i64 a,.int .i64 H],?_,?_,?_⟩
 ·simp only[results,results51];go_simp
 ·unfold yv;rw[Z1 (by rw[O];decide)];exact⟨a,H,an,rfl⟩
 exact m.trans (KC.putObj (n₀:=w.heap.size) _ D _ _ oq hK rfl).below
def J4:List IN→Env→Env
 | [],e=>e
 | x::l,e=>J4 l (upd e x.nm (x.per,x.ph))
def Xc(ins:List IN):Env:=J4 ins (fun _=>none)
def Jv(env:Env)(nm:ByteArray):Int × Int:=(env nm).getD (0,0)
def ZeI(w:World)(v:Value)(l:List (Int × Int)):Prop :=
 ∃b,v=.slice (some ⟨b,0,none⟩) l.length l.length∧b<w.heap.size∧∀i (h:i<l.length),w.cell? ⟨b,i*2,none⟩=some (.int .i64 l[i].1)∧w.cell? ⟨b,i*2+1,none⟩=some (.int .i64 l[i].2)
theorem kN{l:List IN}{i:Nat}(h:i<l.length):l.drop i=l[i]::l.drop (i+1):=by rw[ZN h]
theorem xS{w:World}{r:Nat}{arr:Array Value}{t:TypeId}(h:w.heap[r]?=some (.cells arr t (0,0)))(o:Nat)(u:Value) :
  (w.setCell ⟨r,o,none⟩ u).heap[r]?=some (.cells (arr.setIfInBounds o u) t (0,0)):=by
 have f:=Zb h;have g:w.heap[r]=.cells arr t (0,0):=by simpa [Yn f] using h
 show(w.heap.modify r _)[r]?=_;rw[Yn (by simpa using f),Array.getElem_modify_self,g];rfl
theorem zA{w:World}{r:Nat}{arr:Array Value}{t:TypeId}(h:w.heap[r]?=some (.cells arr t (0,0)))(o:Nat):w.cell? ⟨r,o,none⟩=arr[o]?∧w.frozen? ⟨r,o,none⟩=false:=by
 constructor
 ·simp[World.cell?,h]
 simp[World.frozen?,h]
structure CW (w W wr:World) (mb:Nat):Prop where
 upon:Upon mb W wr
 size:w.heap.size<W.heap.size
 below:Below w.heap.size w W
 mb:w.heap.size<mb
theorem CW.low{w W wr:World}{mb:Nat}(h:CW w W wr mb):Below w.heap.size w wr:=h.below.trans (h.upon.below (Nat.le_of_lt h.size) (Nat.le_of_lt h.mb))
def ZfQ(w W:World)(mb:Nat)(ins:List IN)(v:Value)(wr:World):Prop :=
 ∃(i:Nat)(env:Env)(L:List (ByteArray × Value)),v=.int .i64 (i:Int)∧i≤ins.length∧CW w W wr mb∧YT wr mb L∧XY L env∧J4 (ins.drop i) env=Xc ins
def ZfR(w W:World)(mb b:Nat)(env:Env)(L:List (ByteArray × Value))(flows:List FL)(v:Value)(wr:World):Prop :=
 ∃(i:Nat)(arr:Array Value),v=.int .i64 (i:Int)∧i≤flows.length∧Upon b W wr∧wr.heap[b]?=some (.cells arr 62 (0,0))∧arr.size=flows.length*2 ∧
  ∀j (h:j<flows.length),j<i→arr[j*2]?=some (.int .i64 (Jv env flows[j].nm).1)∧arr[j*2+1]?=some (.int .i64 (Jv env flows[j].nm).2)
theorem InC.later{w wr:World}{b o:Nat}{f:IN}(h:InC w b o f)(hb:Below w.heap.size w wr)(hlt:b<w.heap.size):InC wr b o f:=Et w wr b o f hb hlt h
theorem Zbu:XY [] (fun _=>none):=fun nm=>rfl
theorem eJ:(prog.info? 62).map (fun i=>(i.zero,i.size,i.bytes))=some (some (.agg #[.int .i64 0,.int .i64 0]),2,16):=by kernel_rfl
theorem qG(n:Nat)(v:n≤1000)(w:World):(Instr.makeSlice 30 (.int .i64 (n:Int)) (.int .i64 (n:Int))).run prog w=.ok (.slice (some ⟨w.heap.size,0,none⟩) n n) (w.alloc (.cells (madeCells #[.int .i64 0,.int .i64 0] (n*2)) 62)):=by
 obtain⟨i,hi,f⟩:=Option.map_eq_some_iff.1 eJ;simp only[Z4] at f;obtain⟨q,m,hb⟩:=f;have g:=run_make (P:=prog) w 30 62 i _ underlying30 hi q .i64 .i64 n n oq (Int.le_refl _) (by rw[hb];omega) oq;have j:(Value.agg #[.int .i64 0,.int .i64 0]).cells=#[.int .i64 0,.int .i64 0]:=by first|rfl|simp[Value.cells]
 rw[j,m] at g;simpa using g
theorem ZaS(w:World){ops:Array Oper}{rest:List Oper}{o:Oper}{a:Act}{Q:Exit→Act→World→Prop}(m:o.guard=none)(l c:Operand)(g:o.op=Op.makeSlice 30 l c)
  (n:Nat)(q:a.eval l=.int .i64 (n:Int))(j:a.eval c=.int .i64 (n:Int))(v:n≤1000)
  (hK:wpList prog ops Q rest (a.put o.dst (.slice (some ⟨w.heap.size,0,none⟩) n n)) (w.alloc (.cells (madeCells #[.int .i64 0,.int .i64 0] (n*2)) 62))):wpList prog ops Q (o::rest) a w:=by
 refine wpList_plain m fun K hK'=>?_
 have f:=qG n v w;unfold Oper.wp;simp[execOp,g,q,j,f,Result.andThen];exact hK' _ _ hK
theorem Zai(n:Nat):(madeCells #[.int .i64 0,.int .i64 0] (n*2)).size=n*2:=size_madeCells _ _
def exE(k n d:Int)(nm:ByteArray)(len:Nat):Bool :=
 if k=1 then XV nm&&decide (len=0)&&decide (n=0)&&decide (d=0)
 else if k=2 then XV nm&&decide (1≤len)&&decide (len≤6)&&decide (n=0)&&decide (d=0)
 else if len≠1∨nm≠⟨#[]⟩∨(d≠0∧k≠5) then false
 else if k=3∨k=4 then inB n 1 100
 else if k=5 then inB n 0 100&&inB d 1 100
 else if k=6∨k=8 then inB n (-1000000000) 1000000000
 else decide (k=7)&&decide (n=0)
def exR:PL→Bool
 | .nil=>true
 | .cons k nm n d args _ tl=>(exR args&&exE k n d nm args.len)&&exR tl
def YE(e:PE):Bool:=exR e.args&&exE e.k e.n e.d e.nm e.args.len
def UJ(e:PE):Prop:=∀(w:World)(ad:Option Addr)(cap:Nat),AE w e ad cap →
 Calls prog 43 #[ev e ad cap] w fun x w'=>x=.returned (.bool (YE e))∧Below w.heap.size w w'
def ZfM(w:World)(e:PE)(ad:Option Addr)(cap:Nat)(v3:Value)(wr:World):Prop :=
 ∃(i:Nat)(rest:PL),v3=.int .i64 (i:Int)∧Rest wr ad e.args rest i∧exR rest=exR e.args ∧
  wr.heap[w.heap.size]?=some (.cells #[.int .i64 e.k,.string e.nm,.int .i64 e.n,.int .i64 e.d,.slice ad e.args.len cap,.int .i64 e.a] 88 (0,0))∧Below w.heap.size w wr
theorem ZdL{nm:ByteArray}(f:nm≠⟨#[]⟩):nm.data.toList≠[]:=by
 intro h;apply f;obtain⟨⟨l⟩⟩:=nm;simp at h;subst h;rfl
theorem Zdx{k n d:Int}{nm:ByteArray}{len:Nat}(f:k≠1)(g:k≠2)(h:len≠1):exE k n d nm len=false:=by
 unfold exE;rw[Z1 f,Z1 g,Z2 (Or.inl h)]
theorem Ze2{k n d:Int}{nm:ByteArray}{len:Nat}(f:k≠1)(g:k≠2)(h:nm≠⟨#[]⟩):exE k n d nm len=false:=by
 unfold exE;rw[Z1 f,Z1 g,Z2 (Or.inr (Or.inl h))]
theorem eZ(e:PE)(ih:∀e':PE,e'.args.sz<e.args.sz→UJ e'):UJ e:=by
 intro w ad cap V;obtain⟨k,U,n,d,args,a⟩:=e;have aq:=V.len;have ar:=V.nums.2.2.2.2;simp only at aq ar;have av:=hid V;have aw:=hid ih;clear V ih;unfold ev;simp only;obtain⟨fin,R⟩:=ez (YE ⟨k,U,n,d,args,a⟩);rw[R];have HF:=hid (show(exR args&&exE k n d U args.len)=fin from R);clear R;go_enter func43,ntmps43;go_wp2;go_loopw [3] (fun v3 wr=>Hid (ZfM w ⟨k,U,n,d,args,a⟩ ad cap v3 wr)) (fun i _=>args.len-(intOf i).toNat)
 case atStart=>exact⟨0,args,rfl,(Rest.start av.out.args).below bq,rfl,Yw w _,bq⟩
 obtain⟨i,rest,rfl,G,Z,H,hbel⟩:=hrel.out;clear hrel;obtain⟨⟨x0,x1,x2,x3,x4,x5⟩,xf⟩:=Xm H;have af:=hid H;have HBEL:=hid hbel;have X:=G.1;simp only at X;have ay:=Zb H;have bp:=hbel.size;have HR:=hid G;clear H hbel G
 cases rest with
 | cons k1 nm1 n1 d1 args1 a1 tl =>
  have E:=hid Z;clear Z;have ba:(i:Int)<(args.len:Int):=by simp only[PL.len] at X;omega
  obtain⟨b,o,rfl,hb,h0,h1,h2,h3,h5,hn,⟨ax,ah,h4,ac,ai,J⟩,ht⟩:=HR.out.2.2.resolve_left (by intro h;cases h);have au:=HR.out.2.1;simp only[PL.sz] at au;have HC:=hid (aw.out ⟨k1,nm1,n1,d1,args1,a1⟩ (by show args1.sz<args.sz;omega) wr ax ah ⟨hn,⟨ac,ai⟩,J⟩);unfold ev at HC;simp only at HC
  cases hbb:YE ⟨k1,nm1,n1,d1,args1,a1⟩ with
  | true =>
   rw[hbb] at HC;have ab:=hid (show exR tl=exR args from by
    have h:=E.out;rw[exR,show(exR args1&&exE k1 n1 d1 nm1 args1.len)=true from hbb,Bool.true_and] at h;exact h)
   clear hbb ht hn J;go_wp2_with (go_at_call 43;refine HC.out.mono ?_;rintro e f ⟨rfl,hb2⟩);go_roundw
   case rel=>exact⟨i+1,tl,by go_num,HR.out.tail.below hb2,ab.out,(hb2.block _ ay).trans af.out,bq⟩
   simp[intOf];omega
  | false =>
   rw[hbb] at HC;have ab:=hid (show exR args=false from by
    have h:=E.out;rw[exR,show(exR args1&&exE k1 n1 d1 nm1 args1.len)=false from hbb,Bool.false_and] at h;exact h.symm)
   clear hbb ht hn J;go_wp2_with (go_at_call 43;refine HC.out.mono ?_;rintro e f ⟨rfl,hb2⟩);go_ret;exact⟨YH (by rw[←HF.out,ab.out];rfl),bq⟩
 | nil =>
  obtain rfl:i=args.len:=by simp only[PL.len] at X;omega
  have E:=hid (show true=exR args from Z);have g:=hid (fun w=>Qh U w ar);have v:=hid (fun w=>XW n 1 100 w);have j:=hid (fun w=>XW n 0 100 w);have x:=hid (fun w=>XW n (-1000000000) 1000000000 w);have q:=hid (fun w=>XW d 1 100 w);clear Z X;obtain⟨wo,rfl⟩:=ey wr;obtain⟨pl,T⟩:∃pl,decide (n=0∧d=0)=pl:=⟨_,rfl⟩;go_upto_region 6 with fail
  go_cut [4] (fun s4 W=>Hid (s4=.bool pl∧W=wo))
  case first =>
   by_cases F:n=0
   ·by_cases m:d=0
    ·obtain rfl:pl=true:=T.symm.trans (Z0 ⟨F,m⟩);subst F;subst m;go_wp2_with fail;go_meet;exact hid ⟨rfl,rfl⟩
    obtain rfl:pl=false:=T.symm.trans (ZZ (fun h=>m h.2));have J:(d == 0)=false:=ZY.2 m;subst F;go_wp2_with fail;go_meet;exact hid ⟨rfl,rfl⟩
   obtain rfl:pl=false:=T.symm.trans (ZZ (fun h=>F h.1));have az:(n == 0)=false:=ZY.2 F;go_wp2_with fail;go_meet;exact hid ⟨rfl,rfl⟩
  obtain⟨rfl,rfl⟩:=hcut.out;clear hcut;have ag:=hid T;clear T;by_cases L:k=1
  ·subst L
   cases hno:XV U<;>by_cases C:args.len=0
   all_goals (rw[hno] at g;first|have O:((args.len:Int) == 0)=true:=(by rw[beq_iff_eq];omega)|have O:((args.len:Int) == 0)=false:=(by rw[ZY];omega))
   all_goals (have y:=hid C;clear C;go_wp2_with (first|(go_at_call 38;refine(g.out _).mono ?_;rintro e f ⟨rfl,hb2⟩;obtain⟨z,A⟩:=YC hb2;have HB2:=hid hb2;clear hb2)|(go_at_call 39;(with_reducible refine(j.out _).mono ?_);rintro e f ⟨rfl,rfl⟩)|(go_at_call 39;(with_reducible refine(x.out _).mono ?_);rintro e f ⟨rfl,rfl⟩)|(go_at_call 39;(with_reducible refine(v.out _).mono ?_);rintro e f ⟨rfl,rfl⟩)|(go_at_call 39;(with_reducible refine(q.out _).mono ?_);rintro e f ⟨rfl,rfl⟩));all_goals (first|(exfalso;have D:=y.out;omega)|(go_ret;exact⟨YH (by rw[←HF.out,←E.out];first|(rw[←ag.out];simp[exE,hno,y.out];done)|simp[exE,hno,y.out]),bq⟩)))
  have bb:(k == 1)=false:=ZY.2 L;by_cases M:k=2
  ·subst M
   cases hno:XV U<;>by_cases C:1≤args.len<;>by_cases ap:args.len≤6
   all_goals (rw[hno] at g;have y:=hid (Zh C ap);first|(have O:(1:Int)≤(args.len:Int):=oq)|(have O:(args.len:Int)<1:=oq;have bn:decide ((1:Int)≤(args.len:Int))=false:=(by simpa using O)))
   all_goals (first|(have ao:(args.len:Int)≤6:=oq)|(have ao:(6:Int)<(args.len:Int):=oq;have bo:decide ((args.len:Int)≤6)=false:=(by simpa using ao)))
   all_goals (clear C ap;go_wp2_with (first|(go_at_call 38;refine(g.out _).mono ?_;rintro e f ⟨rfl,hb2⟩;obtain⟨z,A⟩:=YC hb2;have HB2:=hid hb2;clear hb2)|(go_at_call 39;(with_reducible refine(j.out _).mono ?_);rintro e f ⟨rfl,rfl⟩)|(go_at_call 39;(with_reducible refine(x.out _).mono ?_);rintro e f ⟨rfl,rfl⟩)|(go_at_call 39;(with_reducible refine(v.out _).mono ?_);rintro e f ⟨rfl,rfl⟩)|(go_at_call 39;(with_reducible refine(q.out _).mono ?_);rintro e f ⟨rfl,rfl⟩));all_goals (first|(exfalso;have D:=y.out;omega)|(go_ret;exact⟨YH (by rw[←HF.out,←E.out];first|(rw[←ag.out];simp[exE,hno,y.out.1,y.out.2];done)|simp[exE,hno,y.out.1,y.out.2]),bq⟩)))
  have bc:(k == 2)=false:=ZY.2 M;by_cases C:args.len=1
  ·have O:((args.len:Int) == 1)=true:=by rw[beq_iff_eq];omega
   have y:=hid C;clear C;by_cases he:U=⟨#[]⟩
   ·subst he;have aa:∀b:Bool,(if k=3∨k=4 then inB n 1 100 else if k=5 then inB n 0 100&&inB d 1 100 else if k=6∨k=8 then inB n (-1000000000) 1000000000 else decide (k=7)&&decide (n=0))=b→¬(d≠0∧k≠5)→b=fin:=fun b hb hd=>by
     have hc:¬(args.len≠1∨(⟨#[]⟩:ByteArray)≠⟨#[]⟩∨(d≠0∧k≠5)):=fun h=>by
      rcases h with h|h|h
      ·exact h y.out
      ·exact h rfl
      exact hd h
     rw[←HF.out,←E.out,Bool.true_and];unfold exE;rw[Z1 L,Z1 M,Z1 hc];exact hb.symm
    have I:=hid aa;clear aa;by_cases Y:k=5
    ·subst Y
     cases hib:inB n 0 100<;>by_cases m:d=0
     all_goals (rw[hib] at j;first|have J:(d == 0)=false:=ZY.2 m|subst m)
     all_goals (go_wp2_with (first|(go_at_call 38;refine(g.out _).mono ?_;rintro e f ⟨rfl,hb2⟩;obtain⟨z,A⟩:=YC hb2;have HB2:=hid hb2;clear hb2)|(go_at_call 39;(with_reducible refine(j.out _).mono ?_);rintro e f ⟨rfl,rfl⟩)|(go_at_call 39;(with_reducible refine(x.out _).mono ?_);rintro e f ⟨rfl,rfl⟩)|(go_at_call 39;(with_reducible refine(v.out _).mono ?_);rintro e f ⟨rfl,rfl⟩)|(go_at_call 39;(with_reducible refine(q.out _).mono ?_);rintro e f ⟨rfl,rfl⟩));all_goals (first|(exfalso;have D:=y.out;omega)|(go_ret;exact⟨YH (I.out _ (by simp[hib]) (by simp)),bq⟩)))
    have bf:(k == 5)=false:=ZY.2 Y;by_cases m:d=0
    ·subst m;by_cases aj:k=3
     ·subst aj;go_wp2_with (first|(go_at_call 38;refine(g.out _).mono ?_;rintro e f ⟨rfl,hb2⟩;obtain⟨z,A⟩:=YC hb2;have HB2:=hid hb2;clear hb2)|(go_at_call 39;(with_reducible refine(j.out _).mono ?_);rintro e f ⟨rfl,rfl⟩)|(go_at_call 39;(with_reducible refine(x.out _).mono ?_);rintro e f ⟨rfl,rfl⟩)|(go_at_call 39;(with_reducible refine(v.out _).mono ?_);rintro e f ⟨rfl,rfl⟩)|(go_at_call 39;(with_reducible refine(q.out _).mono ?_);rintro e f ⟨rfl,rfl⟩))
      all_goals (first|(exfalso;have D:=y.out;omega)|(go_ret;exact⟨YH (I.out _ (by simp) (by simp)),bq⟩))
     have bd:(k == 3)=false:=ZY.2 aj;by_cases ak:k=4
     ·subst ak;go_wp2_with (first|(go_at_call 38;refine(g.out _).mono ?_;rintro e f ⟨rfl,hb2⟩;obtain⟨z,A⟩:=YC hb2;have HB2:=hid hb2;clear hb2)|(go_at_call 39;(with_reducible refine(j.out _).mono ?_);rintro e f ⟨rfl,rfl⟩)|(go_at_call 39;(with_reducible refine(x.out _).mono ?_);rintro e f ⟨rfl,rfl⟩)|(go_at_call 39;(with_reducible refine(v.out _).mono ?_);rintro e f ⟨rfl,rfl⟩)|(go_at_call 39;(with_reducible refine(q.out _).mono ?_);rintro e f ⟨rfl,rfl⟩))
      all_goals (first|(exfalso;have D:=y.out;omega)|(go_ret;exact⟨YH (I.out _ (by simp) (by simp)),bq⟩))
     have be:(k == 4)=false:=ZY.2 ak;by_cases al:k=6
     ·subst al;go_wp2_with (first|(go_at_call 38;refine(g.out _).mono ?_;rintro e f ⟨rfl,hb2⟩;obtain⟨z,A⟩:=YC hb2;have HB2:=hid hb2;clear hb2)|(go_at_call 39;(with_reducible refine(j.out _).mono ?_);rintro e f ⟨rfl,rfl⟩)|(go_at_call 39;(with_reducible refine(x.out _).mono ?_);rintro e f ⟨rfl,rfl⟩)|(go_at_call 39;(with_reducible refine(v.out _).mono ?_);rintro e f ⟨rfl,rfl⟩)|(go_at_call 39;(with_reducible refine(q.out _).mono ?_);rintro e f ⟨rfl,rfl⟩))
      all_goals (first|(exfalso;have D:=y.out;omega)|(go_ret;exact⟨YH (I.out _ (by simp) (by simp)),bq⟩))
     have bh:(k == 6)=false:=ZY.2 al;by_cases an:k=8
     ·subst an;go_wp2_with (first|(go_at_call 38;refine(g.out _).mono ?_;rintro e f ⟨rfl,hb2⟩;obtain⟨z,A⟩:=YC hb2;have HB2:=hid hb2;clear hb2)|(go_at_call 39;(with_reducible refine(j.out _).mono ?_);rintro e f ⟨rfl,rfl⟩)|(go_at_call 39;(with_reducible refine(x.out _).mono ?_);rintro e f ⟨rfl,rfl⟩)|(go_at_call 39;(with_reducible refine(v.out _).mono ?_);rintro e f ⟨rfl,rfl⟩)|(go_at_call 39;(with_reducible refine(q.out _).mono ?_);rintro e f ⟨rfl,rfl⟩))
      all_goals (first|(exfalso;have D:=y.out;omega)|(go_ret;exact⟨YH (I.out _ (by simp) (by simp)),bq⟩))
     have bj:(k == 8)=false:=ZY.2 an;by_cases am:k=7<;>by_cases F:n=0
     all_goals (first|have bi:(k == 7)=false:=ZY.2 am|subst am)
     all_goals (first|have az:(n == 0)=false:=ZY.2 F|subst F)
     all_goals (go_wp2_with (first|(go_at_call 38;refine(g.out _).mono ?_;rintro e f ⟨rfl,hb2⟩;obtain⟨z,A⟩:=YC hb2;have HB2:=hid hb2;clear hb2)|(go_at_call 39;(with_reducible refine(j.out _).mono ?_);rintro e f ⟨rfl,rfl⟩)|(go_at_call 39;(with_reducible refine(x.out _).mono ?_);rintro e f ⟨rfl,rfl⟩)|(go_at_call 39;(with_reducible refine(v.out _).mono ?_);rintro e f ⟨rfl,rfl⟩)|(go_at_call 39;(with_reducible refine(q.out _).mono ?_);rintro e f ⟨rfl,rfl⟩));all_goals (first|(exfalso;have D:=y.out;omega)|(exfalso;rename_i hx;have br:=eq_of_beq hx;omega)|(go_ret;exact⟨YH (I.out _ (by simp[*]) (by simp)),bq⟩)))
    have J:(d == 0)=false:=ZY.2 m;have bk:(d != 0)=true:=bne_iff_ne.2 m;have bg:(k != 5)=true:=bne_iff_ne.2 Y;go_wp2_with (first|(go_at_call 38;refine(g.out _).mono ?_;rintro e f ⟨rfl,hb2⟩;obtain⟨z,A⟩:=YC hb2;have HB2:=hid hb2;clear hb2)|(go_at_call 39;(with_reducible refine(j.out _).mono ?_);rintro e f ⟨rfl,rfl⟩)|(go_at_call 39;(with_reducible refine(x.out _).mono ?_);rintro e f ⟨rfl,rfl⟩)|(go_at_call 39;(with_reducible refine(v.out _).mono ?_);rintro e f ⟨rfl,rfl⟩)|(go_at_call 39;(with_reducible refine(q.out _).mono ?_);rintro e f ⟨rfl,rfl⟩))
    all_goals (first|(exfalso;have D:=y.out;omega)|(go_ret;exact⟨YH (by rw[←HF.out,←E.out];simp[exE,L,M,m,Y]),bq⟩))
   have ae:U.data.toList≠[]:=ZdL he;have bl:U.toList.isEmpty=false:=by rw[Lib.toList_data];simpa using ae
   have bm:¬U.toList=[]:=by rw[Lib.toList_data];exact ae
   have HE:=hid he;clear he ae;go_wp2_with (first|(go_at_call 38;refine(g.out _).mono ?_;rintro e f ⟨rfl,hb2⟩;obtain⟨z,A⟩:=YC hb2;have HB2:=hid hb2;clear hb2)|(go_at_call 39;(with_reducible refine(j.out _).mono ?_);rintro e f ⟨rfl,rfl⟩)|(go_at_call 39;(with_reducible refine(x.out _).mono ?_);rintro e f ⟨rfl,rfl⟩)|(go_at_call 39;(with_reducible refine(v.out _).mono ?_);rintro e f ⟨rfl,rfl⟩)|(go_at_call 39;(with_reducible refine(q.out _).mono ?_);rintro e f ⟨rfl,rfl⟩))
   all_goals (first|(exfalso;have D:=y.out;omega)|(go_ret;exact⟨YH (by rw[←HF.out,←E.out];rw[Ze2 L M HE.out];rfl),bq⟩))
  have O:((args.len:Int) == 1)=false:=by rw[ZY];omega
  have y:=hid C;clear C;go_wp2_with (first|(go_at_call 38;refine(g.out _).mono ?_;rintro e f ⟨rfl,hb2⟩;obtain⟨z,A⟩:=YC hb2;have HB2:=hid hb2;clear hb2)|(go_at_call 39;(with_reducible refine(j.out _).mono ?_);rintro e f ⟨rfl,rfl⟩)|(go_at_call 39;(with_reducible refine(x.out _).mono ?_);rintro e f ⟨rfl,rfl⟩)|(go_at_call 39;(with_reducible refine(v.out _).mono ?_);rintro e f ⟨rfl,rfl⟩)|(go_at_call 39;(with_reducible refine(q.out _).mono ?_);rintro e f ⟨rfl,rfl⟩))
  all_goals (first|(exfalso;have D:=y.out;omega)|(go_ret;exact⟨YH (by rw[←HF.out,←E.out];rw[Zdx L M y.out];rfl),bq⟩))
theorem Zbw(e:PE):UJ e:=by
 suffices h:∀(N:Nat)(e:PE),e.args.sz<N→UJ e from h _ e (ZW _)
 intro N
 induction N with
 | zero=>intro e h;omega
 | succ N ih=>intro e h;exact eZ e (fun e' h'=>ih e' oq)
theorem Zfz:∀(l:PL)(n f:Int),1≤n→n≤f+1→szL l n f≤f→szL l n f=n+(l.sz:Int):=by
 intro l
 induction l with
 | nil=>intro n f q v g;simp only[szL,PL.sz];omega
 | cons k nm n' d args a tl ih1 ih2 =>
  intro n f q v g;rw[szL] at g ⊢;by_cases h:n≤f
  ·rw[Z2 h] at g ⊢;have x:=E5 args 1 (f-n) oq oq;have y:=E5 tl (n+szL args 1 (f-n)) f oq oq;have j:=ih1 1 (f-n) oq oq oq;have m:=ih2 (n+szL args 1 (f-n)) f oq oq g;rw[m,j];simp only[PL.sz];omega
  rw[Z1 h] at g;omega
def vg(p:PG):Prop:=p.nodes.length≤140737488351232∧p.ins.length≤140737488351232∧p.flows.length≤140737488351232∧p.outs.length≤140737488351232
structure Ve (p:PG):Prop where
 lens:p.nodes.length+p.ins.length+p.flows.length+p.outs.length≤40
 nodes:∀x∈p.nodes,szL x.body.args 1 100≤100∧x.ps.length≤6∧1≤x.ps.length∧inB x.bud 1 1000=true∧Ue x.body=true
 flows:∀x∈p.flows,szL x.e.args 1 100≤100∧YE x.e=true
 ins:∀x∈p.ins,inB x.per 1 1000=true∧inB x.ph 0 1000=true
 outs:∀x∈p.outs,inB x.dl 1 1000=true
def Za0(p:PG)(x:Ending):Prop:=∃b:Bool,x=.returned (.bool b)∧(b=true→Ve p)
theorem Xy{w:World}{b:Nat}{f g j m q v x y z A:Value}{t:TypeId}(h:w.heap[b]?=some (.cells #[f,g,j,m,q,v,x,y,z,A] t (0,0))) :
  (w.cell? ⟨b,0,none⟩=some f∧w.cell? ⟨b,1,none⟩=some g∧w.cell? ⟨b,2,none⟩=some j∧w.cell? ⟨b,3,none⟩=some m∧w.cell? ⟨b,4,none⟩=some q∧w.cell? ⟨b,5,none⟩=some v∧w.cell? ⟨b,6,none⟩=some x∧w.cell? ⟨b,7,none⟩=some y∧w.cell? ⟨b,8,none⟩=some z∧w.cell? ⟨b,9,none⟩=some A)∧∀o,w.frozen? ⟨b,o,none⟩=false:=by
 refine⟨⟨?_,?_,?_,?_,?_,?_,?_,?_,?_,?_⟩,?_⟩
 all_goals first|(intro o;simp[World.frozen?,h])|simp[World.cell?,h]
theorem Qw{w:World}{b:Nat}{f g j m q v x y:Value}{t:TypeId}(h:w.heap[b]?=some (.cells #[f,g,j,m,q,v,x,y] t (0,0))) :
  (w.cell? ⟨b,0,none⟩=some f∧w.cell? ⟨b,1,none⟩=some g∧w.cell? ⟨b,2,none⟩=some j∧w.cell? ⟨b,3,none⟩=some m∧w.cell? ⟨b,4,none⟩=some q∧w.cell? ⟨b,5,none⟩=some v∧w.cell? ⟨b,6,none⟩=some x∧w.cell? ⟨b,7,none⟩=some y)∧∀o,w.frozen? ⟨b,o,none⟩=false:=by
 refine⟨⟨?_,?_,?_,?_,?_,?_,?_,?_⟩,?_⟩
 all_goals first|(intro o;simp[World.frozen?,h])|simp[World.cell?,h]
def uZ(w:World)(p:PG)(an ai af ao:Option Addr)(cn ci cf co:Nat)(len:Nat)(S:Nat→Prop)(v:Value)(wr:World):Prop :=
 ∃i:Nat,v=.int .i64 (i:Int)∧i≤len∧Qk wr w.heap.size p an ai af ao cn ci cf co∧Below w.heap.size w wr∧S i
def ZfZ(w W:World)(len:Nat)(v:Value)(wr:World):Prop:=∃k:Nat,v=.int .i64 (k:Int)∧k≤len∧Below W.heap.size W wr
theorem OuC.later{w wr:World}{b o:Nat}{f:OU}(h:OuC w b o f)(hb:Below w.heap.size w wr)(hlt:b<w.heap.size):OuC wr b o f:=qX w wr b o f hb hlt h
theorem UP{α:Type}{l:List α}{P:α→Prop}(h:∀j (f:j<l.length),j<l.length→P l[j]):∀x∈l,P x:=by
 intro x g;obtain⟨j,f,rfl⟩:=Ym g;exact h j f f
theorem Ua{α:Type}{l:List α}{P:α→Prop}{i:Nat}(h:∀j (f:j<l.length),j<i→P l[j]){x:α}(hi:∀f:i<l.length,l[i]=x)(q:P x):∀j (f:j<l.length),j<i+1→P l[j]:=by
 intro j f m;by_cases g:j<i
 ·exact h j f g
 have:j=i:=oq;subst this;rw[hi f];exact q
theorem Zcz{w:World}(p:PG)(an ai af ao:Option Addr)(cn ci cf co:Nat)(hp:AP w p an ai af ao cn ci cf co)(fm:vg p) :
  Calls prog 17 #[pv p an ai af ao cn ci cf co] w fun x w'=>Za0 p x∧Below w.heap.size w w':=by
 obtain⟨z,ins,A,U⟩:=p;have HN:=hid hp.nodes;have HI:=hid hp.ins;have HF:=hid hp.flows;have HO:=hid hp.outs;have ej:=hp.caps;simp only at ej;obtain⟨et,eu,ew,ex⟩:=fm;simp only at et eu ew ex;clear hp;unfold pv;simp only;by_cases fb:z.length+ins.length+A.length+U.length≤40
 ·have fk:¬((40:Int)<(z.length:Int)+(ins.length:Int)+(A.length:Int)+(U.length:Int)):=oq;have fq:(z.length:Int)+(ins.length:Int)+(A.length:Int)+(U.length:Int)≤40:=oq;go_enter func17,ntmps17;go_wp2;go_loopw [3] (fun v wr=>Hid (uZ w ⟨z,ins,A,U⟩ an ai af ao cn ci cf co z.length (fun i=>∀j (hj:j<z.length),j<i→(szL z[j].body.args 1 100≤100∧z[j].ps.length≤6∧1≤z[j].ps.length∧inB z[j].bud 1 1000=true∧Ue z[j].body=true)) v wr)) (fun i _=>z.length-(intOf i).toNat)
  case atStart=>exact⟨0,rfl,Zk _,Yw w _,bq,fun j hj h=>absurd h oq⟩
  obtain⟨i,rfl,hi,R,hbel,hS⟩:=hrel.out;clear hrel
  try simp only at hS
  unfold Qk at R;simp only at R;obtain⟨⟨x0,x1,x2,x3⟩,xf⟩:=Yx R;have M:=hid R;have HBEL:=hid hbel;have y:=Zb R;have al:=hbel.size;have HS:=hid hS;clear R hS;by_cases bz:i<z.length
  ·obtain⟨bb,oo,rfl,V,dh⟩:=HN.out.at bz;have dw:=Vl w wr bb _ _ hbel V dh;have ds:=Zd V al;obtain⟨x,hx⟩:=ez (z[i]);have HX:=hid hx;rw[hx] at dw;obtain⟨nm,ps,ee,⟨k1,nm1,n1,d1,m,a1⟩,fa⟩:=x;obtain⟨pa,pc,ad,cap,y0,y1,y2,y3,y4,y5,y6,y7,y8,y9,cu,⟨fo,fp,er⟩,ay⟩:=dw.cells;have HA:=hid cu;have ec:=hid er;have dv:(i:Int)<(z.length:Int):=oq;have q:=hid (fun w=>Qh nm w ay.1);have Z:=hid (fun w=>XW ee 1 1000 w);have ak:=hid (fun w' (h:AE w' ⟨k1,nm1,n1,d1,m,a1⟩ ad cap)=>jO ⟨k1,nm1,n1,d1,m,a1⟩ w' ad cap 100 h oq oq);have ag:=hid (fun w' (h:AE w' ⟨k1,nm1,n1,d1,m,a1⟩ ad cap)=>kM ⟨k1,nm1,n1,d1,m,a1⟩ w' ad cap 30 h oq);have bx:=hid (fun w' (h:AE w' ⟨k1,nm1,n1,d1,m,a1⟩ ad cap)=>Zbg ⟨k1,nm1,n1,d1,m,a1⟩ w' ad cap h);unfold ev at ak ag bx;simp only at ak ag bx;rw[show((30:Nat):Int)=30 from rfl] at ag;have dx:=E5 m 1 100 oq oq;have dt:=vJ ⟨k1,nm1,n1,d1,m,a1⟩ 30;generalize hse:szL m 1 100=se at ak dx;generalize dpE ⟨k1,nm1,n1,d1,m,a1⟩ 30=de at ag dt;have dr:=hid hse;clear hbel dw dh hx cu er ay V hse
   cases hno:XV nm with
   | false =>
    rw[hno] at q;go_wp2_with (first|(go_at_call 38;refine(q.out _).mono ?_;rintro e L ⟨rfl,hb1⟩;have s1:wr.heap.size<L.heap.size:=Yy hb1 oq;have t1:w.heap.size<L.heap.size:=Yy hb1 oq;have g:=hid ((hb1.block wr.heap.size oq).trans (Yw wr _));have f:=hid ((hb1.block w.heap.size oq).trans ((Za _ _ _ y).trans M.out));obtain⟨⟨C,D,E,F,aa,ab,ac,ae,az,ba⟩,X⟩:=Xy g.out;obtain⟨⟨G,H,I,J⟩,Y⟩:=Yx f.out));go_ret;exact⟨⟨false,rfl,fun h=>by cases h⟩,bq⟩
   | true =>
    rw[hno] at q;by_cases fr:ps.length<1
    ·have ep:(ps.length:Int)<1:=oq;go_wp2_with (first|(go_at_call 38;refine(q.out _).mono ?_;rintro e L ⟨rfl,hb1⟩;have s1:wr.heap.size<L.heap.size:=Yy hb1 oq;have t1:w.heap.size<L.heap.size:=Yy hb1 oq;have g:=hid ((hb1.block wr.heap.size oq).trans (Yw wr _));have f:=hid ((hb1.block w.heap.size oq).trans ((Za _ _ _ y).trans M.out));obtain⟨⟨C,D,E,F,aa,ab,ac,ae,az,ba⟩,X⟩:=Xy g.out;obtain⟨⟨G,H,I,J⟩,Y⟩:=Yx f.out));go_ret;exact⟨⟨false,rfl,fun h=>by cases h⟩,bq⟩
    have ep:(1:Int)≤(ps.length:Int):=oq;by_cases fs:6<ps.length
    ·have eq:(6:Int)<(ps.length:Int):=oq;go_wp2_with (first|(go_at_call 38;refine(q.out _).mono ?_;rintro e L ⟨rfl,hb1⟩;have s1:wr.heap.size<L.heap.size:=Yy hb1 oq;have t1:w.heap.size<L.heap.size:=Yy hb1 oq;have g:=hid ((hb1.block wr.heap.size oq).trans (Yw wr _));have f:=hid ((hb1.block w.heap.size oq).trans ((Za _ _ _ y).trans M.out));obtain⟨⟨C,D,E,F,aa,ab,ac,ae,az,ba⟩,X⟩:=Xy g.out;obtain⟨⟨G,H,I,J⟩,Y⟩:=Yx f.out));go_ret;exact⟨⟨false,rfl,fun h=>by cases h⟩,bq⟩
    have eq:(ps.length:Int)≤6:=oq
    cases hbu:inB ee 1 1000 with
    | false =>
     rw[hbu] at Z;go_wp2_with (first|(go_at_call 38;refine(q.out _).mono ?_;rintro e L ⟨rfl,hb1⟩;have s1:wr.heap.size<L.heap.size:=Yy hb1 oq;have t1:w.heap.size<L.heap.size:=Yy hb1 oq;have g:=hid ((hb1.block wr.heap.size oq).trans (Yw wr _));have f:=hid ((hb1.block w.heap.size oq).trans ((Za _ _ _ y).trans M.out));obtain⟨⟨C,D,E,F,aa,ab,ac,ae,az,ba⟩,X⟩:=Xy g.out;obtain⟨⟨G,H,I,J⟩,Y⟩:=Yx f.out)|(go_at_call 39;with_reducible refine(Z.out _).mono ?_;rintro e w_ ⟨rfl,rfl⟩));go_ret;exact⟨⟨false,rfl,fun h=>by cases h⟩,bq⟩
    | true =>
     rw[hbu] at Z;by_cases fn:(100:Int)<se
     ·go_wp2_with (first|(go_at_call 38;refine(q.out _).mono ?_;rintro e L ⟨rfl,hb1⟩;have s1:wr.heap.size<L.heap.size:=Yy hb1 oq;have t1:w.heap.size<L.heap.size:=Yy hb1 oq;have g:=hid ((hb1.block wr.heap.size oq).trans (Yw wr _));have f:=hid ((hb1.block w.heap.size oq).trans ((Za _ _ _ y).trans M.out));obtain⟨⟨C,D,E,F,aa,ab,ac,ae,az,ba⟩,X⟩:=Xy g.out;obtain⟨⟨G,H,I,J⟩,Y⟩:=Yx f.out)|(go_at_call 39;with_reducible refine(Z.out _).mono ?_;rintro e w_ ⟨rfl,rfl⟩)|(go_at_call 40;refine(ak.out _ (HA.out.below bq)).mono ?_;rintro e w2 ⟨rfl,hb2⟩;have s2:wr.heap.size<w2.heap.size:=Yy hb2 oq;have t2:w.heap.size<w2.heap.size:=Yy hb2 oq;have T:=hid ((hb2.block wr.heap.size oq).trans (g.out));have O:=hid ((hb2.block w.heap.size oq).trans (f.out));obtain⟨⟨am,ap,aq,ar,bc,bd,be,bf,cy,cz⟩,bg⟩:=Xy T.out;obtain⟨⟨au,av,aw,ax⟩,bh⟩:=Yx O.out));go_ret;exact⟨⟨false,rfl,fun h=>by cases h⟩,bq⟩
     have cx:se≤100:=oq;by_cases fj:(20:Int)<de
     ·go_wp2_with (first|(go_at_call 38;refine(q.out _).mono ?_;rintro e L ⟨rfl,hb1⟩;have s1:wr.heap.size<L.heap.size:=Yy hb1 oq;have t1:w.heap.size<L.heap.size:=Yy hb1 oq;have g:=hid ((hb1.block wr.heap.size oq).trans (Yw wr _));have f:=hid ((hb1.block w.heap.size oq).trans ((Za _ _ _ y).trans M.out));obtain⟨⟨C,D,E,F,aa,ab,ac,ae,az,ba⟩,X⟩:=Xy g.out;obtain⟨⟨G,H,I,J⟩,Y⟩:=Yx f.out)|(go_at_call 39;with_reducible refine(Z.out _).mono ?_;rintro e w_ ⟨rfl,rfl⟩)|(go_at_call 40;refine(ak.out _ (HA.out.below bq)).mono ?_;rintro e w2 ⟨rfl,hb2⟩;have s2:wr.heap.size<w2.heap.size:=Yy hb2 oq;have t2:w.heap.size<w2.heap.size:=Yy hb2 oq;have T:=hid ((hb2.block wr.heap.size oq).trans (g.out));have O:=hid ((hb2.block w.heap.size oq).trans (f.out));obtain⟨⟨am,ap,aq,ar,bc,bd,be,bf,cy,cz⟩,bg⟩:=Xy T.out;obtain⟨⟨au,av,aw,ax⟩,bh⟩:=Yx O.out)|(go_at_call 41;refine(ag.out _ (HA.out.below bq)).mono ?_;rintro e w3 ⟨rfl,hb3⟩;have s3:wr.heap.size<w3.heap.size:=Yy hb3 oq;have t3:w.heap.size<w3.heap.size:=Yy hb3 oq;have ah:=hid ((hb3.block wr.heap.size oq).trans (T.out));have aj:=hid ((hb3.block w.heap.size oq).trans (O.out));obtain⟨⟨bk,bl,bm,bn,bo,bp,br,bs,dm,dn⟩,da⟩:=Xy ah.out;obtain⟨⟨bt,bu,bv,bw⟩,db⟩:=Yx aj.out));go_ret;exact⟨⟨false,rfl,fun h=>by cases h⟩,bq⟩
     have ek:de≤20:=oq
     cases hbo:Ue ⟨k1,nm1,n1,d1,m,a1⟩ with
     | false =>
      rw[hbo] at bx;go_wp2_with (first|(go_at_call 38;refine(q.out _).mono ?_;rintro e L ⟨rfl,hb1⟩;have s1:wr.heap.size<L.heap.size:=Yy hb1 oq;have t1:w.heap.size<L.heap.size:=Yy hb1 oq;have g:=hid ((hb1.block wr.heap.size oq).trans (Yw wr _));have f:=hid ((hb1.block w.heap.size oq).trans ((Za _ _ _ y).trans M.out));obtain⟨⟨C,D,E,F,aa,ab,ac,ae,az,ba⟩,X⟩:=Xy g.out;obtain⟨⟨G,H,I,J⟩,Y⟩:=Yx f.out)|(go_at_call 39;with_reducible refine(Z.out _).mono ?_;rintro e w_ ⟨rfl,rfl⟩)|(go_at_call 40;refine(ak.out _ (HA.out.below bq)).mono ?_;rintro e w2 ⟨rfl,hb2⟩;have s2:wr.heap.size<w2.heap.size:=Yy hb2 oq;have t2:w.heap.size<w2.heap.size:=Yy hb2 oq;have T:=hid ((hb2.block wr.heap.size oq).trans (g.out));have O:=hid ((hb2.block w.heap.size oq).trans (f.out));obtain⟨⟨am,ap,aq,ar,bc,bd,be,bf,cy,cz⟩,bg⟩:=Xy T.out;obtain⟨⟨au,av,aw,ax⟩,bh⟩:=Yx O.out)|(go_at_call 41;refine(ag.out _ (HA.out.below bq)).mono ?_;rintro e w3 ⟨rfl,hb3⟩;have s3:wr.heap.size<w3.heap.size:=Yy hb3 oq;have t3:w.heap.size<w3.heap.size:=Yy hb3 oq;have ah:=hid ((hb3.block wr.heap.size oq).trans (T.out));have aj:=hid ((hb3.block w.heap.size oq).trans (O.out));obtain⟨⟨bk,bl,bm,bn,bo,bp,br,bs,dm,dn⟩,da⟩:=Xy ah.out;obtain⟨⟨bt,bu,bv,bw⟩,db⟩:=Yx aj.out)|(go_at_call 42;refine(bx.out _ (HA.out.below bq)).mono ?_;rintro e w4 ⟨rfl,hb4⟩;have s4:wr.heap.size<w4.heap.size:=Yy hb4 oq;have t4:w.heap.size<w4.heap.size:=Yy hb4 oq;have bj:=hid ((hb4.block wr.heap.size oq).trans (ah.out));have bi:=hid ((hb4.block w.heap.size oq).trans (aj.out));obtain⟨⟨ca,cb,cc,cd,ce,cg,ch,cj,dp,dq⟩,dy⟩:=Xy bj.out;obtain⟨⟨ck,cl,cm,cp⟩,dz⟩:=Yx bi.out));go_ret;exact⟨⟨false,rfl,fun h=>by cases h⟩,bq⟩
     | true =>
      rw[hbo] at bx;go_wp2_with (first|(go_at_call 38;refine(q.out _).mono ?_;rintro e L ⟨rfl,hb1⟩;have s1:wr.heap.size<L.heap.size:=Yy hb1 oq;have t1:w.heap.size<L.heap.size:=Yy hb1 oq;have g:=hid ((hb1.block wr.heap.size oq).trans (Yw wr _));have f:=hid ((hb1.block w.heap.size oq).trans ((Za _ _ _ y).trans M.out));obtain⟨⟨C,D,E,F,aa,ab,ac,ae,az,ba⟩,X⟩:=Xy g.out;obtain⟨⟨G,H,I,J⟩,Y⟩:=Yx f.out)|(go_at_call 39;with_reducible refine(Z.out _).mono ?_;rintro e w_ ⟨rfl,rfl⟩)|(go_at_call 40;refine(ak.out _ (HA.out.below bq)).mono ?_;rintro e w2 ⟨rfl,hb2⟩;have s2:wr.heap.size<w2.heap.size:=Yy hb2 oq;have t2:w.heap.size<w2.heap.size:=Yy hb2 oq;have T:=hid ((hb2.block wr.heap.size oq).trans (g.out));have O:=hid ((hb2.block w.heap.size oq).trans (f.out));obtain⟨⟨am,ap,aq,ar,bc,bd,be,bf,cy,cz⟩,bg⟩:=Xy T.out;obtain⟨⟨au,av,aw,ax⟩,bh⟩:=Yx O.out)|(go_at_call 41;refine(ag.out _ (HA.out.below bq)).mono ?_;rintro e w3 ⟨rfl,hb3⟩;have s3:wr.heap.size<w3.heap.size:=Yy hb3 oq;have t3:w.heap.size<w3.heap.size:=Yy hb3 oq;have ah:=hid ((hb3.block wr.heap.size oq).trans (T.out));have aj:=hid ((hb3.block w.heap.size oq).trans (O.out));obtain⟨⟨bk,bl,bm,bn,bo,bp,br,bs,dm,dn⟩,da⟩:=Xy ah.out;obtain⟨⟨bt,bu,bv,bw⟩,db⟩:=Yx aj.out)|(go_at_call 42;refine(bx.out _ (HA.out.below bq)).mono ?_;rintro e w4 ⟨rfl,hb4⟩;have s4:wr.heap.size<w4.heap.size:=Yy hb4 oq;have t4:w.heap.size<w4.heap.size:=Yy hb4 oq;have bj:=hid ((hb4.block wr.heap.size oq).trans (ah.out));have bi:=hid ((hb4.block w.heap.size oq).trans (aj.out));obtain⟨⟨ca,cb,cc,cd,ce,cg,ch,cj,dp,dq⟩,dy⟩:=Xy bj.out;obtain⟨⟨ck,cl,cm,cp⟩,dz⟩:=Yx bi.out));have HB4:=hid (show Below w.heap.size w w4 from bq);have es:ps.length≤6:=oq;have ed:=hid (ec.out.below QU (show Below wr.heap.size wr w4 from bq));have fd:=hid hbu;have ea:=hid hbo;have dk:w.heap.size≤w4.heap.size:=Nat.le_of_lt t4;clear q Z ak ag bx hb1 hb2 hb3 hb4 g T ah f O aj ca cb cc cd ce cg ch cj dp dq ck cl cm cp;go_loopw [5] (fun v wr'=>Hid (ZfZ w w4 ps.length v wr')) (fun k _=>ps.length-(intOf k).toNat)
      case atStart=>exact⟨0,rfl,Zk _,Zg _ _⟩
      obtain⟨k,rfl,hk,hb5⟩:=hrel.out;clear hrel;have cw:=hb5.size;have fe:=hid ((hb5.block _ s4).trans bj.out);have eb:=hid ((hb5.block _ t4).trans bi.out);obtain⟨⟨m0,m1,m2,m3,m4,m5,m6,m7,m8,m9⟩,mf⟩:=Xy fe.out;obtain⟨⟨o0,o1,o2,o3⟩,fu⟩:=Yx eb.out;have HB5:=hid (HB4.out.trans (hb5.mono dk));by_cases em:k<ps.length
      ·obtain⟨pb,po,rfl,R,ft⟩:=ec.out.at em;have dd:=ed.out.below QU hb5;obtain⟨pb,po,dc,R,dj,cv⟩:=dd.at em
       first|subst dc|(injection dc with dc;injection dc with h1_ h2_;subst h1_;subst h2_)
       rw[Z8] at dj;generalize ps[k]=s at dj cv;have en:(k:Int)<(ps.length:Int):=oq;have q:=hid (fun w=>Qh s w cv);have HB6:=hid hb5;clear hb5 dd cv
       cases hno:XV s with
       | false =>
        rw[hno] at q;go_wp2_with (go_at_call 38;refine(q.out _).mono ?_;rintro e w6 ⟨rfl,hb6⟩);go_ret;exact⟨⟨false,rfl,fun h=>by cases h⟩,HB5.out.trans (hb6.mono (Zm dk cw))⟩
       | true =>
        rw[hno] at q;go_wp2_with (go_at_call 38;refine(q.out _).mono ?_;rintro e w6 ⟨rfl,hb6⟩);go_roundw
        case rel=>first|exact⟨k+1,by go_num,oq,HB6.out.trans (hb6.mono cw)⟩|((repeat apply Yg);exact⟨⟨k+1,by go_num,oq,HB6.out.trans (hb6.mono cw)⟩,rfl⟩)
        simp[intOf];omega
      have en:(k:Int)=(ps.length:Int):=oq;clear hb5;go_wp2;refine⟨⟨i+1,by go_num,oq,eb.out,HB5.out,Ua (P:=fun x=>szL x.body.args 1 100≤100∧x.ps.length≤6∧1≤x.ps.length∧inB x.bud 1 1000=true∧Ue x.body=true) HS.out (fun _=>HX.out) ⟨by show szL m 1 100≤100;rw[dr.out];exact cx,es,by show 1≤ps.length;omega,fd.out,ea.out⟩⟩,by simp[intOf];omega⟩
  have eh:=UP (P:=fun x=>szL x.body.args 1 100≤100∧x.ps.length≤6∧1≤x.ps.length∧inB x.bud 1 1000=true∧Ue x.body=true) (l:=z) (fun j hj _=>HS.out j hj oq);have fh:=hid eh;clear HS hbel eh;go_wp2;go_loopw [6] (fun v wr=>Hid (uZ w ⟨z,ins,A,U⟩ an ai af ao cn ci cf co ins.length (fun i=>∀j (hj:j<ins.length),j<i→(inB ins[j].per 1 1000=true∧inB ins[j].ph 0 1000=true)) v wr)) (fun i _=>ins.length-(intOf i).toNat)
  case atStart=>exact⟨0,rfl,Zk _,M.out,HBEL.out,fun j hj h=>absurd h oq⟩
  clear M HBEL y al x0 x1 x2 x3 xf;obtain⟨i,rfl,hi,R,hbel,hS⟩:=hrel.out;clear hrel
  try simp only at hS
  unfold Qk at R;simp only at R;obtain⟨⟨x0,x1,x2,x3⟩,xf⟩:=Yx R;have M:=hid R;have HBEL:=hid hbel;have y:=Zb R;have al:=hbel.size;have HS:=hid hS;clear R hS;by_cases bz:i<ins.length
  ·obtain⟨bb,oo,rfl,V,dg⟩:=HI.out.at bz;have el:=Et w wr bb _ _ hbel V dg;have ds:=Zd V al;obtain⟨x,hx⟩:=ez (ins[i]);have HX:=hid hx;rw[hx] at el;obtain⟨nm,fc,ph,fa⟩:=x;obtain⟨y0,y1,y2,y3,ay⟩:=el;simp only at y0 y1 y2 y3 ay;have dv:(i:Int)<(ins.length:Int):=oq;have q:=hid (fun w=>Qh nm w ay.1);have Z:=hid (fun w=>XW fc 1 1000 w);have cr:=hid (fun w=>XW ph 0 1000 w);clear hbel dg hx ay V
   cases hno:XV nm with
   | false =>
    rw[hno] at q;go_wp2_with (first|(go_at_call 38;refine(q.out _).mono ?_;rintro e L ⟨rfl,hb1⟩;have s1:wr.heap.size<L.heap.size:=Yy hb1 oq;have t1:w.heap.size<L.heap.size:=Yy hb1 oq;have g:=hid ((hb1.block wr.heap.size oq).trans (Yw wr _));have f:=hid ((hb1.block w.heap.size oq).trans ((Za _ _ _ y).trans M.out));obtain⟨⟨C,D,E,F⟩,X⟩:=Yx g.out;obtain⟨⟨G,H,I,J⟩,Y⟩:=Yx f.out));go_ret;exact⟨⟨false,rfl,fun h=>by cases h⟩,bq⟩
   | true =>
    rw[hno] at q
    cases hbu:inB fc 1 1000 with
    | false =>
     rw[hbu] at Z;go_wp2_with (first|(go_at_call 38;refine(q.out _).mono ?_;rintro e L ⟨rfl,hb1⟩;have s1:wr.heap.size<L.heap.size:=Yy hb1 oq;have t1:w.heap.size<L.heap.size:=Yy hb1 oq;have g:=hid ((hb1.block wr.heap.size oq).trans (Yw wr _));have f:=hid ((hb1.block w.heap.size oq).trans ((Za _ _ _ y).trans M.out));obtain⟨⟨C,D,E,F⟩,X⟩:=Yx g.out;obtain⟨⟨G,H,I,J⟩,Y⟩:=Yx f.out)|(go_at_call 39;with_reducible refine(Z.out _).mono ?_;rintro e w_ ⟨rfl,rfl⟩)|(go_at_call 39;with_reducible refine(cr.out _).mono ?_;rintro e w_ ⟨rfl,rfl⟩));go_ret;exact⟨⟨false,rfl,fun h=>by cases h⟩,bq⟩
    | true =>
     rw[hbu] at Z
     cases hbv:inB ph 0 1000 with
     | false =>
      rw[hbv] at cr;go_wp2_with (first|(go_at_call 38;refine(q.out _).mono ?_;rintro e L ⟨rfl,hb1⟩;have s1:wr.heap.size<L.heap.size:=Yy hb1 oq;have t1:w.heap.size<L.heap.size:=Yy hb1 oq;have g:=hid ((hb1.block wr.heap.size oq).trans (Yw wr _));have f:=hid ((hb1.block w.heap.size oq).trans ((Za _ _ _ y).trans M.out));obtain⟨⟨C,D,E,F⟩,X⟩:=Yx g.out;obtain⟨⟨G,H,I,J⟩,Y⟩:=Yx f.out)|(go_at_call 39;with_reducible refine(Z.out _).mono ?_;rintro e w_ ⟨rfl,rfl⟩)|(go_at_call 39;with_reducible refine(cr.out _).mono ?_;rintro e w_ ⟨rfl,rfl⟩));go_ret;exact⟨⟨false,rfl,fun h=>by cases h⟩,bq⟩
     | true =>
      rw[hbv] at cr;go_wp2_with (first|(go_at_call 38;refine(q.out _).mono ?_;rintro e L ⟨rfl,hb1⟩;have s1:wr.heap.size<L.heap.size:=Yy hb1 oq;have t1:w.heap.size<L.heap.size:=Yy hb1 oq;have g:=hid ((hb1.block wr.heap.size oq).trans (Yw wr _));have f:=hid ((hb1.block w.heap.size oq).trans ((Za _ _ _ y).trans M.out));obtain⟨⟨C,D,E,F⟩,X⟩:=Yx g.out;obtain⟨⟨G,H,I,J⟩,Y⟩:=Yx f.out)|(go_at_call 39;with_reducible refine(Z.out _).mono ?_;rintro e w_ ⟨rfl,rfl⟩)|(go_at_call 39;with_reducible refine(cr.out _).mono ?_;rintro e w_ ⟨rfl,rfl⟩));refine⟨⟨i+1,by go_num,oq,f.out,bq,Ua (P:=fun x=>inB x.per 1 1000=true∧inB x.ph 0 1000=true) HS.out (fun _=>HX.out) ⟨hbu,hbv⟩⟩,by simp[intOf];omega⟩
  have eg:=UP (P:=fun x=>inB x.per 1 1000=true∧inB x.ph 0 1000=true) (l:=ins) (fun j hj _=>HS.out j hj oq);have fg:=hid eg;clear HS hbel eg;go_wp2;go_loopw [8] (fun v wr=>Hid (uZ w ⟨z,ins,A,U⟩ an ai af ao cn ci cf co A.length (fun i=>∀j (hj:j<A.length),j<i→(szL A[j].e.args 1 100≤100∧YE A[j].e=true)) v wr)) (fun i _=>A.length-(intOf i).toNat)
  case atStart=>exact⟨0,rfl,Zk _,M.out,HBEL.out,fun j hj h=>absurd h oq⟩
  clear M HBEL y al x0 x1 x2 x3 xf;obtain⟨i,rfl,hi,R,hbel,hS⟩:=hrel.out;clear hrel
  try simp only at hS
  unfold Qk at R;simp only at R;obtain⟨⟨x0,x1,x2,x3⟩,xf⟩:=Yx R;have M:=hid R;have HBEL:=hid hbel;have y:=Zb R;have al:=hbel.size;have HS:=hid hS;clear R hS;by_cases bz:i<A.length
  ·obtain⟨bb,oo,rfl,V,df⟩:=HF.out.at bz;have du:=df.later hbel V;have ds:=Zd V al;obtain⟨x,hx⟩:=ez (A[i]);have HX:=hid hx;rw[hx] at du;obtain⟨nm,⟨k1,nm1,n1,d1,m,a1⟩,fa⟩:=x;obtain⟨ad,cap,y0,y1,y2,y3,y4,y5,y6,y7,cu,ay⟩:=du.cells;have HA:=hid cu;have dv:(i:Int)<(A.length:Int):=oq;have q:=hid (fun w=>Qh nm w ay.1);have ak:=hid (fun w' (h:AE w' ⟨k1,nm1,n1,d1,m,a1⟩ ad cap)=>jO ⟨k1,nm1,n1,d1,m,a1⟩ w' ad cap 100 h oq oq);have ag:=hid (fun w' (h:AE w' ⟨k1,nm1,n1,d1,m,a1⟩ ad cap)=>kM ⟨k1,nm1,n1,d1,m,a1⟩ w' ad cap 30 h oq);have cq:=hid (fun w' (h:AE w' ⟨k1,nm1,n1,d1,m,a1⟩ ad cap)=>Zbw ⟨k1,nm1,n1,d1,m,a1⟩ w' ad cap h);unfold ev at ak ag cq;simp only at ak ag cq;rw[show((30:Nat):Int)=30 from rfl] at ag;have dx:=E5 m 1 100 oq oq;have dt:=vJ ⟨k1,nm1,n1,d1,m,a1⟩ 30;generalize hse:szL m 1 100=se at ak dx;generalize dpE ⟨k1,nm1,n1,d1,m,a1⟩ 30=de at ag dt;have dr:=hid hse;clear hbel du df hx cu ay V hse
   cases hno:XV nm with
   | false =>
    rw[hno] at q;go_wp2_with (first|(go_at_call 38;refine(q.out _).mono ?_;rintro e L ⟨rfl,hb1⟩;have s1:wr.heap.size<L.heap.size:=Yy hb1 oq;have t1:w.heap.size<L.heap.size:=Yy hb1 oq;have g:=hid ((hb1.block wr.heap.size oq).trans (Yw wr _));have f:=hid ((hb1.block w.heap.size oq).trans ((Za _ _ _ y).trans M.out));obtain⟨⟨C,D,E,F,aa,ab,ac,ae⟩,X⟩:=Qw g.out;obtain⟨⟨G,H,I,J⟩,Y⟩:=Yx f.out));go_ret;exact⟨⟨false,rfl,fun h=>by cases h⟩,bq⟩
   | true =>
    rw[hno] at q;by_cases fn:(100:Int)<se
    ·go_wp2_with (first|(go_at_call 38;refine(q.out _).mono ?_;rintro e L ⟨rfl,hb1⟩;have s1:wr.heap.size<L.heap.size:=Yy hb1 oq;have t1:w.heap.size<L.heap.size:=Yy hb1 oq;have g:=hid ((hb1.block wr.heap.size oq).trans (Yw wr _));have f:=hid ((hb1.block w.heap.size oq).trans ((Za _ _ _ y).trans M.out));obtain⟨⟨C,D,E,F,aa,ab,ac,ae⟩,X⟩:=Qw g.out;obtain⟨⟨G,H,I,J⟩,Y⟩:=Yx f.out)|(go_at_call 40;refine(ak.out _ (HA.out.below bq)).mono ?_;rintro e w2 ⟨rfl,hb2⟩;have s2:wr.heap.size<w2.heap.size:=Yy hb2 oq;have t2:w.heap.size<w2.heap.size:=Yy hb2 oq;have T:=hid ((hb2.block wr.heap.size oq).trans (g.out));have O:=hid ((hb2.block w.heap.size oq).trans (f.out));obtain⟨⟨am,ap,aq,ar,bc,bd,be,bf⟩,bg⟩:=Qw T.out;obtain⟨⟨au,av,aw,ax⟩,bh⟩:=Yx O.out));go_ret;exact⟨⟨false,rfl,fun h=>by cases h⟩,bq⟩
    have cx:se≤100:=oq;by_cases fj:(20:Int)<de
    ·go_wp2_with (first|(go_at_call 38;refine(q.out _).mono ?_;rintro e L ⟨rfl,hb1⟩;have s1:wr.heap.size<L.heap.size:=Yy hb1 oq;have t1:w.heap.size<L.heap.size:=Yy hb1 oq;have g:=hid ((hb1.block wr.heap.size oq).trans (Yw wr _));have f:=hid ((hb1.block w.heap.size oq).trans ((Za _ _ _ y).trans M.out));obtain⟨⟨C,D,E,F,aa,ab,ac,ae⟩,X⟩:=Qw g.out;obtain⟨⟨G,H,I,J⟩,Y⟩:=Yx f.out)|(go_at_call 40;refine(ak.out _ (HA.out.below bq)).mono ?_;rintro e w2 ⟨rfl,hb2⟩;have s2:wr.heap.size<w2.heap.size:=Yy hb2 oq;have t2:w.heap.size<w2.heap.size:=Yy hb2 oq;have T:=hid ((hb2.block wr.heap.size oq).trans (g.out));have O:=hid ((hb2.block w.heap.size oq).trans (f.out));obtain⟨⟨am,ap,aq,ar,bc,bd,be,bf⟩,bg⟩:=Qw T.out;obtain⟨⟨au,av,aw,ax⟩,bh⟩:=Yx O.out)|(go_at_call 41;refine(ag.out _ (HA.out.below bq)).mono ?_;rintro e w3 ⟨rfl,hb3⟩;have s3:wr.heap.size<w3.heap.size:=Yy hb3 oq;have t3:w.heap.size<w3.heap.size:=Yy hb3 oq;have ah:=hid ((hb3.block wr.heap.size oq).trans (T.out));have aj:=hid ((hb3.block w.heap.size oq).trans (O.out));obtain⟨⟨bk,bl,bm,bn,bo,bp,br,bs⟩,da⟩:=Qw ah.out;obtain⟨⟨bt,bu,bv,bw⟩,db⟩:=Yx aj.out));go_ret;exact⟨⟨false,rfl,fun h=>by cases h⟩,bq⟩
    have ek:de≤20:=oq
    cases hbo:YE ⟨k1,nm1,n1,d1,m,a1⟩ with
    | false =>
     rw[hbo] at cq;go_wp2_with (first|(go_at_call 38;refine(q.out _).mono ?_;rintro e L ⟨rfl,hb1⟩;have s1:wr.heap.size<L.heap.size:=Yy hb1 oq;have t1:w.heap.size<L.heap.size:=Yy hb1 oq;have g:=hid ((hb1.block wr.heap.size oq).trans (Yw wr _));have f:=hid ((hb1.block w.heap.size oq).trans ((Za _ _ _ y).trans M.out));obtain⟨⟨C,D,E,F,aa,ab,ac,ae⟩,X⟩:=Qw g.out;obtain⟨⟨G,H,I,J⟩,Y⟩:=Yx f.out)|(go_at_call 40;refine(ak.out _ (HA.out.below bq)).mono ?_;rintro e w2 ⟨rfl,hb2⟩;have s2:wr.heap.size<w2.heap.size:=Yy hb2 oq;have t2:w.heap.size<w2.heap.size:=Yy hb2 oq;have T:=hid ((hb2.block wr.heap.size oq).trans (g.out));have O:=hid ((hb2.block w.heap.size oq).trans (f.out));obtain⟨⟨am,ap,aq,ar,bc,bd,be,bf⟩,bg⟩:=Qw T.out;obtain⟨⟨au,av,aw,ax⟩,bh⟩:=Yx O.out)|(go_at_call 41;refine(ag.out _ (HA.out.below bq)).mono ?_;rintro e w3 ⟨rfl,hb3⟩;have s3:wr.heap.size<w3.heap.size:=Yy hb3 oq;have t3:w.heap.size<w3.heap.size:=Yy hb3 oq;have ah:=hid ((hb3.block wr.heap.size oq).trans (T.out));have aj:=hid ((hb3.block w.heap.size oq).trans (O.out));obtain⟨⟨bk,bl,bm,bn,bo,bp,br,bs⟩,da⟩:=Qw ah.out;obtain⟨⟨bt,bu,bv,bw⟩,db⟩:=Yx aj.out)|(go_at_call 43;refine(cq.out _ (HA.out.below bq)).mono ?_;rintro e w4 ⟨rfl,hb4⟩;have s4:wr.heap.size<w4.heap.size:=Yy hb4 oq;have t4:w.heap.size<w4.heap.size:=Yy hb4 oq;have bj:=hid ((hb4.block wr.heap.size oq).trans (ah.out));have bi:=hid ((hb4.block w.heap.size oq).trans (aj.out));obtain⟨⟨ca,cb,cc,cd,ce,cg,ch,cj⟩,dy⟩:=Qw bj.out;obtain⟨⟨ck,cl,cm,cp⟩,dz⟩:=Yx bi.out));go_ret;exact⟨⟨false,rfl,fun h=>by cases h⟩,bq⟩
    | true =>
     rw[hbo] at cq;go_wp2_with (first|(go_at_call 38;refine(q.out _).mono ?_;rintro e L ⟨rfl,hb1⟩;have s1:wr.heap.size<L.heap.size:=Yy hb1 oq;have t1:w.heap.size<L.heap.size:=Yy hb1 oq;have g:=hid ((hb1.block wr.heap.size oq).trans (Yw wr _));have f:=hid ((hb1.block w.heap.size oq).trans ((Za _ _ _ y).trans M.out));obtain⟨⟨C,D,E,F,aa,ab,ac,ae⟩,X⟩:=Qw g.out;obtain⟨⟨G,H,I,J⟩,Y⟩:=Yx f.out)|(go_at_call 40;refine(ak.out _ (HA.out.below bq)).mono ?_;rintro e w2 ⟨rfl,hb2⟩;have s2:wr.heap.size<w2.heap.size:=Yy hb2 oq;have t2:w.heap.size<w2.heap.size:=Yy hb2 oq;have T:=hid ((hb2.block wr.heap.size oq).trans (g.out));have O:=hid ((hb2.block w.heap.size oq).trans (f.out));obtain⟨⟨am,ap,aq,ar,bc,bd,be,bf⟩,bg⟩:=Qw T.out;obtain⟨⟨au,av,aw,ax⟩,bh⟩:=Yx O.out)|(go_at_call 41;refine(ag.out _ (HA.out.below bq)).mono ?_;rintro e w3 ⟨rfl,hb3⟩;have s3:wr.heap.size<w3.heap.size:=Yy hb3 oq;have t3:w.heap.size<w3.heap.size:=Yy hb3 oq;have ah:=hid ((hb3.block wr.heap.size oq).trans (T.out));have aj:=hid ((hb3.block w.heap.size oq).trans (O.out));obtain⟨⟨bk,bl,bm,bn,bo,bp,br,bs⟩,da⟩:=Qw ah.out;obtain⟨⟨bt,bu,bv,bw⟩,db⟩:=Yx aj.out)|(go_at_call 43;refine(cq.out _ (HA.out.below bq)).mono ?_;rintro e w4 ⟨rfl,hb4⟩;have s4:wr.heap.size<w4.heap.size:=Yy hb4 oq;have t4:w.heap.size<w4.heap.size:=Yy hb4 oq;have bj:=hid ((hb4.block wr.heap.size oq).trans (ah.out));have bi:=hid ((hb4.block w.heap.size oq).trans (aj.out));obtain⟨⟨ca,cb,cc,cd,ce,cg,ch,cj⟩,dy⟩:=Qw bj.out;obtain⟨⟨ck,cl,cm,cp⟩,dz⟩:=Yx bi.out));refine⟨⟨i+1,by go_num,oq,bi.out,bq,Ua (P:=fun x=>szL x.e.args 1 100≤100∧YE x.e=true) HS.out (fun _=>HX.out) ⟨by show szL m 1 100≤100;rw[dr.out];exact cx,hbo⟩⟩,by simp[intOf];omega⟩
  have ef:=UP (P:=fun x=>szL x.e.args 1 100≤100∧YE x.e=true) (l:=A) (fun j hj _=>HS.out j hj oq);have ff:=hid ef;clear HS hbel ef;go_wp2;go_loopw [10] (fun v wr=>Hid (uZ w ⟨z,ins,A,U⟩ an ai af ao cn ci cf co U.length (fun i=>∀j (hj:j<U.length),j<i→inB U[j].dl 1 1000=true) v wr)) (fun i _=>U.length-(intOf i).toNat)
  case atStart=>exact⟨0,rfl,Zk _,M.out,HBEL.out,fun j hj h=>absurd h oq⟩
  clear M HBEL y al x0 x1 x2 x3 xf;obtain⟨i,rfl,hi,R,hbel,hS⟩:=hrel.out;clear hrel
  try simp only at hS
  unfold Qk at R;simp only at R;obtain⟨⟨x0,x1,x2,x3⟩,xf⟩:=Yx R;have M:=hid R;have HBEL:=hid hbel;have y:=Zb R;have al:=hbel.size;have HS:=hid hS;clear R hS;by_cases bz:i<U.length
  ·obtain⟨bb,oo,rfl,V,di⟩:=HO.out.at bz;have eo:=di.later hbel V;have ds:=Zd V al;obtain⟨x,hx⟩:=ez (U[i]);have HX:=hid hx;rw[hx] at eo;obtain⟨nm,fl,dl,fa⟩:=x;obtain⟨y0,y1,y2,y3,ay⟩:=eo;simp only at y0 y1 y2 y3 ay;have dv:(i:Int)<(U.length:Int):=oq;have q:=hid (fun w=>Qh nm w ay.1);have ct:=hid (fun w=>Qh fl w ay.2.1);have Z:=hid (fun w=>XW dl 1 1000 w);clear hbel di hx ay V
   cases hno:XV nm with
   | false =>
    rw[hno] at q;go_wp2_with (first|(go_at_call 38;refine(q.out _).mono ?_;rintro e L ⟨rfl,hb1⟩;have s1:wr.heap.size<L.heap.size:=Yy hb1 oq;have t1:w.heap.size<L.heap.size:=Yy hb1 oq;have g:=hid ((hb1.block wr.heap.size oq).trans (Yw wr _));have f:=hid ((hb1.block w.heap.size oq).trans ((Za _ _ _ y).trans M.out));obtain⟨⟨C,D,E,F⟩,X⟩:=Yx g.out;obtain⟨⟨G,H,I,J⟩,Y⟩:=Yx f.out;clear q));go_ret;exact⟨⟨false,rfl,fun h=>by cases h⟩,bq⟩
   | true =>
    rw[hno] at q
    cases hno2:XV fl with
    | false =>
     rw[hno2] at ct;go_wp2_with (first|(go_at_call 38;refine(q.out _).mono ?_;rintro e L ⟨rfl,hb1⟩;have s1:wr.heap.size<L.heap.size:=Yy hb1 oq;have t1:w.heap.size<L.heap.size:=Yy hb1 oq;have g:=hid ((hb1.block wr.heap.size oq).trans (Yw wr _));have f:=hid ((hb1.block w.heap.size oq).trans ((Za _ _ _ y).trans M.out));obtain⟨⟨C,D,E,F⟩,X⟩:=Yx g.out;obtain⟨⟨G,H,I,J⟩,Y⟩:=Yx f.out;clear q)|(go_at_call 38;refine(ct.out _).mono ?_;rintro e w2 ⟨rfl,hb2⟩;have s2:wr.heap.size<w2.heap.size:=Yy hb2 oq;have t2:w.heap.size<w2.heap.size:=Yy hb2 oq;have T:=hid ((hb2.block wr.heap.size oq).trans (g.out));have O:=hid ((hb2.block w.heap.size oq).trans (f.out));obtain⟨⟨am,ap,aq,ar⟩,bg⟩:=Yx T.out;obtain⟨⟨au,av,aw,ax⟩,bh⟩:=Yx O.out));go_ret;exact⟨⟨false,rfl,fun h=>by cases h⟩,bq⟩
    | true =>
     rw[hno2] at ct
     cases hbu:inB dl 1 1000 with
     | false =>
      rw[hbu] at Z;go_wp2_with (first|(go_at_call 38;refine(q.out _).mono ?_;rintro e L ⟨rfl,hb1⟩;have s1:wr.heap.size<L.heap.size:=Yy hb1 oq;have t1:w.heap.size<L.heap.size:=Yy hb1 oq;have g:=hid ((hb1.block wr.heap.size oq).trans (Yw wr _));have f:=hid ((hb1.block w.heap.size oq).trans ((Za _ _ _ y).trans M.out));obtain⟨⟨C,D,E,F⟩,X⟩:=Yx g.out;obtain⟨⟨G,H,I,J⟩,Y⟩:=Yx f.out;clear q)|(go_at_call 38;refine(ct.out _).mono ?_;rintro e w2 ⟨rfl,hb2⟩;have s2:wr.heap.size<w2.heap.size:=Yy hb2 oq;have t2:w.heap.size<w2.heap.size:=Yy hb2 oq;have T:=hid ((hb2.block wr.heap.size oq).trans (g.out));have O:=hid ((hb2.block w.heap.size oq).trans (f.out));obtain⟨⟨am,ap,aq,ar⟩,bg⟩:=Yx T.out;obtain⟨⟨au,av,aw,ax⟩,bh⟩:=Yx O.out)|(go_at_call 39;with_reducible refine(Z.out _).mono ?_;rintro e w_ ⟨rfl,rfl⟩));go_ret;exact⟨⟨false,rfl,fun h=>by cases h⟩,bq⟩
     | true =>
      rw[hbu] at Z;go_wp2_with (first|(go_at_call 38;refine(q.out _).mono ?_;rintro e L ⟨rfl,hb1⟩;have s1:wr.heap.size<L.heap.size:=Yy hb1 oq;have t1:w.heap.size<L.heap.size:=Yy hb1 oq;have g:=hid ((hb1.block wr.heap.size oq).trans (Yw wr _));have f:=hid ((hb1.block w.heap.size oq).trans ((Za _ _ _ y).trans M.out));obtain⟨⟨C,D,E,F⟩,X⟩:=Yx g.out;obtain⟨⟨G,H,I,J⟩,Y⟩:=Yx f.out;clear q)|(go_at_call 38;refine(ct.out _).mono ?_;rintro e w2 ⟨rfl,hb2⟩;have s2:wr.heap.size<w2.heap.size:=Yy hb2 oq;have t2:w.heap.size<w2.heap.size:=Yy hb2 oq;have T:=hid ((hb2.block wr.heap.size oq).trans (g.out));have O:=hid ((hb2.block w.heap.size oq).trans (f.out));obtain⟨⟨am,ap,aq,ar⟩,bg⟩:=Yx T.out;obtain⟨⟨au,av,aw,ax⟩,bh⟩:=Yx O.out)|(go_at_call 39;with_reducible refine(Z.out _).mono ?_;rintro e w_ ⟨rfl,rfl⟩));refine⟨⟨i+1,by go_num,oq,O.out,bq,Ua (P:=fun x=>inB x.dl 1 1000=true) HS.out (fun _=>HX.out) hbu⟩,by simp[intOf];omega⟩
  have ei:=UP (P:=fun x=>inB x.dl 1 1000=true) (l:=U) (fun j hj _=>HS.out j hj oq);have fi:=hid ei;clear HS hbel ei;go_wp2;go_ret;exact⟨⟨true,rfl,fun _=>⟨fb,fh.out,ff.out,fg.out,fi.out⟩⟩,HBEL.out⟩
 have fk:(40:Int)<(z.length:Int)+(ins.length:Int)+(A.length:Int)+(U.length:Int):=oq;go_enter func17,ntmps17;go_wp2;go_ret;exact⟨⟨false,rfl,fun h=>by cases h⟩,bq⟩
end Go.Proofs.YtgigilkpndhddaaGreatDoor.syn
