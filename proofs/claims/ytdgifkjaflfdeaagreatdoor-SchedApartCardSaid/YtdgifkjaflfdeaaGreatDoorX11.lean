/- Parts of the proof. -/
import Derived.Deep.OwnRows
import Derived.Test.YtdgifkjaflfdeaaGreatDoorX07
import Derived.Test.YtdgifkjaflfdeaaGreatDoorX08
set_option linter.all false
set_option maxRecDepth 100000
set_option maxHeartbeats 16000000
namespace Go.Proofs.YtdgifkjaflfdeaaGreatDoor.syn
open Tryz
open Go.RowKit
variable {i b o r:Nat}{w wr W0:World}{arr:Array Value}{t:TypeId}
def zx:List ND->Nat
 | []=>0
 | n::l=>n.body.args.sz+1+zx l
def zd:List FL->Nat
 | []=>0
 | f::l=>f.e.args.sz+1+zd l
theorem gD{l:List ND}(h:i<l.length):l.drop i=l[i]::l.drop (i+1):=by rw[ZO h]
theorem G8.cells{nm nm1:ByteArray}{ps:List ByteArray}{bud x y j g m:Int}{f:PL}(h:G8 w b o ⟨nm,ps,bud,⟨x,nm1,y,j,f,g⟩,m⟩):∃pa pc ad cap,
  w.cell? ⟨b,o,none⟩=some (.string nm)/\w.cell? ⟨b,o+1,none⟩=some (.slice pa ps.length pc)/\w.cell? ⟨b,o+2,none⟩=some (.int .i64 bud)/\w.cell? ⟨b,o+3,none⟩=some (.int .i64 x)/\w.cell? ⟨b,o+4,none⟩=some (.string nm1) /\
  w.cell? ⟨b,o+5,none⟩=some (.int .i64 y)/\w.cell? ⟨b,o+6,none⟩=some (.int .i64 j)/\w.cell? ⟨b,o+7,none⟩=some (.slice ad f.len cap)/\w.cell? ⟨b,o+8,none⟩=some (.int .i64 g)/\w.cell? ⟨b,o+9,none⟩=some (.int .i64 m) /\
  AE w ⟨x,nm1,y,j,f,g⟩ ad cap/\(ps.length<=pc/\pc<=9223372036854775807/\Row xV 1 w ps pa)/\(nm.size<=9223372036854775807/\I64 bud/\I64 m):=by
 obtain⟨A,⟨pa,pc,C,z,p2,p3⟩,D,⟨ad,cap,E,F,G,H,I,J,q⟩,L,v⟩:=h;exact⟨pa,pc,ad,cap,A,C,D,E,F,G,H,I,J,L,q,⟨z,p2,p3⟩,v⟩
theorem FlC.later{f:FL}(h:FlC w b o f)(hb:Below w.1.size w wr)(hlt:b<w.1.size):FlC wr b o f:=Vs w wr b o f hb hlt h
def Qg(w:World)(b:Nat)(p:PG)(an ai af ao:OA)(cn ci cf co:Nat):Prop:=w.1[b]?=some (.cells #[.slice an p.nodes.length cn,.slice ai p.ins.length ci,.slice af p.flows.length cf,.slice ao p.outs.length co] 27 (0,0))
def Ze6(w:World)(p:PG)(an ai af ao:OA)(cn ci cf co:Nat)(len:Nat)(tot:Nat->Nat)(v:Value)(wr:World):Prop :=
 ∃(i:Nat)(r:Int),v=.int .i64 (i:Int)/\i<=len/\Um wr (w.1.size+1) r/\(tot i:Int)<=r/\r<=8000/\Qg wr w.1.size p an ai af ao cn ci cf co/\Below w.1.size w wr
theorem Jr(p:PG)(an ai af ao:OA)(cn ci cf co:Nat)(hp:AP w p an ai af ao cn ci cf co)(hs:zx p.nodes+zd p.flows<=8000) :
  Calls prog 75 #[pv p an ai af ao cn ci cf co] w fun x w'=>x=.returned (.bool true)/\Below w.1.size w w':=by
 obtain⟨nodes,ins,flows,R⟩:=p;obtain⟨hn,hi,hf,ho,ab⟩:=hp;simp only at hn hi hf ho ab hs;have HN:=hid hn;have HF:=hid hf;have am:nodes.length<=9223372036854775807:=oq;have al:flows.length<=9223372036854775807:=oq;clear hn hi hf ho;unfold pv;simp only;go_enter func75,ntmps75;go_wp2;go_loopw [13] (fun v wr=>Hid (Ze6 w ⟨nodes,ins,flows,R⟩ an ai af ao cn ci cf co nodes.length (fun i=>zx (nodes.drop i)+zd flows) v wr)) (fun i _=>nodes.length-(intOf i).toNat)
 case atStart=>exact⟨0,8000,rfl,Zk _,by simpa [Um] using Yx (w.alloc _) _,by simp only[List.drop_zero];omega,oq,(Z6 _ _ (by simp)).trans (Yx w _),bq⟩
 obtain⟨i,r,rfl,hi,j,y,ak,q,hbel⟩:=hrel.o;clear hrel;simp only at y;unfold Qg at q;simp only at q;obtain⟨⟨x0,x1,x2,x3⟩,xf⟩:=Yy q;have I:=hid q;have z:=hid j;have HBEL:=hid hbel;have F:=Zb j;have E:=Zb q;have H:=hbel.size;clear q j;by_cases L:i<nodes.length
 .obtain⟨bb,oo,rfl,m,G⟩:=HN.o.at L;have Y:=Vk w wr bb _ _ hbel m G;have ah:=Zd m H;rw[gD L] at y;obtain⟨n,hn⟩:=ez (nodes[i]);rw[hn] at Y G y;obtain⟨nm,ps,bud,⟨k1,nm1,n1,d1,g,a1⟩,fa⟩:=n;simp only[zx] at y;obtain⟨pa,pc,ad,cap,y0,y1,y2,y3,y4,y5,y6,y7,y8,y9,U,aj,V⟩:=Y.cells;obtain⟨_,_,ag,aa,_,_,_,_,_,_,_,ae,_,_,C,_,_⟩:=G.cells;have A:=(hbel.cell (p:=⟨bb,oo+i*10+7,none⟩) m).trans ae;rw[y7] at A;injection A with A;injection A with he1 he2 he3
  subst he1;subst he3;have HE:=hid C;have T:=hid (fun w' hb hr=>yv ⟨k1,nm1,n1,d1,g,a1⟩ w w' ad cap (w.1.size+1) r HE.o hb oq hr (by show(g.sz:Int)+1<=r;omega) oq);unfold j9 at T;simp only at T;have X:(i:Int)<(nodes.length:Int):=oq;clear hbel Y G U C ae aj V m;go_wp2_with (go_at_call 132;go_loud (refine(T.o _ bq ((Z6 _ _ F).trans z.o)).mono ?_;rintro x w2 ⟨rfl,M,O⟩));refine⟨⟨i+1,r-(g.sz+1),by go_num,oq,M,by simp only;omega,oq,(O.block _ (by simp;omega) oq).trans ((Z6 _ _ E).trans I.o),(HBEL.o.alloc oq _).trans (O.below (by simp;omega) oq)⟩,by simp[intOf];omega⟩
 have X:i=nodes.length:=oq;subst X;have Z:=hid (show(zd flows:Int)<=r by rw[Yq] at y;simpa [zx] using y);clear hbel y;go_wp2;go_loopw [26] (fun v wr=>Hid (Ze6 w ⟨nodes,ins,flows,R⟩ an ai af ao cn ci cf co flows.length (fun i=>zd (flows.drop i)) v wr)) (fun i _=>flows.length-(intOf i).toNat)
 case atStart=>exact⟨0,r,rfl,Zk _,z.o,by simpa using Z.o,oq,I.o,HBEL.o⟩
 clear z HBEL I Z F E H x0 x1 x2 x3 xf;obtain⟨i,r,rfl,hi,j,y,ak,q,hbel⟩:=hrel.o;clear hrel;simp only at y;unfold Qg at q;simp only at q;obtain⟨⟨x0,x1,x2,x3⟩,xf⟩:=Yy q;have I:=hid q;have z:=hid j;have HBEL:=hid hbel;have F:=Zb j;have E:=Zb q;have H:=hbel.size;clear q j;by_cases L:i<flows.length
 .obtain⟨bb,oo,rfl,m,D⟩:=HF.o.at L;have J:=D.later hbel m;have ah:=Zd m H;rw[yT L] at y;obtain⟨f,hf⟩:=ez (flows[i]);rw[hf] at J D y;obtain⟨nm,⟨k1,nm1,n1,d1,g,a1⟩,fa⟩:=f;simp only[zd] at y;obtain⟨ad,cap,y0,y1,y2,y3,y4,y5,y6,y7,U,V⟩:=J.cells;obtain⟨ag,aa,_,_,_,_,_,ac,_,_,C,_⟩:=D.cells;have A:=(hbel.cell (p:=⟨bb,oo+i*8+5,none⟩) m).trans ac;rw[y5] at A;injection A with A;injection A with he1 he2 he3
  subst he1;subst he3;have HE:=hid C;have T:=hid (fun w' hb hr=>yv ⟨k1,nm1,n1,d1,g,a1⟩ w w' ad cap (w.1.size+1) r HE.o hb oq hr (by show(g.sz:Int)+1<=r;omega) oq);unfold j9 at T;simp only at T;have X:(i:Int)<(flows.length:Int):=oq;clear hbel J D U C ac V m;go_wp2_with (go_at_call 132;go_loud (refine(T.o _ bq ((Z6 _ _ F).trans z.o)).mono ?_;rintro x w2 ⟨rfl,M,O⟩));refine⟨⟨i+1,r-(g.sz+1),by go_num,oq,M,by simp only;omega,oq,(O.block _ (by simp;omega) oq).trans ((Z6 _ _ E).trans I.o),(HBEL.o.alloc oq _).trans (O.below (by simp;omega) oq)⟩,by simp[intOf];omega⟩
 clear hbel;go_wp2;go_ret;exact⟨rfl,HBEL.o⟩
attribute [local go_sem] ZU
def XU:PL->List PE
 | .nil=>[]
 | .cons k nm n d args a tl=>⟨k,nm,n,d,args,a⟩::(XU args++XU tl)
theorem ya:∀l:PL,(XU l).length=l.sz:=by
 intro l
 induction l with
 | nil=>rfl
 | cons k nm n d args a tl ih1 ih2=>simp only[XU,Zp,Zy,ih1,ih2,PL.sz];omega
structure VX (W0:World) where
 e:PE
 ad:OA
 cap:Nat
 ok:AE W0 e ad cap
def VX.vs(x:VX W0):Array Value:=#[.agg #[.int .i64 x.e.k,.string x.e.nm,.int .i64 x.e.n,.int .i64 x.e.d,.slice x.ad x.e.args.len x.cap,.int .i64 x.e.a]]
def kS(n₀:Nat)(J Jx:List (VX W0)->World->Prop)(pre:List (VX W0))(e:PE)(W:World)(x:Ending)(W':World):Prop :=
 (x=.returned (.bool true)/\(∃ys:List (VX W0),ys.map (·.e)=e::XU e.args/\J (pre++ys) W')/\KC n₀ W W') \/
  (x=.returned (.bool false)/\∃q:List (VX W0),q.map (·.e) <+: (e::XU e.args)/\Jx (pre++q) W')
def ZgX(n₀:Nat)(J:List (VX W0)->World->Prop)(pre:List (VX W0))(e:PE)(ad:OA)(W:World)(v:Value)(wr:World):Prop :=
 ∃(i:Nat)(rest:PL)(ys:List (VX W0)),v=.int .i64 (i:Int)/\Qo W0 ad e.args rest i/\ys.map (·.e)++XU rest=e::XU e.args/\J (pre++ys) wr/\KC n₀ W wr
theorem vj(F:Fence)(hd:F.depth=none)(hF:F.fn 132)(bb:F.round=none)(l B N:Nat)(J Jx:List (VX W0)->World->Prop)(hJ:AbidesFrom B J)
  (hY:∀m pre x W,J pre W->pre.length<N->YieldAt F m prog l x.vs W fun e W'=>(e=.returned (.bool true)/\J (pre++[x]) W'/\KC W0.1.size W W')\/(e=.returned (.bool false)/\Jx (pre++[x]) W'))(e:PE)
  (ih:∀e':PE,e'.args.sz<e.args.sz->∀(n:Nat)(A:OA)(cap:Nat)(pre:List (VX W0))(W:World),AE W0 e' A cap->Below W0.1.size W0 W->J pre W->pre.length+e'.args.sz+1<=N ->
   CallsIn F n prog 132 #[.agg #[.int .i64 e'.k,.string e'.nm,.int .i64 e'.n,.int .i64 e'.d,.slice A e'.args.len cap,.int .i64 e'.a],.func (.yield l) #[] #[]] W (kS W0.1.size J Jx pre e' W)) :
  ∀(n:Nat)(A:OA)(cap:Nat)(pre:List (VX W0))(W:World),AE W0 e A cap->Below W0.1.size W0 W->J pre W->pre.length+e.args.sz+1<=N ->
   CallsIn F n prog 132 #[.agg #[.int .i64 e.k,.string e.nm,.int .i64 e.n,.int .i64 e.d,.slice A e.args.len cap,.int .i64 e.a],.func (.yield l) #[] #[]] W (kS W0.1.size J Jx pre e W):=by
 intro n A cap pre W D hb hj hN;obtain⟨k,nm,nn,d,args,a⟩:=e;have ak:=D.len;simp only at ak hN ih ⊢;have ax:∀k:Nat,(F.depth.isSome=true->1<=k):=fun k h=>by rw[hd] at h;cases h
 have am:=hb.size;obtain⟨X,af,ag⟩:∃X:VX W0,X.vs=#[.agg #[.int .i64 k,.string nm,.int .i64 nn,.int .i64 d,.slice A args.len cap,.int .i64 a]]/\X.e=⟨k,nm,nn,d,args,a⟩:=⟨⟨⟨k,nm,nn,d,args,a⟩,A,cap,D⟩,rfl,rfl⟩;obtain⟨fn,bf,assign,body,hy,hR⟩:=hY (n-1) pre X (W.alloc (Obj.cells #[.int .i64 k,.string nm,.int .i64 nn,.int .i64 d,.slice A args.len cap,.int .i64 a] 111)) (JE hJ hj _) oq;rw[af] at hy;have ab:=hid ag;clear af ag;have HA:=hid D;have HB:=hid hb;have an:=hid ih;have HR:=hid hR;clear D hb ih hR hj;refine callsIn_of_wp func132 rfl hF ?_ bb;simp only[ntmps132,ZJ,Zp,Zx,Nat.reduceAdd,Nat.reduceSub,ZG,ZF,ZM,ZK,ZN,ZD];gi_wp2;refine HR.o.mono ?_;rintro e W1 (⟨rfl,ae,V⟩|⟨rfl,au⟩)
 .have L:=V.same W.1.size _ (Yx W _) rfl;obtain⟨⟨x0,x1,x2,x3,x4,x5⟩,xf⟩:=Xl L;have ao:=hid ae;have ap:=hid ((KC.refl W0.1.size W).alloc am _ |>.trans V);clear ae V L;gi_wp2;gi_loopw [14] (fun v wr=>Hid (ZgX W0.1.size J pre ⟨k,nm,nn,d,args,a⟩ A W v wr)) (fun i _=>args.len-(intOf i).toNat)
  case atStart=>exact⟨0,args,[X],rfl,Qo.start HA.o.args,by simp only[List.map_cons,List.map_nil,List.singleton_append,ab.o],ao.o,ap.o⟩
  obtain⟨i,rest,ys,rfl,f,g,aj,Y⟩:=hrel.o;clear hrel;simp only at g;have aa:=hid Y;have Z:=hid aj;have U:=f.1;simp only at U;have E:Below W0.1.size W0 wr:=HB.o.trans Y.below;have j:=hid f;have aq:=hid (f.below E);have HBW:=hid E;have O:=E.size;clear Y aj f E
  cases rest with
  | nil =>
   have ai:(i:Int)=(args.len:Int):=by simp only[PL.len] at U;omega
   simp only[XU,List.append_nil] at g;have C:=hid g;clear g;gi_wp2;go_ret;exact .inl ⟨rfl,⟨ys,C.o,Z.o⟩,aa.o⟩
  | cons k1 nm1 n1 d1 args1 a1 tl =>
   have ai:(i:Int)<(args.len:Int):=by simp only[PL.len] at U;omega
   have H:=j.o.2.2.resolve_left (by intro h;cases h);obtain⟨b,o,rfl,hb,h0,h1,h2,h3,h5,hn,⟨R,y,h4,av,be,aw⟩,ht⟩:=aq.o.2.2.resolve_left (by intro h;cases h);obtain⟨b',o',T,ah,g0,g1,g2,g3,g5,gn,⟨bd,ar,g4,z,I,ac⟩,gt⟩:=H;injection T with T;injection T with hbo1 hbo2;subst hbo1;subst hbo2
   have al:=j.o.2.1;simp only[PL.sz] at al;have M:=Z4 List.length g;simp only[Zy,Zo,ya,Zp,PL.sz] at M;have G:=(HBW.o.cell (p:=⟨b,o+i*6+4,none⟩) ah).trans g4;rw[h4] at G;injection G with G;injection G with he1 he2 he3
   subst he1;subst he3;have HE:=hid (show AE W0 ⟨k1,nm1,n1,d1,args1,a1⟩ R y from ⟨gn,⟨z,I⟩,ac⟩);have HC:=hid (an.o ⟨k1,nm1,n1,d1,args1,a1⟩ (by show args1.sz<args.sz;omega) (n-1) R y (pre++ys) (wr.alloc (Obj.cells #[.int .i64 k1,.string nm1,.int .i64 n1,.int .i64 d1,.slice R args1.len y,.int .i64 a1] 111)) HE.o (HBW.o.alloc O _) (JE hJ Z.o _) (by simp only[Zy];omega));simp only at HC;have C:=hid g;clear hn aw ht g0 g1 g2 g3 g5 gn g4 ac gt z I ah g M;gi_wp2_with ((try refine⟨ax _,?_⟩);gi_at_call 132;refine HC.o.mono ?_;rintro x w2 (⟨rfl,⟨zs,bc,ay⟩,ba⟩|⟨rfl,q,hq,az⟩))
   .go_roundw
    case rel=>exact⟨i+1,tl,ys++zs,by go_num,j.o.tail,by rw[ZV,bc,<-C.o,XU];simp,by rw[<-List.append_assoc];exact ay,(aa.o.alloc O _).trans ba⟩
    simp[intOf];omega
   go_ret;refine .inr ⟨rfl,ys++q,?_,by rw[<-List.append_assoc];exact az⟩;obtain⟨r,hr⟩:=hq;refine⟨r++XU tl,?_⟩;rw[ZV,<-C.o,XU,<-ZD,<-hr];simp
 gi_wp2;go_ret;exact .inr ⟨rfl,[X],⟨XU args,by simp only[List.map_cons,List.map_nil,List.singleton_append,ab.o]⟩,au⟩
attribute [local go_sem] ZU
theorem kB(F:Fence)(hd:F.depth=none)(q:F.fn 132)(j:F.round=none)(l B N:Nat)(J g:List (VX W0)->World->Prop)(v:AbidesFrom B J)
  (y:∀m pre x W,J pre W->pre.length<N->YieldAt F m prog l x.vs W fun e W'=>(e=.returned (.bool true)/\J (pre++[x]) W'/\KC W0.1.size W W')\/(e=.returned (.bool false)/\g (pre++[x]) W')) :
  ∀(e:PE)(n:Nat)(f:OA)(cap:Nat)(pre:List (VX W0))(W:World),AE W0 e f cap->Below W0.1.size W0 W->J pre W->pre.length+e.args.sz+1<=N ->
   CallsIn F n prog 132 #[.agg #[.int .i64 e.k,.string e.nm,.int .i64 e.n,.int .i64 e.d,.slice f e.args.len cap,.int .i64 e.a],.func (.yield l) #[] #[]] W (kS W0.1.size J g pre e W):=by
 intro e
 suffices h:∀(M:Nat)(e:PE),e.args.sz<M->∀(n:Nat)(f:OA)(cap:Nat)(pre:List (VX W0))(W:World),AE W0 e f cap->Below W0.1.size W0 W->J pre W->pre.length+e.args.sz+1<=N ->
   CallsIn F n prog 132 #[.agg #[.int .i64 e.k,.string e.nm,.int .i64 e.n,.int .i64 e.d,.slice f e.args.len cap,.int .i64 e.a],.func (.yield l) #[] #[]] W (kS W0.1.size J g pre e W) from h _ e (ZX _)
 intro M
 induction M with
 | zero=>intro e h;omega
 | succ M ih=>intro e h;exact vj F hd q j l B N J g v y e (fun e' h'=>ih e' oq)
def XO:List FL->List PE
 | []=>[]
 | f::l=>f.e::(XU f.e.args++XO l)
def ZgZ(J:List (VX W0)->World->Prop)(flows:List FL)(W:World)(v:Value)(wr:World):Prop :=
 ∃(i:Nat)(ys:List (VX W0)),v=.int .i64 (i:Int)/\i<=flows.length/\ys.map (·.e)++XO (flows.drop i)=XO flows/\J ys wr/\KC W0.1.size W wr
theorem kG(F:Fence)(hd:F.depth=none)(hG:F.fn 190)(hF:F.fn 132)(T:F.round=none)(n l B Bs:Nat)(g:List FL)(af:OA)(cf:Nat)
  (Y:Row FlC 8 W0 g af)(ac:g.length<=cf)(ae:cf<=9223372036854775807)(J Jx:List (VX W0)->World->Prop)(hJ:AbidesFrom B J)
  (hY:∀m pre x W,J pre W->pre.length<(XO g).length->YieldAt F m prog l x.vs W fun e W'=>(e=.returned (.bool true)/\J (pre++[x]) W'/\KC W0.1.size W W')\/(e=.returned (.bool false)/\Jx (pre++[x]) W'))
  (W:World)(hB:Below W0.1.size W0 W)(ar:W.cell? ⟨Bs,0,none⟩=some (.slice af g.length cf))(h0:J [] W) :
  CallsIn F n prog 190 #[.func (.yield l) #[] #[],.pointer (some ⟨Bs,0,none⟩)] W fun e W'=>(∃v,e=.returned v) /\
   ((∃xs:List (VX W0),xs.map (·.e)=XO g/\J xs W')\/(∃pre:List (VX W0),pre.map (·.e) <+: XO g/\Jx pre W')):=by
 have ag:∀k:Nat,(F.depth.isSome=true->1<=k):=fun k h=>by rw[hd] at h;cases h
 have ah:g.length<=9223372036854775807:=Zm ac ae;have HV:=hid (kB F hd hF T l B (XO g).length J Jx hJ hY);have HR:=hid Y;have HB:=hid hB;have Z:=hid h0;have ao:=hB.size;clear Y hY hB h0;refine callsIn_of_wp func190 rfl hG ?_ T;simp only[ntmps190,ZJ,Zp,Zx,Nat.reduceAdd,Nat.reduceSub,ZG,ZF,ZM,ZK,ZN,ZD];gi_wp2;gi_loopw [7] (fun v wr=>Hid (ZgZ J g W v wr)) (fun i _=>g.length-(intOf i).toNat)
 case atStart=>exact⟨0,[],rfl,Zk _,rfl,Z.o,KC.refl _ _⟩
 obtain⟨i,M,rfl,hi,j,V,X⟩:=hrel.o;clear hrel;have z:Below W0.1.size W0 wr:=HB.o.trans X.below;have HBW:=hid z;have HK:=hid X;have aa:=hid V;have E:=z.size;by_cases R:i<g.length
 .obtain⟨bb,oo,rfl,A,C⟩:=HR.o.at R;have D:=C.later z A;have aq:=Zd A E;rw[yT R] at j;obtain⟨f,hf⟩:=ez (g[i]);rw[hf] at D C j;obtain⟨nm,⟨k1,nm1,n1,d1,y,a1⟩,fa⟩:=f;obtain⟨ad,cap,y0,y1,y2,y3,y4,y5,y6,y7,ab,ai⟩:=D.cells;obtain⟨ap,an,_,_,_,_,_,U,_,_,I,_⟩:=C.cells;have H:=(z.cell (p:=⟨bb,oo+i*8+5,none⟩) A).trans U;rw[y5] at H;injection H with H;injection H with he1 he2 he3
  subst he1;subst he3;have L:=Z4 List.length j;simp only[Zy,Zo,XO,Zp,ya] at L;have HC:=hid (HV.o ⟨k1,nm1,n1,d1,y,a1⟩ (n-1) ad cap M (wr.alloc (Obj.cells #[.string nm,.int .i64 k1,.string nm1,.int .i64 n1,.int .i64 d1,.slice ad y.len cap,.int .i64 a1,.int .i64 fa] 155)) I (z.alloc E _) (JE hJ V _) (by show M.length+y.sz+1<=_;omega));simp only at HC;have O:(i:Int)<(g.length:Int):=oq;have G:=hid j;clear z X V D C ab I U ai A j L;gi_wp2_with ((try refine⟨ag _,?_⟩);gi_at_call 132;refine HC.o.mono ?_;rintro x w2 (⟨rfl,⟨zs,am,aj⟩,al⟩|⟨rfl,q,hq,ak⟩))
  .go_roundw
   case rel=>exact⟨i+1,M++zs,by go_num,oq,by rw[ZV,am,<-G.o,XO];simp,aj,(HK.o.alloc E _).trans al⟩
   simp[intOf];omega
  refine Zl (results_none rfl _ _ _) rfl ?_;refine⟨⟨_,rfl⟩,.inr ⟨M++q,?_,ak⟩⟩;obtain⟨r,Y⟩:=hq;refine⟨r++XO (g.drop (i+1)),?_⟩;rw[ZV,<-G.o,XO,<-ZD,<-Y];simp
 have O:i=g.length:=oq;subst O;have G:=hid (show M.map (·.e)=XO g by rw[Yq] at j;simpa [XO] using j);clear z X V j;gi_wp2;go_end0;exact⟨⟨_,rfl⟩,.inl ⟨M,G.o,aa.o⟩⟩
theorem Kg(F:Fence)(hd:F.depth=none)(hG:F.fn 190)(hF:F.fn 132)(hro:F.round=none)(n Bs:Nat)(flows:List FL)(af:OA)(cf:Nat)
  (hr:Row FlC 8 W0 flows af)(hc1:flows.length<=cf)(hc2:cf<=9223372036854775807)(w:World)(hBs:Bs<w.1.size)(hB:Below W0.1.size W0 w)(hbx:w.cell? ⟨Bs,0,none⟩=some (.slice af flows.length cf)) :
  SeqStopsK F n prog 190 #[.pointer (some ⟨Bs,0,none⟩)] (fun x:VX W0=>x.vs) (KC W0.1.size) (fun xs=>xs.map (·.e)=XO flows) (fun pre=>pre.map (·.e) <+: XO flows) (XO flows).length w:=fun l J Jx W hW hJ hJx hY h0 =>
 kG F hd hG hF hro n l W.1.size Bs flows af cf hr hc1 hc2 J Jx hJ (fun m pre x W hj hl=>YieldAt.deep hd m (hY pre x W hj hl)) W (hB.trans (hW.mono hB.size)) ((hW.cell (p:=⟨Bs,0,none⟩) hBs).trans hbx) h0
theorem Qn(f:OA)(n c:Nat):Calls prog 134 #[.slice f n c] w fun e w'=>e=.returned (.func (.func 190) #[] #[.pointer (some ⟨w.1.size,0,none⟩)])/\w'=w.alloc (.cells #[.slice f n c] 24):=by
 go_enter func134,ntmps134;go_wp2;go_ret;exact⟨rfl,rfl⟩
open Go.RowKit Go.Shelf
attribute [local go_sem] ZU
def okE(env:Env)(e:PE):Bool:=decide (e.k≠2)||ckA env e.args
def XY(env:Env)(flows:List FL):Bool:=(XO flows).all (okE env)
theorem yD(f:List FL)(E:OA)(C mb:Nat)(L:List (ByteArray × Value))(env:Env)(hr:Row FlC 8 w f E)(al:f.length<=C)(am:C<=9223372036854775807)
  (hM:YT w mb L)(hE:XW L env) :
  Calls prog 78 #[.map (some mb),.slice E f.length C] w fun x w'=>yx (XY env f) x/\Below w.1.size w w':=by
 have HR:=hid hr;have HM:=hid hM;clear hr hM;have ai:=hid (fun w=>Qn (w:=w) E f.length C);refine(Zu (n:=6)).1 ?_;refine callsIn_of_wp_marks func78 rfl trivial ?_ rfl;simp only[ntmps78,ZJ,Zp,Zx,Nat.reduceAdd,Nat.reduceSub,ZG,ZF,ZM,ZK,ZN,ZD];gi_wp2_with (refine⟨trivial,?_⟩;gi_at_call 134;refine(Zu.2 (ai.o _)).mono ?_;rintro e w' ⟨rfl,rfl⟩);have bM:=(((Boxed.new w 162 (.map (some mb))).alloc (.cells #[.int .i64 0] 3)).alloc (.cells #[.int .i64 0] 38)).alloc (.cells #[.slice E f.length C] 24);have bA:=((Boxed.new (w.alloc (.cells #[.map (some mb)] 162)) 3 (.int .i64 0)).alloc (.cells #[.int .i64 0] 38)).alloc (.cells #[.slice E f.length C] 24);have bE:=(Boxed.new ((w.alloc (.cells #[.map (some mb)] 162)).alloc (.cells #[.int .i64 0] 3)) 38 (.int .i64 0)).alloc (.cells #[.slice E f.length C] 24);have bS:=Boxed.new (((w.alloc (.cells #[.map (some mb)] 162)).alloc (.cells #[.int .i64 0] 3)).alloc (.cells #[.int .i64 0] 38)) 24 (.slice E f.length C);simp only[Zv] at bA bE bS;have R:Below w.1.size w ((((w.alloc (.cells #[.map (some mb)] 162)).alloc (.cells #[.int .i64 0] 3)).alloc (.cells #[.int .i64 0] 38)).alloc (.cells #[.slice E f.length C] 24)):=bq;have ao:((((w.alloc (.cells #[.map (some mb)] 162)).alloc (.cells #[.int .i64 0] 3)).alloc (.cells #[.int .i64 0] 38)).alloc (.cells #[.slice E f.length C] 24)).1.size=w.1.size+4:=by simp
 obtain⟨W0,ac⟩:=ez ((((w.alloc (.cells #[.map (some mb)] 162)).alloc (.cells #[.int .i64 0] 3)).alloc (.cells #[.int .i64 0] 38)).alloc (.cells #[.slice E f.length C] 24))
 try simp only[Zv]
 rw[ac] at bM bA bE bS R ao ⊢;clear ac;have I:w.1.size<=W0.1.size:=oq;refine wpIn_rangeFunc_ownH (encs:=fun x:VX w=>#[.agg #[.int .i64 x.e.k,.string x.e.nm,.int .i64 x.e.n,.int .i64 x.e.d,.slice x.ad x.e.args.len x.cap,.int .i64 x.e.a]]) rfl oq (gf:=190) (lb:=#[.pointer (some ⟨w.1.size+1+1+1,0,none⟩)]) rfl trivial (enters_of func190 kq rfl)
  (Kg (W0:=w) Fence.wide rfl trivial trivial rfl _ (w.1.size+1+1+1) f E C HR.o al am W0 oq R bS.cell) (fun h k=>h.trans k) (fun W l o o' hl h hc _=>KC.putObj W l o o' oq h hc) (Zg _ _) (fun _=>rfl)
  (fun pre W=>((Boxed W w.1.size 162 (.map (some mb))/\Boxed W (w.1.size+1) 3 (.int .i64 0))/\Boxed W (w.1.size+1+1) 38 (.int .i64 0))/\Below w.1.size w W/\(pre.map (·.e)).all (okE env)=true)
  (fun c pre W=>∃a H,((Boxed W (w.1.size+1) 3 (.int .i64 a)/\Boxed W (w.1.size+1+1) 38 (.int .i64 H))/\Below w.1.size w W)/\(c=.ret/\H≠0/\(pre.map (·.e)).all (okE env)=false))
  (OwnFrom.and (OwnFrom.and (OwnFrom.and (Own.from (boxed_own _ _ _) _) (Own.from (boxed_own _ _ _) _)) (Own.from (boxed_own _ _ _) _)) (OwnFrom.and (ownFrom_below (Zc _) I) (ownFrom_pure _ _)))
  (fun c s X Y row hs hg hrw=>by
   obtain⟨a,H,⟨⟨O,Z⟩,h3⟩,h4⟩:=hs;exact⟨a,H,⟨⟨boxed_own _ _ (fun(_:Unit)=>Value.int .i64 a) () X Y row O hg (fun r e=>(hrw r e).2),boxed_own _ _ (fun(_:Unit)=>Value.int .i64 H) () X Y row Z hg (fun r e=>(hrw r e).2)⟩,ownFrom_below (β:=Unit) (Zc _) I () X Y row h3 hg hrw⟩,h4⟩)
  ⟨⟨⟨bM,bA⟩,bE⟩,R,rfl⟩
  (fun x a' W=>∃Bx,w.1.size+1+1<Bx/\W.1[Bx]?=some (.cells #[.int .i64 x.e.k,.string x.e.nm,.int .i64 x.e.n,.int .i64 x.e.d,.slice x.ad x.e.args.len x.cap,.int .i64 x.e.a] 111 (0,0)) /\
   a'={ tmps:=#[.map (some mb),.slice E f.length C,.pointer (some ⟨w.1.size,0,none⟩),undef,.pointer (some ⟨w.1.size+1,0,none⟩),.pointer (some ⟨w.1.size+1+1,0,none⟩),.pointer (some ⟨Bx,0,none⟩),undef,undef,.slice E f.length C,
    .func (.func 190) #[] #[.pointer (some ⟨w.1.size+1+1+1,0,none⟩)],.agg #[.int .i64 x.e.k,.string x.e.nm,.int .i64 x.e.n,.int .i64 x.e.d,.slice x.ad x.e.args.len x.cap,.int .i64 x.e.a],undef,undef,undef,undef,undef,undef,undef,undef,undef,undef,undef,undef,undef],defers:=[] })
  (fun x a' _ X Y row hs hg hrw=>by
   obtain⟨Bx,O,Z,h3⟩:=hs;refine⟨Bx,O,(hg.block Bx (Zq.1 Z).1 (fun e=>?_)).trans Z,h3⟩;obtain⟨_,o,ho,hc⟩:=hrw Bx e.symm;rw[Z] at ho;cases ho;cases hc)
  ?assign ?body ?done ?stop
 case assign =>
  rintro l pre x W K ⟨⟨⟨z,j⟩,g⟩,m,q⟩ hK;gi_wp2;exact hK _ _ ((KeepsOthers.alloc _ _).from _) ((KC.refl _ W).alloc m.size _) ⟨⟨⟨z.alloc _,j.alloc _⟩,g.alloc _⟩,m.alloc m.size _,q⟩ ⟨W.1.size,g.lt,Yx W _,rfl⟩
 case body =>
  rintro l pre ⟨⟨k1,nm1,n1,d1,v,a1⟩,F,A,G⟩ a' W hl ⟨r,hr⟩ ⟨⟨⟨z,j⟩,g⟩,m,q⟩ ⟨Bx,au,ah,rfl⟩ av;simp only at ah;have cM:=z.cell;obtain⟨⟨x0,x1,x2,x3,x4,x5⟩,xf⟩:=Xl ah;have U:=m.size;by_cases T:k1=2
  .subst T;have V:=hid (qb (w:=W) ⟨2,nm1,n1,d1,v,a1⟩ F A mb L env (G.below m) (HM.o.below m) hE);simp only at V
   cases hck:ckA env v with
   | true =>
    rw[hck] at V;have y:((pre++[(⟨⟨2,nm1,n1,d1,v,a1⟩,F,A,G⟩:VX w)]).map (·.e)).all (okE env)=true:=by
     rw[ZV,List.all_append,q];simp[okE,hck]
    gi_wp2_with (refine⟨trivial,?_⟩;gi_at_call 135;refine(CallsIn.inRound l (Zu.2 V.o)).mono ?_;rintro e w2 ⟨he,hb2⟩;obtain rfl:e=.returned (.tuple #[.int .i64 0,.int .i64 0]):=he);exact⟨⟨hb2.size,fun k o _ hk _=>(hb2.block k (Zb hk)).trans hk⟩,(KC.refl _ W).of_below hb2 U,⟨⟨⟨(hb2.block _ z.lt).trans z,(hb2.block _ j.lt).trans j⟩,(hb2.block _ g.lt).trans g⟩,m.trans (hb2.mono U),y⟩⟩
   | false =>
    rw[hck] at V;have y:((pre++[(⟨⟨2,nm1,n1,d1,v,a1⟩,F,A,G⟩:VX w)]).map (·.e)).all (okE env)=false:=by
     rw[ZV,List.all_append];simp[okE,hck]
    gi_wp2_with (refine⟨trivial,?_⟩;gi_at_call 135;refine(CallsIn.inRound l (Zu.2 V.o)).mono ?_;rintro e w2 ⟨⟨ab,eb,ae,rfl⟩,hb2⟩;have aq:(eb == 0)=false:=ZZ.2 ae;have J:Boxed w2 (w.1.size+1) 3 (.int .i64 0):=(hb2.block _ j.lt).trans j;have M:Boxed w2 (w.1.size+1+1) 38 (.int .i64 0):=(hb2.block _ g.lt).trans g;have cA:=J.cell;have fA:=J.frozen;have cE:=M.cell;have fE:=M.frozen);exact⟨(show KeepsFrom W0.1.size W w2 from ⟨hb2.size,fun k o _ hk _=>(hb2.block k (Zb hk)).trans hk⟩).trans (((KeepsOthers.setCell _ _ _).trans (KeepsOthers.setCell _ _ _)).from _),ab,eb,⟨⟨(J.set _).other oq _,(M.other oq _).set _⟩,((m.trans (hb2.mono U)).setCell (p:=⟨w.1.size+1,0,none⟩) (by simp) _).setCell (p:=⟨w.1.size+1+1,0,none⟩) (by simp;omega) _⟩,rfl,ae,y⟩
  have ar:(k1 == 2)=false:=ZZ.2 T;have y:((pre++[(⟨⟨k1,nm1,n1,d1,v,a1⟩,F,A,G⟩:VX w)]).map (·.e)).all (okE env)=true:=by
   rw[ZV,List.all_append,q];simp[okE,T]
  gi_wp2;exact⟨KeepsFrom.refl _ _,KC.refl _ _,⟨⟨⟨z,j⟩,g⟩,m,y⟩⟩
 case done =>
  rintro D zs W hD ap ⟨⟨⟨z,j⟩,g⟩,m,q⟩ hK;have O:XY env f=true:=by unfold XY;rw[<-ap];exact q
  have cA:=j.cell;have fA:=j.frozen;have cE:=g.cell;have fE:=g.frozen;gi_wp2;have aa:((W.setCell ⟨w.1.size+1,0,none⟩ (.int .i64 0)).setCell ⟨w.1.size+1+1,0,none⟩ (.int .i64 0)).1[D]?=some (.deferred (some [])):=((KeepsOthers.setCell _ _ _).trans (KeepsOthers.setCell _ _ _)).same D _ hK rfl;refine⟨by simp,.inl ⟨_,_,rfl,run_takeDeferred aa,?_⟩⟩;have aj:=(((j.set (.int .i64 0)).other (show w.1.size+1≠w.1.size+1+1 by omega) (.int .i64 0)).kept (grownBy_putObj' _ D (.deferred none)) (by intro e;injection e with e;omega)).cell;have ak:=(((g.other (show w.1.size+1+1≠w.1.size+1 by omega) (.int .i64 0)).set (.int .i64 0)).kept (grownBy_putObj' _ D (.deferred none)) (by intro e;injection e with e;omega)).cell;refine⟨.tuple #[.int .i64 0,.int .i64 0],?_,?_,?_⟩
  .simp only[results,results78];go_simp
  .unfold yx;rw[Z3 O];rfl
  exact((m.setCell (p:=⟨w.1.size+1,0,none⟩) (by simp) _).setCell (p:=⟨w.1.size+1+1,0,none⟩) (by simp;omega) _).trans (KC.putObj (n₀:=w.1.size) _ D _ _ oq aa rfl).below
 rintro D c pre W hD ag ⟨a,H,⟨⟨j,g⟩,m⟩,rfl,an,q⟩ hK;have O:XY env f=false:=by
  unfold XY;obtain⟨t,ht⟩:=ag;rw[<-ht,List.all_append,q];rfl
 have cA:=j.cell;have fA:=j.frozen;have cE:=g.cell;have fE:=g.frozen;gi_wp2;refine⟨by simp,.inl ⟨_,_,rfl,run_takeDeferred hK,?_⟩⟩;have aj:=(j.kept (grownBy_putObj' _ D (.deferred none)) (by intro e;injection e with e;omega)).cell;have ak:=(g.kept (grownBy_putObj' _ D (.deferred none)) (by intro e;injection e with e;omega)).cell;refine⟨.tuple #[.int .i64 a,.int .i64 H],?_,?_,?_⟩
 .simp only[results,results78];go_simp
 .unfold yx;rw[Z2 (by rw[O];decide)];exact⟨a,H,an,rfl⟩
 exact m.trans (KC.putObj (n₀:=w.1.size) _ D _ _ oq hK rfl).below
def J5:List IN->Env->Env
 | [],e=>e
 | x::l,e=>J5 l (upd e x.nm (x.per,x.ph))
def Xb(ins:List IN):Env:=J5 ins (fun _=>none)
def Jo(env:Env)(nm:ByteArray):Int × Int:=(env nm).getD (0,0)
def Zfs(w:World)(v:Value)(l:List (Int × Int)):Prop :=
 ∃b,v=.slice (some ⟨b,0,none⟩) l.length l.length/\b<w.1.size/\∀i (h:i<l.length),w.cell? ⟨b,i*2,none⟩=some (.int .i64 l[i].1)/\w.cell? ⟨b,i*2+1,none⟩=some (.int .i64 l[i].2)
theorem gC{l:List IN}(h:i<l.length):l.drop i=l[i]::l.drop (i+1):=by rw[ZO h]
theorem qd(h:w.1[r]?=some (.cells arr t (0,0)))(o:Nat)(u:Value) :
  (w.setCell ⟨r,o,none⟩ u).1[r]?=some (.cells (arr.setIfInBounds o u) t (0,0)):=by
 have f:=Zb h;have g:w.1[r]=.cells arr t (0,0):=by simpa [Yo f] using h
 show(w.1.modify r _)[r]?=_;rw[Yo (by simpa using f),Array.getElem_modify_self,g];rfl
theorem zJ(h:w.1[r]?=some (.cells arr t (0,0)))(o:Nat):w.cell? ⟨r,o,none⟩=arr[o]?/\w.frozen? ⟨r,o,none⟩=false:=by
 constructor
 .simp[World.cell?,h]
 simp[World.frozen?,h]
structure CW (w W wr:World) (mb:Nat):Prop where
 upon:Upon mb W wr
 size:w.1.size<W.1.size
 below:Below w.1.size w W
 mb:w.1.size<mb
theorem CW.low{w W wr:World}{mb:Nat}(h:CW w W wr mb):Below w.1.size w wr:=h.below.trans (h.upon.below (Nat.le_of_lt h.size) (Nat.le_of_lt h.mb))
def ZgI(w W:World)(mb:Nat)(ins:List IN)(v:Value)(wr:World):Prop :=
 ∃(i:Nat)(env:Env)(L:List (ByteArray × Value)),v=.int .i64 (i:Int)/\i<=ins.length/\CW w W wr mb/\YT wr mb L/\XW L env/\J5 (ins.drop i) env=Xb ins
def ZgJ(w W:World)(mb b:Nat)(env:Env)(L:List (ByteArray × Value))(flows:List FL)(v:Value)(wr:World):Prop :=
 ∃(i:Nat)(arr:Array Value),v=.int .i64 (i:Int)/\i<=flows.length/\Upon b W wr/\wr.1[b]?=some (.cells arr 50 (0,0))/\arr.size=flows.length*2 /\
  ∀j (h:j<flows.length),j<i->arr[j*2]?=some (.int .i64 (Jo env flows[j].nm).1)/\arr[j*2+1]?=some (.int .i64 (Jo env flows[j].nm).2)
theorem InC.later{f:IN}(h:InC w b o f)(hb:Below w.1.size w wr)(hlt:b<w.1.size):InC wr b o f:=EB w wr b o f hb hlt h
theorem ZbY:XW [] (fun _=>none):=fun nm=>rfl
theorem Zaa:(prog.info? 50).map (fun i=>(i.zero,i.size,i.bytes))=some (some (.agg #[.int .i64 0,.int .i64 0]),2,16):=by kernel_rfl
theorem qO(n:Nat)(v:n<=1000)(w:World):(Instr.makeSlice 31 (.int .i64 (n:Int)) (.int .i64 (n:Int))).run prog w=.ok (.slice (some ⟨w.1.size,0,none⟩) n n) (w.alloc (.cells (madeCells #[.int .i64 0,.int .i64 0] (n*2)) 50)):=by
 obtain⟨i,hi,f⟩:=Option.map_eq_some_iff.1 Zaa;simp only[Z5] at f;obtain⟨q,m,hb⟩:=f;have g:=run_make (P:=prog) w 31 50 i _ underlying31 hi q .i64 .i64 n n oq (Int.le_refl _) (by rw[hb];omega) oq;have j:(Value.agg #[.int .i64 0,.int .i64 0]).cells=#[.int .i64 0,.int .i64 0]:=by first|rfl|simp[Value.cells]
 rw[j,m] at g;simpa using g
theorem Zbi(w:World){g:Array Oper}{rest:List Oper}{o:Oper}{a:Act}{Q:Exit->Act->World->Prop}(q:o.guard=none)(l c:Operand)(j:o.op=Op.makeSlice 31 l c)
  (n:Nat)(v:a.eval l=.int .i64 (n:Int))(m:a.eval c=.int .i64 (n:Int))(x:n<=1000)
  (hK:wpList prog g Q rest (a.put o.dst (.slice (some ⟨w.1.size,0,none⟩) n n)) (w.alloc (.cells (madeCells #[.int .i64 0,.int .i64 0] (n*2)) 50))):wpList prog g Q (o::rest) a w:=by
 refine wpList_plain q fun K hK'=>?_
 have f:=qO n x w;unfold Oper.wp;simp[execOp,j,v,m,f,Result.andThen];exact hK' _ _ hK
theorem Zaw(n:Nat):(madeCells #[.int .i64 0,.int .i64 0] (n*2)).size=n*2:=size_madeCells _ _
