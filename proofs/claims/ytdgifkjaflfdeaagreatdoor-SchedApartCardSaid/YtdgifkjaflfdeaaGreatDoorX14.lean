/- Parts of the proof. -/
import Derived.Test.YtdgifkjaflfdeaaGreatDoorX11
set_option linter.all false
set_option maxRecDepth 100000
set_option maxHeartbeats 16000000
namespace Go.Proofs.YtdgifkjaflfdeaaGreatDoor.syn
open Tryz
open Go.RowKit
variable {w:World}
def XS{α:Type}(f:α->ByteArray)(nm:ByteArray):List α->Nat->Option Nat
 | [],_=>none
 | x::l,i=>if f x=nm then some i else XS f nm l (i+1)
theorem QL{α:Type}(f:α->ByteArray)(nm:ByteArray):∀(l:List α)(i k:Nat),XS f nm l i=some k->∃j,k=i+j/\∃x,l[j]?=some x/\f x=nm:=by
 intro l
 induction l with
 | nil=>intro i k h;cases h
 | cons x l ih =>
  intro i k h;unfold XS at h;by_cases g:f x=nm
  .rw[Z3 g] at h;injection h with h;exact⟨0,oq,x,rfl,g⟩
  rw[Z2 g] at h;obtain⟨j,v,y,m,q⟩:=ih (i+1) k h;exact⟨j+1,oq,y,by simpa using m,q⟩
def YS(p:PG)(nm:ByteArray):Int:=match XS IN.nm nm p.ins 0 with
 | some i=>(i:Int)
 | none=>match XS FL.nm nm p.flows 0 with
  | some i=>(p.ins.length:Int)+(i:Int)
  | none=>-1
def Qm(p:PG)(nm:ByteArray):Int:=match XS ND.nm nm p.nodes 0 with
 | some i=>(i:Int)
 | none=>-1
def Zbn(w:World)(p:PG)(an ai af ao:OA)(cn ci cf co:Nat)(len:Nat)(S:Nat->Prop)(v:Value)(wr:World):Prop :=
 ∃i:Nat,v=.int .i64 (i:Int)/\i<=len/\Qg wr w.1.size p an ai af ao cn ci cf co/\Below w.1.size w wr/\S i
theorem UW(p:PG)(an R O T:OA)(X V U Y:Nat)(nm:ByteArray)(hp:AP w p an R O T X V U Y)(h1:p.ins.length<=1000)(h2:p.flows.length<=1000) :
  Calls prog 73 #[pv p an R O T X V U Y,.string nm] w fun x w'=>x=.returned (.int .i64 (YS p nm))/\Below w.1.size w w':=by
 obtain⟨m,ins,flows,E⟩:=p;have HI:=hid hp.ins;have HF:=hid hp.flows;clear hp;simp only at h1 h2;unfold pv;simp only;obtain⟨r,hr⟩:=ez (YS ⟨m,ins,flows,E⟩ nm);rw[hr];have Z:=hid hr;clear hr;go_enter func73,ntmps73;go_wp2;go_loopw [5] (fun v wr=>Hid (Zbn w ⟨m,ins,flows,E⟩ an R O T X V U Y ins.length (fun i=>XS IN.nm nm (ins.drop i) i=XS IN.nm nm ins 0) v wr)) (fun i _=>ins.length-(intOf i).toNat)
 case atStart=>exact⟨0,rfl,Zk _,Yx w _,bq,rfl⟩
 obtain⟨i,rfl,hi,g,hbel,f⟩:=hrel.o;clear hrel
 try simp only at f
 unfold Qg at g;simp only at g;obtain⟨⟨x0,x1,x2,x3⟩,xf⟩:=Yy g;have z:=hid g;have HBEL:=hid hbel;have q:=hbel.size;by_cases C:i<ins.length
 .obtain⟨bb,oo,rfl,j,G⟩:=HI.o.at C;have ae:=EB w wr bb _ _ hbel j G;have ab:=Zd j q;obtain⟨L,_⟩:=ae;rw[ZO C,XS] at f;obtain⟨x,J⟩:=ez (ins[i]);rw[J] at L f;obtain⟨D,ag,ph,fa⟩:=x;simp only at L f;have I:=Jh D nm;have A:(i:Int)<(ins.length:Int):=oq;clear hbel g G J j;by_cases y:D=nm
  .rw[Z3 y] at f;rw[Z1 y] at I;have H:r=(i:Int):=by rw[<-Z.o];unfold YS;simp only;rw[<-f]
   subst H;clear f y;go_wp2;go_ret;exact⟨rfl,HBEL.o⟩
  rw[Z2 y] at f;rw[Z0 y] at I;have M:=hid f;clear f y;go_wp2;refine⟨⟨i+1,by go_num,oq,z.o,HBEL.o,M.o⟩,by simp[intOf];omega⟩
 have A:i=ins.length:=oq;subst A;have M:=hid (show none=XS IN.nm nm ins 0 by rw[Yq] at f;exact f);clear f hbel g;go_wp2;go_loopw [6] (fun v wr=>Hid (Zbn w ⟨m,ins,flows,E⟩ an R O T X V U Y flows.length (fun i=>XS FL.nm nm (flows.drop i) i=XS FL.nm nm flows 0) v wr)) (fun i _=>flows.length-(intOf i).toNat)
 case atStart=>exact⟨0,rfl,Zk _,z.o,HBEL.o,rfl⟩
 clear z HBEL q x0 x1 x2 x3 xf;obtain⟨i,rfl,hi,g,hbel,f⟩:=hrel.o;clear hrel
 try simp only at f
 unfold Qg at g;simp only at g;obtain⟨⟨x0,x1,x2,x3⟩,xf⟩:=Yy g;have z:=hid g;have HBEL:=hid hbel;have q:=hbel.size;by_cases C:i<flows.length
 .obtain⟨bb,oo,rfl,j,F⟩:=HF.o.at C;have ac:=Vs w wr bb _ _ hbel j F;have ab:=Zd j q;obtain⟨L,_⟩:=ac;rw[ZO C,XS] at f;obtain⟨x,J⟩:=ez (flows[i]);rw[J] at L f;obtain⟨D,ex,fa⟩:=x;simp only at L f;have I:=Jh D nm;have A:(i:Int)<(flows.length:Int):=oq;clear hbel g F J j;by_cases y:D=nm
  .rw[Z3 y] at f;rw[Z1 y] at I;have H:r=(ins.length:Int)+(i:Int):=by rw[<-Z.o];unfold YS;simp only;rw[<-M.o];simp only;rw[<-f]
   subst H;clear f y;go_wp2;go_ret;exact⟨rfl,HBEL.o⟩
  rw[Z2 y] at f;rw[Z0 y] at I;have aa:=hid f;clear f y;go_wp2;refine⟨⟨i+1,by go_num,oq,z.o,HBEL.o,aa.o⟩,by simp[intOf];omega⟩
 have A:i=flows.length:=oq;subst A;have h4:none=XS FL.nm nm flows 0:=by rw[Yq] at f;exact f
 have H:r=-1:=by rw[<-Z.o];unfold YS;simp only;rw[<-M.o];simp only;rw[<-h4]
 subst H;clear f hbel g h4;go_wp2;go_ret;exact⟨rfl,HBEL.o⟩
theorem qU(p:PG)(an H G I:OA)(M L J O:Nat)(nm:ByteArray)(Y:AP w p an H G I M L J O)(h1:p.nodes.length<=1000) :
  Calls prog 71 #[pv p an H G I M L J O,.string nm] w fun x w'=>x=.returned (.int .i64 (Qm p nm))/\Below w.1.size w w':=by
 obtain⟨nodes,ins,j,y⟩:=p;have HN:=hid Y.nodes;clear Y;simp only at h1;unfold pv;simp only;obtain⟨r,U⟩:=ez (Qm ⟨nodes,ins,j,y⟩ nm);rw[U];have V:=hid U;clear U;go_enter func71,ntmps71;go_wp2;go_loopw [5] (fun v wr=>Hid (Zbn w ⟨nodes,ins,j,y⟩ an H G I M L J O nodes.length (fun i=>XS ND.nm nm (nodes.drop i) i=XS ND.nm nm nodes 0) v wr)) (fun i _=>nodes.length-(intOf i).toNat)
 case atStart=>exact⟨0,rfl,Zk _,Yx w _,bq,rfl⟩
 obtain⟨i,rfl,hi,g,hbel,f⟩:=hrel.o;clear hrel
 try simp only at f
 unfold Qg at g;simp only at g;obtain⟨⟨x0,x1,x2,x3⟩,xf⟩:=Yy g;have F:=hid g;have HBEL:=hid hbel;have D:=hbel.size;by_cases C:i<nodes.length
 .obtain⟨bb,oo,rfl,m,q⟩:=HN.o.at C;have T:=Vk w wr bb _ _ hbel m q;have aa:=Zd m D;obtain⟨y0,_⟩:=T;rw[ZO C,XS] at f;obtain⟨x,hx⟩:=ez (nodes[i]);rw[hx] at y0 f;obtain⟨E,ps,bud,bd,fa⟩:=x;simp only at y0 f;have Z:=Jh E nm;have A:(i:Int)<(nodes.length:Int):=oq;clear hbel g q hx m;by_cases z:E=nm
  .rw[Z3 z] at f;rw[Z1 z] at Z;have R:r=(i:Int):=by rw[<-V.o];unfold Qm;simp only;rw[<-f]
   subst R;clear f z;go_wp2;go_ret;exact⟨rfl,HBEL.o⟩
  rw[Z2 z] at f;rw[Z0 z] at Z;have HS:=hid f;clear f z;go_wp2;refine⟨⟨i+1,by go_num,oq,F.o,HBEL.o,HS.o⟩,by simp[intOf];omega⟩
 have A:i=nodes.length:=oq;subst A;have X:none=XS ND.nm nm nodes 0:=by rw[Yq] at f;exact f
 have R:r=-1:=by rw[<-V.o];unfold Qm;simp only;rw[<-X]
 subst R;clear f hbel g X;go_wp2;go_ret;exact⟨rfl,HBEL.o⟩
def xU(x:Ending):Prop:=∃b:Bool,x=.returned (.bool b)
def ER(nm nm1:ByteArray)(ps:List ByteArray)(pa:OA)(pc:Nat)(bud k1 n1 d1 a1 fa:Int)(ad:OA)(len cap:Nat):Value :=
 .agg #[.string nm,.slice pa ps.length pc,.int .i64 bud,.int .i64 k1,.string nm1,.int .i64 n1,.int .i64 d1,.slice ad len cap,.int .i64 a1,.int .i64 fa]
theorem QY{b:Nat}{f g j m q v x y z A:Value}{t:TypeId}(h:w.1[b]?=some (.cells #[f,g,j,m,q,v,x,y,z,A] t (0,0))) :
  (w.cell? ⟨b,0,none⟩=some f/\w.cell? ⟨b,1,none⟩=some g/\w.cell? ⟨b,2,none⟩=some j/\w.cell? ⟨b,3,none⟩=some m/\w.cell? ⟨b,4,none⟩=some q/\w.cell? ⟨b,5,none⟩=some v/\w.cell? ⟨b,6,none⟩=some x/\w.cell? ⟨b,7,none⟩=some y/\w.cell? ⟨b,8,none⟩=some z/\w.cell? ⟨b,9,none⟩=some A)/\∀o,w.frozen? ⟨b,o,none⟩=false:=by
 refine⟨⟨?_,?_,?_,?_,?_,?_,?_,?_,?_,?_⟩,?_⟩
 all_goals first|(intro o;simp[World.frozen?,h])|simp[World.cell?,h]
def Zfz(w:World)(v0 v1 v2 v3 v4 v5 v6 v7 v8 v9:Value)(len:Nat)(v:Value)(wr:World):Prop :=
 ∃i:Nat,v=.int .i64 (i:Int)/\i<=len/\wr.1[w.1.size]?=some (.cells #[v0,v1,v2,v3,v4,v5,v6,v7,v8,v9] 113 (0,0))/\Below w.1.size w wr
theorem ZaJ(nm nm1 q:ByteArray)(ps:List ByteArray)(G:OA)(T:Nat)(bud O R J H L:Int)(I:OA)(len cap:Nat)(y:Row xV 1 w ps G)(X:ps.length<=1000) :
  Calls prog 130 #[ER nm nm1 ps G T bud O R J H L I len cap,.string q] w fun x w'=>xU x/\Below w.1.size w w':=by
 have C:=hid y;clear y;unfold ER;go_enter func130,ntmps130;go_wp2;go_loopw [5] (fun v wr=>Hid (Zfz w (.string nm) (.slice G ps.length T) (.int .i64 bud) (.int .i64 O) (.string nm1) (.int .i64 R) (.int .i64 J) (.slice I len cap) (.int .i64 H) (.int .i64 L) ps.length v wr)) (fun i _=>ps.length-(intOf i).toNat)
 case atStart=>exact⟨0,rfl,Zk _,Yx w _,bq⟩
 obtain⟨i,rfl,hi,f,hbel⟩:=hrel.o;clear hrel;obtain⟨⟨x0,V,x2,x3,x4,x5,x6,x7,x8,x9⟩,xf⟩:=QY f;have A:=hid f;have HBEL:=hid hbel;by_cases E:i<ps.length
 .have j:=C.o.below QT hbel;obtain⟨Y,Z,F,U,g,m⟩:=j.at E;rw[F] at V;rw[Z9] at g;generalize ps[i]=s at g m;have D:(i:Int)<(ps.length:Int):=oq;have M:=Jh s q;clear hbel f j m;by_cases z:s=q
  .rw[Z1 z] at M;clear z;go_wp2;go_ret;exact⟨⟨_,rfl⟩,HBEL.o⟩
  rw[Z0 z] at M;clear z;go_wp2;exact⟨⟨i+1,by go_num,oq,A.o,HBEL.o⟩,by simp[intOf];omega⟩
 have D:(i:Int)=(ps.length:Int):=oq;clear hbel f;go_wp2;go_ret;exact⟨⟨_,rfl⟩,HBEL.o⟩
def Je(e:PE):Prop:=∀(w:World)(nm nm1:ByteArray)(ps:List ByteArray)(pa:OA)(pc:Nat)(bud k1 n1 d1 a1 fa:Int)(ad':OA)(len cap':Nat)(ad:OA)(cap:Nat),Row xV 1 w ps pa->ps.length<=1000->AE w e ad cap ->
 Calls prog 72 #[ER nm nm1 ps pa pc bud k1 n1 d1 a1 fa ad' len cap',.agg #[.int .i64 e.k,.string e.nm,.int .i64 e.n,.int .i64 e.d,.slice ad e.args.len cap,.int .i64 e.a]] w fun x w'=>xU x/\Below w.1.size w w'
def Zbk(w:World)(e:PE)(ad:OA)(cap:Nat)(v0 v1 v2 v3 v4 v5 v6 v7 v8 v9:Value)(v:Value)(wr:World):Prop :=
 ∃(i:Nat)(rest:PL),v=.int .i64 (i:Int)/\Qo wr ad e.args rest i/\wr.1[w.1.size]?=some (.cells #[v0,v1,v2,v3,v4,v5,v6,v7,v8,v9] 113 (0,0)) /\
  wr.1[w.1.size+1]?=some (.cells #[.int .i64 e.k,.string e.nm,.int .i64 e.n,.int .i64 e.d,.slice ad e.args.len cap,.int .i64 e.a] 111 (0,0))/\Below w.1.size w wr
theorem vH(e:PE)(ih:∀e':PE,e'.args.sz<e.args.sz->Je e'):Je e:=by
 intro w nm nm1 ps T pc bud k1 n1 Z Y fa C len g ad cap ag ab aa;obtain⟨k,R,n,d,args,a⟩:=e;have af:=aa.len;simp only at af ⊢;have HA:=hid aa;have ac:=hid ih;have X:=hid ag;have ae:=hid (fun(w':World) (h:Row xV 1 w' ps T)=>ZaJ (w:=w') nm nm1 R ps T pc bud k1 n1 Z Y fa C len g h ab);unfold ER at ae ⊢;clear aa ih ag;have main:∀(W:World),W.1[w.1.size]?=some (.cells #[.string nm,.slice T ps.length pc,.int .i64 bud,.int .i64 k1,.string nm1,.int .i64 n1,.int .i64 Z,.slice C len g,.int .i64 Y,.int .i64 fa] 113 (0,0)) ->
   W.1[w.1.size+1]?=some (.cells #[.int .i64 k,.string R,.int .i64 n,.int .i64 d,.slice ad args.len cap,.int .i64 a] 111 (0,0))->Below w.1.size w W->Zbk w ⟨k,R,n,d,args,a⟩ ad cap (.string nm) (.slice T ps.length pc) (.int .i64 bud) (.int .i64 k1) (.string nm1) (.int .i64 n1) (.int .i64 Z) (.slice C len g) (.int .i64 Y) (.int .i64 fa) (.int .i64 0) W:=fun W h1 h2 h3 =>
  ⟨0,args,rfl,(Qo.start HA.o.args).below h3,h1,h2,h3⟩
 have G:=hid main;clear main;by_cases hk:k=11
 .subst hk;go_enter func72,ntmps72;go_wp2_with (go_at_call 130;go_loud (refine(ae.o _ (X.o.below QT bq)).mono ?_;rintro x w1 ⟨⟨b,rfl⟩,hb1⟩;obtain⟨ah,ai⟩:=YE hb1;cases b))
  all_goals (try (go_ret;exact⟨⟨_,rfl⟩,bq⟩))
  go_loopw [5] (fun v wr=>Hid (Zbk w ⟨11,R,n,d,args,a⟩ ad cap (.string nm) (.slice T ps.length pc) (.int .i64 bud) (.int .i64 k1) (.string nm1) (.int .i64 n1) (.int .i64 Z) (.slice C len g) (.int .i64 Y) (.int .i64 fa) v wr)) (fun i _=>args.len-(intOf i).toNat)
  case atStart=>exact G.o _ ((hb1.block _ oq).trans ((Za _ _ _ (by simp)).trans (Yx w _))) ((hb1.block _ oq).trans (by simpa using Yx (w.alloc _) _)) bq
  obtain⟨i,rest,rfl,f,q,j,hbel⟩:=hrel.o;clear hrel;simp only at j;obtain⟨⟨x0,x1,x2,x3,x4,x5,x6,x7,x8,x9⟩,xf⟩:=QY q;obtain⟨⟨e0,e1,e2,e3,e4,e5⟩,ef⟩:=Xl j;have H:=hid q;have F:=hid j;have HBEL:=hid hbel;have E:=f.1;simp only at E;have m:=hid f;have A:=Zb q;have z:=Zb j;clear q j f
  cases rest with
  | nil =>
   have M:(i:Int)=(args.len:Int):=by simp only[PL.len] at E;omega
   clear hbel;go_wp2;go_ret;exact⟨⟨_,rfl⟩,HBEL.o⟩
  | cons k9 nm9 n9 d9 args9 a9 tl =>
   have M:(i:Int)<(args.len:Int):=by simp only[PL.len] at E;omega
   obtain⟨b,o,rfl,hb,h0,h1,h2,h3,h5,hn,⟨I,y,h4,D,J,L⟩,ht⟩:=m.o.2.2.resolve_left (by intro h;cases h);have O:=m.o.2.1;simp only[PL.sz] at O;have U:=hid (show AE wr ⟨k9,nm9,n9,d9,args9,a9⟩ I y from ⟨hn,⟨D,J⟩,L⟩);have V:=hid (fun(W':World) (hW:Below wr.1.size wr W')=>ac.o ⟨k9,nm9,n9,d9,args9,a9⟩ (by show args9.sz<args.sz;omega) W' nm nm1 ps T pc bud k1 n1 Z Y fa C len g I y ((X.o.below QT HBEL.o).below QT hW) ab (U.o.below hW));unfold ER at V;simp only at V;clear hbel hn L ht;go_wp2;go_region_with (go_at_call 72;refine(V.o _ bq).mono ?_;rintro x w2 ⟨⟨b2,rfl⟩,hb2⟩)
   all_goals go_wp2
   all_goals first
    | (go_ret;exact⟨⟨_,rfl⟩,bq⟩)
    | (go_roundw;(case rel=>first|exact⟨i+1,tl,by go_num,m.o.tail.below bq,(hb2.block _ A).trans H.o,(hb2.block _ z).trans F.o,bq⟩|((repeat apply Yh);exact⟨⟨i+1,tl,by go_num,m.o.tail.below bq,(hb2.block _ A).trans H.o,(hb2.block _ z).trans F.o,bq⟩,rfl⟩));(case measure=>simp[intOf];omega))
 have aj:(k == 11)=false:=ZZ.2 hk;clear hk;go_enter func72,ntmps72;go_wp2;go_loopw [5] (fun v wr=>Hid (Zbk w ⟨k,R,n,d,args,a⟩ ad cap (.string nm) (.slice T ps.length pc) (.int .i64 bud) (.int .i64 k1) (.string nm1) (.int .i64 n1) (.int .i64 Z) (.slice C len g) (.int .i64 Y) (.int .i64 fa) v wr)) (fun i _=>args.len-(intOf i).toNat)
 case atStart=>exact G.o _ ((Za _ _ _ (by simp)).trans (Yx w _)) (by simpa using Yx (w.alloc _) _) bq
 obtain⟨i,rest,rfl,f,q,j,hbel⟩:=hrel.o;clear hrel;simp only at j;obtain⟨⟨x0,x1,x2,x3,x4,x5,x6,x7,x8,x9⟩,xf⟩:=QY q;obtain⟨⟨e0,e1,e2,e3,e4,e5⟩,ef⟩:=Xl j;have H:=hid q;have F:=hid j;have HBEL:=hid hbel;have E:=f.1;simp only at E;have m:=hid f;have A:=Zb q;have z:=Zb j;clear q j f
 cases rest with
 | nil =>
  have M:(i:Int)=(args.len:Int):=by simp only[PL.len] at E;omega
  clear hbel;go_wp2;go_ret;exact⟨⟨_,rfl⟩,HBEL.o⟩
 | cons k9 nm9 n9 d9 args9 a9 tl =>
  have M:(i:Int)<(args.len:Int):=by simp only[PL.len] at E;omega
  obtain⟨b,o,rfl,hb,h0,h1,h2,h3,h5,hn,⟨I,y,h4,D,J,L⟩,ht⟩:=m.o.2.2.resolve_left (by intro h;cases h);have O:=m.o.2.1;simp only[PL.sz] at O;have U:=hid (show AE wr ⟨k9,nm9,n9,d9,args9,a9⟩ I y from ⟨hn,⟨D,J⟩,L⟩);have V:=hid (fun(W':World) (hW:Below wr.1.size wr W')=>ac.o ⟨k9,nm9,n9,d9,args9,a9⟩ (by show args9.sz<args.sz;omega) W' nm nm1 ps T pc bud k1 n1 Z Y fa C len g I y ((X.o.below QT HBEL.o).below QT hW) ab (U.o.below hW));unfold ER at V;simp only at V;clear hbel hn L ht;go_wp2;go_region_with (go_at_call 72;refine(V.o _ bq).mono ?_;rintro x w2 ⟨⟨b2,rfl⟩,hb2⟩)
  all_goals go_wp2
  all_goals first
   | (go_ret;exact⟨⟨_,rfl⟩,bq⟩)
   | (go_roundw;(case rel=>first|exact⟨i+1,tl,by go_num,m.o.tail.below bq,(hb2.block _ A).trans H.o,(hb2.block _ z).trans F.o,bq⟩|((repeat apply Yh);exact⟨⟨i+1,tl,by go_num,m.o.tail.below bq,(hb2.block _ A).trans H.o,(hb2.block _ z).trans F.o,bq⟩,rfl⟩));(case measure=>simp[intOf];omega))
theorem eY(e:PE):Je e:=by
 suffices h:∀(N:Nat)(e:PE),e.args.sz<N->Je e from h _ e (ZX _)
 intro N
 induction N with
 | zero=>intro e h;omega
 | succ N ih=>intro e h;exact vH e (fun e' h'=>ih e' oq)
def nm1(p:PG)(k:Int)(nm:ByteArray):Bool:=decide (k≠1)||decide (0<=YS p nm)
def nmL(p:PG):PL->Bool
 | .nil=>true
 | .cons k nm n d args a tl=>(nm1 p k nm&&nmL p args)&&nmL p tl
def nd1(p:PG)(k:Int)(nm:ByteArray)(len:Nat):Bool:=decide (k≠2)||(match XS ND.nm nm p.nodes 0 with
 | some i=>decide ((p.nodes[i]?).map (fun x=>x.ps.length)=some len)
 | none=>false)
def nq1(p:PG)(k:Int)(nm:ByteArray)(len:Nat):Bool:=nm1 p k nm&&nd1 p k nm len
def nqL(p:PG):PL->Bool
 | .nil=>true
 | .cons k nm n d args a tl=>(nq1 p k nm args.len&&nqL p args)&&nqL p tl
theorem ZcR{p:PG}{k:Int}{nm:ByteArray}{len:Nat}(h:nq1 p k nm len=true):nm1 p k nm=true:=by
 unfold nq1 at h;rw[ZC] at h;exact h.1
theorem uA{p:PG}:∀l:PL,nqL p l=true->nmL p l=true
 | .nil,_=>rfl
 | .cons k nm n d args a tl,h=>by
  rw[nqL,ZC,ZC] at h;rw[nmL,ZcR h.1.1,uA args h.1.2,uA tl h.2];rfl
def GZ(p:PG)(e:PE)(x:Ending):Prop:=∃b:Bool,x=.returned (.bool b)/\(b=true->nq1 p e.k e.nm e.args.len=true/\nqL p e.args=true)
def VY(p:PG)(an ai af ao:OA)(cn ci cf co:Nat)(e:PE):Prop:=∀(w:World)(ad:OA)(cap:Nat),AP w p an ai af ao cn ci cf co->AE w e ad cap ->
 Calls prog 74 #[pv p an ai af ao cn ci cf co,.agg #[.int .i64 e.k,.string e.nm,.int .i64 e.n,.int .i64 e.d,.slice ad e.args.len cap,.int .i64 e.a]] w fun x w'=>GZ p e x/\Below w.1.size w w'
def kK(w:World)(p:PG)(an ai af ao:OA)(cn ci cf co:Nat)(e:PE)(ad:OA)(cap:Nat)(v:Value)(wr:World):Prop :=
 ∃(i:Nat)(rest:PL),v=.int .i64 (i:Int)/\Qo wr ad e.args rest i/\(nqL p rest=true->nqL p e.args=true)/\Qg wr w.1.size p an ai af ao cn ci cf co /\
  wr.1[w.1.size+1]?=some (.cells #[.int .i64 e.k,.string e.nm,.int .i64 e.n,.int .i64 e.d,.slice ad e.args.len cap,.int .i64 e.a] 111 (0,0))/\Below w.1.size w wr
theorem ua(p:PG)(an ai af ao:OA)(cn ci cf co:Nat)(be:p.nodes.length<=1000)(bf:p.ins.length<=1000)(bg:p.flows.length<=1000)(e:PE)(ih:∀e':PE,e'.args.sz<e.args.sz->VY p an ai af ao cn ci cf co e'):VY p an ai af ao cn ci cf co e:=by
 intro w ad cap hp ar;obtain⟨k,m,n,d,args,a⟩:=e;have av:=ar.len;simp only at av ⊢;have HA:=hid ar;have aq:=hid ih;have HP:=hid hp;have aa:=hid (fun(w':World) (h:Below w.1.size w w')=>UW (w:=w') p an ai af ao cn ci cf co m (HP.o.below h) bf bg);have X:=hid (fun(w':World) (h:Below w.1.size w w')=>qU (w:=w') p an ai af ao cn ci cf co m (HP.o.below h) be);unfold pv at aa X ⊢;have main:∀(W:World),Qg W w.1.size p an ai af ao cn ci cf co->W.1[w.1.size+1]?=some (.cells #[.int .i64 k,.string m,.int .i64 n,.int .i64 d,.slice ad args.len cap,.int .i64 a] 111 (0,0))->Below w.1.size w W ->
   kK w p an ai af ao cn ci cf co ⟨k,m,n,d,args,a⟩ ad cap (.int .i64 0) W:=fun W h1 h2 h3=>⟨0,args,rfl,(Qo.start HA.o.args).below h3,fun h=>h,h1,h2,h3⟩
 have V:=hid main;clear main ar ih hp;by_cases hk:k=1
 .subst hk;by_cases aj:YS p m<0
  .have ac:decide (YS p m<0)=true:=Z1 aj;generalize hfi:YS p m=fi at aa aj ac;clear hfi;go_enter func74,ntmps74;go_wp2_with (go_at_call 73;go_loud (refine(aa.o _ bq).mono ?_;rintro x I ⟨rfl,hb1⟩;obtain⟨ag,ah⟩:=YE hb1;have q1:w.1.size<I.1.size:=Yz hb1 oq;have q2:w.1.size+1<I.1.size:=Yz hb1 oq));go_ret;exact⟨⟨false,rfl,fun h=>by cases h⟩,bq⟩
  have am:0<=YS p m:=oq;have ba:=hid am;have ac:decide (YS p m<0)=false:=Z0 aj;generalize hfi:YS p m=fi at aa am aj ac;clear hfi;go_enter func74,ntmps74;go_wp2_with (go_at_call 73;go_loud (refine(aa.o _ bq).mono ?_;rintro x I ⟨rfl,hb1⟩;obtain⟨ag,ah⟩:=YE hb1;have q1:w.1.size<I.1.size:=Yz hb1 oq;have q2:w.1.size+1<I.1.size:=Yz hb1 oq));have ab:=hid (show nq1 p 1 m args.len=true from by unfold nq1 nm1 nd1;simp;exact ba.o);go_loopw [6] (fun v wr=>Hid (kK w p an ai af ao cn ci cf co ⟨1,m,n,d,args,a⟩ ad cap v wr)) (fun i _=>args.len-(intOf i).toNat)
  case atStart=>exact V.o _ ((hb1.block _ oq).trans ((Za _ _ _ (by simp)).trans (Yx w _))) ((hb1.block _ oq).trans (by simpa using Yx (w.alloc _) _)) bq
  obtain⟨i,rest,rfl,f,y,z,q,hbel⟩:=hrel.o;clear hrel;simp only at q y;unfold Qg at z;obtain⟨⟨z0,z1,z2,z3⟩,zf⟩:=Yy z;obtain⟨⟨e0,e1,e2,e3,e4,e5⟩,ef⟩:=Xl q;have L:=hid z;have J:=hid q;have HBEL:=hid hbel;have F:=hid y;have H:=f.1;simp only at H;have A:=hid f;have E:=Zb z;have D:=Zb q;clear z q f y
  cases rest with
  | nil =>
   have T:(i:Int)=(args.len:Int):=by simp only[PL.len] at H;omega
   clear hbel;go_wp2;go_ret;exact⟨⟨true,rfl,fun _=>⟨ab.o,F.o rfl⟩⟩,HBEL.o⟩
  | cons k9 nm9 n9 d9 args9 a9 tl =>
   have T:(i:Int)<(args.len:Int):=by simp only[PL.len] at H;omega
   obtain⟨b,o,rfl,hb,h0,h1,h2,h3,h5,hn,⟨M,C,h4,G,O,R⟩,ht⟩:=A.o.2.2.resolve_left (by intro h;cases h);have U:=A.o.2.1;simp only[PL.sz] at U;have Y:=hid (show AE wr ⟨k9,nm9,n9,d9,args9,a9⟩ M C from ⟨hn,⟨G,O⟩,R⟩);have Z:=hid (fun(W':World) (hW:Below wr.1.size wr W')=>aq.o ⟨k9,nm9,n9,d9,args9,a9⟩ (by show args9.sz<args.sz;omega) W' M C ((HP.o.below HBEL.o).below hW) (Y.o.below hW));unfold pv GZ at Z;simp only at Z;clear hbel hn R ht;go_wp2;go_region_with (go_at_call 74;refine(Z.o _ bq).mono ?_;rintro x w2 ⟨⟨b2,rfl,g⟩,hb2⟩)
   all_goals cases b2
   all_goals go_wp2
   all_goals first
    | (go_ret;exact⟨⟨false,rfl,fun h=>by cases h⟩,bq⟩)
    | (go_roundw;(case rel=>first|exact⟨i+1,tl,by go_num,A.o.tail.below bq,fun h=>F.o (by rw[nqL,(g rfl).1,(g rfl).2,h];rfl),(hb2.block _ E).trans L.o,(hb2.block _ D).trans J.o,bq⟩|((repeat apply Yh);exact⟨⟨i+1,tl,by go_num,A.o.tail.below bq,fun h=>F.o (by rw[nqL,(g rfl).1,(g rfl).2,h];rfl),(hb2.block _ E).trans L.o,(hb2.block _ D).trans J.o,bq⟩,rfl⟩));(case measure=>simp[intOf];omega))
 have bp:(k == 1)=false:=ZZ.2 hk;have bc:=hid hk;by_cases ak:k=2
 .subst ak;clear hk
  cases hfs:XS ND.nm m p.nodes 0 with
  | none =>
   have ae:Qm p m=-1:=by unfold Qm;rw[hfs]
   rw[ae] at X;clear hfs ae;go_enter func74,ntmps74;go_wp2_with (go_at_call 71;go_loud (refine(X.o _ bq).mono ?_;rintro x I ⟨rfl,hb1⟩;obtain⟨ag,ah⟩:=YE hb1;have q1:w.1.size<I.1.size:=Yz hb1 oq;have q2:w.1.size+1<I.1.size:=Yz hb1 oq));go_quiet (fail);go_wp2;go_ret;exact⟨⟨false,rfl,fun h=>by cases h⟩,bq⟩
  | some ni =>
   have ae:Qm p m=(ni:Int):=by unfold Qm;rw[hfs]
   rw[ae] at X;obtain⟨j,hj,xx,ay,_⟩:=QL _ _ _ _ _ hfs;obtain rfl:ni=j:=oq;clear hj;have ax:ni<p.nodes.length:=(ZB.1 ay).1;obtain⟨bb,oo,rfl,al,aw⟩:=HP.o.nodes.at ax;obtain⟨_,⟨pa,pc,y1,bi,br,_⟩,_⟩:=aw;have bo:(ni:Int)<(p.nodes.length:Int):=oq;have az:=hid hfs;generalize hplq:p.nodes[ni].ps.length=pl at y1 bi;have bd:=hid hplq;clear hfs ae ay hplq;by_cases bh:pl=args.len
   .have ap:((pl:Int) == (args.len:Int))=true:=by rw[beq_iff_eq];omega
    subst bh;go_enter func74,ntmps74;go_wp2_with (go_at_call 71;go_loud (refine(X.o _ bq).mono ?_;rintro x I ⟨rfl,hb1⟩;obtain⟨ag,ah⟩:=YE hb1;have q1:w.1.size<I.1.size:=Yz hb1 oq;have q2:w.1.size+1<I.1.size:=Yz hb1 oq;have bj:I.cell? ⟨bb,oo+ni*10+1,none⟩=_:=(show Below w.1.size w I from bq).cell (p:=⟨bb,oo+ni*10+1,none⟩) al |>.trans y1));go_quiet (fail);go_wp2;have ab:=hid (show nq1 p 2 m args.len=true from by unfold nq1 nm1 nd1;rw[az.o];simp[bd.o,Ze ax]);go_loopw [6] (fun v wr=>Hid (kK w p (some ⟨bb,oo,none⟩) ai af ao cn ci cf co ⟨2,m,n,d,args,a⟩ ad cap v wr)) (fun i _=>args.len-(intOf i).toNat)
    case atStart=>exact V.o _ ((hb1.block _ oq).trans ((Za _ _ _ (by simp)).trans (Yx w _))) ((hb1.block _ oq).trans (by simpa using Yx (w.alloc _) _)) bq
    obtain⟨i,rest,rfl,f,y,z,q,hbel⟩:=hrel.o;clear hrel;simp only at q y;unfold Qg at z;obtain⟨⟨z0,z1,z2,z3⟩,zf⟩:=Yy z;obtain⟨⟨e0,e1,e2,e3,e4,e5⟩,ef⟩:=Xl q;have L:=hid z;have J:=hid q;have HBEL:=hid hbel;have F:=hid y;have H:=f.1;simp only at H;have A:=hid f;have E:=Zb z;have D:=Zb q;clear z q f y
    cases rest with
    | nil =>
     have T:(i:Int)=(args.len:Int):=by simp only[PL.len] at H;omega
     clear hbel;go_wp2;go_ret;exact⟨⟨true,rfl,fun _=>⟨ab.o,F.o rfl⟩⟩,HBEL.o⟩
    | cons k9 nm9 n9 d9 args9 a9 tl =>
     have T:(i:Int)<(args.len:Int):=by simp only[PL.len] at H;omega
     obtain⟨b,o,rfl,hb,h0,h1,h2,h3,h5,hn,⟨M,C,h4,G,O,R⟩,ht⟩:=A.o.2.2.resolve_left (by intro h;cases h);have U:=A.o.2.1;simp only[PL.sz] at U;have Y:=hid (show AE wr ⟨k9,nm9,n9,d9,args9,a9⟩ M C from ⟨hn,⟨G,O⟩,R⟩);have Z:=hid (fun(W':World) (hW:Below wr.1.size wr W')=>aq.o ⟨k9,nm9,n9,d9,args9,a9⟩ (by show args9.sz<args.sz;omega) W' M C ((HP.o.below HBEL.o).below hW) (Y.o.below hW));unfold pv GZ at Z;simp only at Z;clear hbel hn R ht;go_wp2;go_region_with (go_at_call 74;refine(Z.o _ bq).mono ?_;rintro x w2 ⟨⟨b2,rfl,g⟩,hb2⟩)
     all_goals cases b2
     all_goals go_wp2
     all_goals first
      | (go_ret;exact⟨⟨false,rfl,fun h=>by cases h⟩,bq⟩)
      | (go_roundw;(case rel=>first|exact⟨i+1,tl,by go_num,A.o.tail.below bq,fun h=>F.o (by rw[nqL,(g rfl).1,(g rfl).2,h];rfl),(hb2.block _ E).trans L.o,(hb2.block _ D).trans J.o,bq⟩|((repeat apply Yh);exact⟨⟨i+1,tl,by go_num,A.o.tail.below bq,fun h=>F.o (by rw[nqL,(g rfl).1,(g rfl).2,h];rfl),(hb2.block _ E).trans L.o,(hb2.block _ D).trans J.o,bq⟩,rfl⟩));(case measure=>simp[intOf];omega))
   have ap:((pl:Int) == (args.len:Int))=false:=by rw[ZZ];omega
   have bm:((pl:Int) != (args.len:Int))=true:=by rw[bne,ap];rfl
   have bn:decide ((ni:Int)<0)=false:=Z0 oq;have bl:¬(pl:Int)=(args.len:Int):=oq;go_enter func74,ntmps74;go_wp2_with (go_at_call 71;go_loud (refine(X.o _ bq).mono ?_;rintro x I ⟨rfl,hb1⟩;obtain⟨ag,ah⟩:=YE hb1;have q1:w.1.size<I.1.size:=Yz hb1 oq;have q2:w.1.size+1<I.1.size:=Yz hb1 oq;have bj:I.cell? ⟨bb,oo+ni*10+1,none⟩=_:=(show Below w.1.size w I from bq).cell (p:=⟨bb,oo+ni*10+1,none⟩) al |>.trans y1));go_quiet (fail);go_wp2
   all_goals first|(go_ret;exact⟨⟨false,rfl,fun h=>by cases h⟩,bq⟩)|(exfalso;omega)
 have bk:(k == 2)=false:=ZZ.2 ak;have au:=hid ak;clear hk ak;go_enter func74,ntmps74;go_wp2;have ab:=hid (show nq1 p k m args.len=true from by unfold nq1 nm1 nd1;simp[bc.o,au.o]);go_loopw [6] (fun v wr=>Hid (kK w p an ai af ao cn ci cf co ⟨k,m,n,d,args,a⟩ ad cap v wr)) (fun i _=>args.len-(intOf i).toNat)
 case atStart=>exact V.o _ ((Za _ _ _ (by simp)).trans (Yx w _)) (by simpa using Yx (w.alloc _) _) bq
 obtain⟨i,rest,rfl,f,y,z,q,hbel⟩:=hrel.o;clear hrel;simp only at q y;unfold Qg at z;obtain⟨⟨z0,z1,z2,z3⟩,zf⟩:=Yy z;obtain⟨⟨e0,e1,e2,e3,e4,e5⟩,ef⟩:=Xl q;have L:=hid z;have J:=hid q;have HBEL:=hid hbel;have F:=hid y;have H:=f.1;simp only at H;have A:=hid f;have E:=Zb z;have D:=Zb q;clear z q f y
 cases rest with
 | nil =>
  have T:(i:Int)=(args.len:Int):=by simp only[PL.len] at H;omega
  clear hbel;go_wp2;go_ret;exact⟨⟨true,rfl,fun _=>⟨ab.o,F.o rfl⟩⟩,HBEL.o⟩
 | cons k9 nm9 n9 d9 args9 a9 tl =>
  have T:(i:Int)<(args.len:Int):=by simp only[PL.len] at H;omega
  obtain⟨b,o,rfl,hb,h0,h1,h2,h3,h5,hn,⟨M,C,h4,G,O,R⟩,ht⟩:=A.o.2.2.resolve_left (by intro h;cases h);have U:=A.o.2.1;simp only[PL.sz] at U;have Y:=hid (show AE wr ⟨k9,nm9,n9,d9,args9,a9⟩ M C from ⟨hn,⟨G,O⟩,R⟩);have Z:=hid (fun(W':World) (hW:Below wr.1.size wr W')=>aq.o ⟨k9,nm9,n9,d9,args9,a9⟩ (by show args9.sz<args.sz;omega) W' M C ((HP.o.below HBEL.o).below hW) (Y.o.below hW));unfold pv GZ at Z;simp only at Z;clear hbel hn R ht;go_wp2;go_region_with (go_at_call 74;refine(Z.o _ bq).mono ?_;rintro x w2 ⟨⟨b2,rfl,g⟩,hb2⟩)
  all_goals cases b2
  all_goals go_wp2
  all_goals first
   | (go_ret;exact⟨⟨false,rfl,fun h=>by cases h⟩,bq⟩)
   | (go_roundw;(case rel=>first|exact⟨i+1,tl,by go_num,A.o.tail.below bq,fun h=>F.o (by rw[nqL,(g rfl).1,(g rfl).2,h];rfl),(hb2.block _ E).trans L.o,(hb2.block _ D).trans J.o,bq⟩|((repeat apply Yh);exact⟨⟨i+1,tl,by go_num,A.o.tail.below bq,fun h=>F.o (by rw[nqL,(g rfl).1,(g rfl).2,h];rfl),(hb2.block _ E).trans L.o,(hb2.block _ D).trans J.o,bq⟩,rfl⟩));(case measure=>simp[intOf];omega))
theorem Zal(p:PG)(an g f j:OA)(v q m x:Nat)(y:p.nodes.length<=1000)(z:p.ins.length<=1000)(A:p.flows.length<=1000)(e:PE):VY p an g f j v q m x e:=by
 suffices h:∀(N:Nat)(e:PE),e.args.sz<N->VY p an g f j v q m x e from h _ e (ZX _)
 intro N
 induction N with
 | zero=>intro e h;omega
 | succ N ih=>intro e h;exact ua p an g f j v q m x y z A e (fun e' h'=>ih e' oq)
