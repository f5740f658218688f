/- Parts of the proof. -/
import Derived.Test.YtdgifkjaflfdeaaGreatDoorJ11
set_option linter.all false
set_option maxRecDepth 100000
set_option maxHeartbeats 16000000
namespace Go.Proofs.YtdgifkjaflfdeaaGreatDoor.syn
open Tryz
open Go.RowKit
variable {w:World}
def XW{α:Type}(f:α->ByteArray)(nm:ByteArray):List α->Nat->Option Nat
 | [],_=>none
 | x::l,i=>if f x=nm then some i else XW f nm l (i+1)
theorem QS{α:Type}(f:α->ByteArray)(nm:ByteArray):∀(l:List α)(i k:Nat),XW f nm l i=some k->∃j,k=i+j/\∃x,l[j]?=some x/\f x=nm:=by
 intro l
 induction l with
 | nil=>intro i k h;cases h
 | cons x l ih =>
  intro i k h;unfold XW at h;by_cases g:f x=nm
  .rw[Z1 g] at h;injection h with h;exact⟨0,oq,x,rfl,g⟩
  rw[Z0 g] at h;obtain⟨j,v,y,m,q⟩:=ih (i+1) k h;exact⟨j+1,oq,y,by simpa using m,q⟩
def YT(p:PG)(nm:ByteArray):Int:=match XW IN.nm nm p.ins 0 with
 | some i=>(i:Int)
 | none=>match XW FL.nm nm p.flows 0 with
  | some i=>(p.ins.length:Int)+(i:Int)
  | none=>-1
def Qo(p:PG)(nm:ByteArray):Int:=match XW ND.nm nm p.nodes 0 with
 | some i=>(i:Int)
 | none=>-1
def ZbU(w:World)(p:PG)(an ai af ao:Option Addr)(cn ci cf co:Nat)(len:Nat)(S:Nat->Prop)(v:Value)(wr:World):Prop :=
 ∃i:Nat,v=.int .i64 (i:Int)/\i<=len/\Qh wr w.1.size p an ai af ao cn ci cf co/\Below w.1.size w wr/\S i
theorem Kb(p:PG)(an R O T:Option Addr)(X V U Y:Nat)(nm:ByteArray)(hp:AP w p an R O T X V U Y)(h1:p.ins.length<=1000)(h2:p.flows.length<=1000) :
  Calls prog 73 #[pv p an R O T X V U Y,.string nm] w fun x w'=>x=.returned (.int .i64 (YT p nm))/\Below w.1.size w w':=by
 obtain⟨m,ins,flows,E⟩:=p;have HI:=hid hp.ins;have HF:=hid hp.flows;clear hp;simp only at h1 h2;unfold pv;simp only;obtain⟨r,hr⟩:=ez (YT ⟨m,ins,flows,E⟩ nm);rw[hr];have Z:=hid hr;clear hr;go_enter func73,ntmps73;go_wp2;go_loopw [5] (fun v wr=>Hid (ZbU w ⟨m,ins,flows,E⟩ an R O T X V U Y ins.length (fun i=>XW IN.nm nm (ins.drop i) i=XW IN.nm nm ins 0) v wr)) (fun i _=>ins.length-(intOf i).toNat)
 case atStart=>exact⟨0,rfl,Zk _,Yx w _,bq,rfl⟩
 obtain⟨i,rfl,hi,g,hbel,f⟩:=hrel.o;clear hrel
 try simp only at f
 unfold Qh at g;simp only at g;obtain⟨⟨x0,x1,x2,x3⟩,xf⟩:=Yy g;have z:=hid g;have HBEL:=hid hbel;have q:=hbel.size;by_cases C:i<ins.length
 .obtain⟨bb,oo,rfl,j,G⟩:=HI.o.at C;have ae:=EP w wr bb _ _ hbel j G;have ab:=Zd j q;obtain⟨L,_⟩:=ae;rw[ZN C,XW] at f;obtain⟨x,J⟩:=ez (ins[i]);rw[J] at L f;obtain⟨D,ag,ph,fa⟩:=x;simp only at L f;have I:=Jn D nm;have A:(i:Int)<(ins.length:Int):=oq;clear hbel g G J j;by_cases y:D=nm
  .rw[Z1 y] at f;rw[ZZ y] at I;have H:r=(i:Int):=by rw[<-Z.o];unfold YT;simp only;rw[<-f]
   subst H;clear f y;go_wp2;go_ret;exact⟨rfl,HBEL.o⟩
  rw[Z0 y] at f;rw[ZY y] at I;have M:=hid f;clear f y;go_wp2;refine⟨⟨i+1,by go_num,oq,z.o,HBEL.o,M.o⟩,by simp[intOf];omega⟩
 have A:i=ins.length:=oq;subst A;have M:=hid (show none=XW IN.nm nm ins 0 by rw[Yo] at f;exact f);clear f hbel g;go_wp2;go_loopw [6] (fun v wr=>Hid (ZbU w ⟨m,ins,flows,E⟩ an R O T X V U Y flows.length (fun i=>XW FL.nm nm (flows.drop i) i=XW FL.nm nm flows 0) v wr)) (fun i _=>flows.length-(intOf i).toNat)
 case atStart=>exact⟨0,rfl,Zk _,z.o,HBEL.o,rfl⟩
 clear z HBEL q x0 x1 x2 x3 xf;obtain⟨i,rfl,hi,g,hbel,f⟩:=hrel.o;clear hrel
 try simp only at f
 unfold Qh at g;simp only at g;obtain⟨⟨x0,x1,x2,x3⟩,xf⟩:=Yy g;have z:=hid g;have HBEL:=hid hbel;have q:=hbel.size;by_cases C:i<flows.length
 .obtain⟨bb,oo,rfl,j,F⟩:=HF.o.at C;have ac:=VB w wr bb _ _ hbel j F;have ab:=Zd j q;obtain⟨L,_⟩:=ac;rw[ZN C,XW] at f;obtain⟨x,J⟩:=ez (flows[i]);rw[J] at L f;obtain⟨D,ex,fa⟩:=x;simp only at L f;have I:=Jn D nm;have A:(i:Int)<(flows.length:Int):=oq;clear hbel g F J j;by_cases y:D=nm
  .rw[Z1 y] at f;rw[ZZ y] at I;have H:r=(ins.length:Int)+(i:Int):=by rw[<-Z.o];unfold YT;simp only;rw[<-M.o];simp only;rw[<-f]
   subst H;clear f y;go_wp2;go_ret;exact⟨rfl,HBEL.o⟩
  rw[Z0 y] at f;rw[ZY y] at I;have aa:=hid f;clear f y;go_wp2;refine⟨⟨i+1,by go_num,oq,z.o,HBEL.o,aa.o⟩,by simp[intOf];omega⟩
 have A:i=flows.length:=oq;subst A;have h4:none=XW FL.nm nm flows 0:=by rw[Yo] at f;exact f
 have H:r=-1:=by rw[<-Z.o];unfold YT;simp only;rw[<-M.o];simp only;rw[<-h4]
 subst H;clear f hbel g h4;go_wp2;go_ret;exact⟨rfl,HBEL.o⟩
theorem jZ(p:PG)(an H G I:Option Addr)(M L J O:Nat)(nm:ByteArray)(Y:AP w p an H G I M L J O)(h1:p.nodes.length<=1000) :
  Calls prog 71 #[pv p an H G I M L J O,.string nm] w fun x w'=>x=.returned (.int .i64 (Qo p nm))/\Below w.1.size w w':=by
 obtain⟨nodes,ins,j,y⟩:=p;have HN:=hid Y.nodes;clear Y;simp only at h1;unfold pv;simp only;obtain⟨r,U⟩:=ez (Qo ⟨nodes,ins,j,y⟩ nm);rw[U];have V:=hid U;clear U;go_enter func71,ntmps71;go_wp2;go_loopw [5] (fun v wr=>Hid (ZbU w ⟨nodes,ins,j,y⟩ an H G I M L J O nodes.length (fun i=>XW ND.nm nm (nodes.drop i) i=XW ND.nm nm nodes 0) v wr)) (fun i _=>nodes.length-(intOf i).toNat)
 case atStart=>exact⟨0,rfl,Zk _,Yx w _,bq,rfl⟩
 obtain⟨i,rfl,hi,g,hbel,f⟩:=hrel.o;clear hrel
 try simp only at f
 unfold Qh at g;simp only at g;obtain⟨⟨x0,x1,x2,x3⟩,xf⟩:=Yy g;have F:=hid g;have HBEL:=hid hbel;have D:=hbel.size;by_cases C:i<nodes.length
 .obtain⟨bb,oo,rfl,m,q⟩:=HN.o.at C;have T:=Vs w wr bb _ _ hbel m q;have ab:=Zd m D;obtain⟨y0,_⟩:=T;rw[ZN C,XW] at f;obtain⟨x,hx⟩:=ez (nodes[i]);rw[hx] at y0 f;obtain⟨E,ps,aa,bd,fa⟩:=x;simp only at y0 f;have Z:=Jn E nm;have A:(i:Int)<(nodes.length:Int):=oq;clear hbel g q hx m;by_cases z:E=nm
  .rw[Z1 z] at f;rw[ZZ z] at Z;have R:r=(i:Int):=by rw[<-V.o];unfold Qo;simp only;rw[<-f]
   subst R;clear f z;go_wp2;go_ret;exact⟨rfl,HBEL.o⟩
  rw[Z0 z] at f;rw[ZY z] at Z;have HS:=hid f;clear f z;go_wp2;refine⟨⟨i+1,by go_num,oq,F.o,HBEL.o,HS.o⟩,by simp[intOf];omega⟩
 have A:i=nodes.length:=oq;subst A;have X:none=XW ND.nm nm nodes 0:=by rw[Yo] at f;exact f
 have R:r=-1:=by rw[<-V.o];unfold Qo;simp only;rw[<-X]
 subst R;clear f hbel g X;go_wp2;go_ret;exact⟨rfl,HBEL.o⟩
def qj(x:Ending):Prop:=∃b:Bool,x=.returned (.bool b)
def E5(nm nm1:ByteArray)(ps:List ByteArray)(pa:Option Addr)(pc:Nat)(bud k1 n1 d1 a1 fa:Int)(ad:Option Addr)(len cap:Nat):Value :=
 .agg #[.string nm,.slice pa ps.length pc,.int .i64 bud,.int .i64 k1,.string nm1,.int .i64 n1,.int .i64 d1,.slice ad len cap,.int .i64 a1,.int .i64 fa]
theorem Q5{b:Nat}{f g j m q v x y z A:Value}{t:TypeId}(h:w.1[b]?=some (.cells #[f,g,j,m,q,v,x,y,z,A] t (0,0))) :
  (w.cell? ⟨b,0,none⟩=some f/\w.cell? ⟨b,1,none⟩=some g/\w.cell? ⟨b,2,none⟩=some j/\w.cell? ⟨b,3,none⟩=some m/\w.cell? ⟨b,4,none⟩=some q/\w.cell? ⟨b,5,none⟩=some v/\w.cell? ⟨b,6,none⟩=some x/\w.cell? ⟨b,7,none⟩=some y/\w.cell? ⟨b,8,none⟩=some z/\w.cell? ⟨b,9,none⟩=some A)/\∀o,w.frozen? ⟨b,o,none⟩=false:=by
 refine⟨⟨?_,?_,?_,?_,?_,?_,?_,?_,?_,?_⟩,?_⟩
 all_goals first|(intro o;simp[World.frozen?,h])|simp[World.cell?,h]
def ZfW(w:World)(v0 v1 v2 v3 v4 v5 v6 v7 v8 v9:Value)(len:Nat)(v:Value)(wr:World):Prop :=
 ∃i:Nat,v=.int .i64 (i:Int)/\i<=len/\wr.1[w.1.size]?=some (.cells #[v0,v1,v2,v3,v4,v5,v6,v7,v8,v9] 113 (0,0))/\Below w.1.size w wr
theorem Zbq(nm nm1 q:ByteArray)(ps:List ByteArray)(H:Option Addr)(U:Nat)(y R T L I M:Int)(J:Option Addr)(len cap:Nat)(z:Row qk 1 w ps H)(Y:ps.length<=1000) :
  Calls prog 130 #[E5 nm nm1 ps H U y R T L I M J len cap,.string q] w fun x w'=>qj x/\Below w.1.size w w':=by
 have D:=hid z;clear z;unfold E5;go_enter func130,ntmps130;go_wp2;go_loopw [5] (fun v wr=>Hid (ZfW w (.string nm) (.slice H ps.length U) (.int .i64 y) (.int .i64 R) (.string nm1) (.int .i64 T) (.int .i64 L) (.slice J len cap) (.int .i64 I) (.int .i64 M) ps.length v wr)) (fun i _=>ps.length-(intOf i).toNat)
 case atStart=>exact⟨0,rfl,Zk _,Yx w _,bq⟩
 obtain⟨i,rfl,hi,f,hbel⟩:=hrel.o;clear hrel;obtain⟨⟨x0,X,x2,x3,x4,x5,x6,x7,x8,x9⟩,xf⟩:=Q5 f;have C:=hid f;have HBEL:=hid hbel;by_cases F:i<ps.length
 .have j:=D.o.below Q0 hbel;obtain⟨Z,po,G,V,g,m⟩:=j.at F;rw[G] at X;rw[Z7] at g;generalize ps[i]=s at g m;have E:(i:Int)<(ps.length:Int):=oq;have O:=Jn s q;clear hbel f j m;by_cases A:s=q
  .rw[ZZ A] at O;clear A;go_wp2;go_ret;exact⟨⟨_,rfl⟩,HBEL.o⟩
  rw[ZY A] at O;clear A;go_wp2;exact⟨⟨i+1,by go_num,oq,C.o,HBEL.o⟩,by simp[intOf];omega⟩
 have E:(i:Int)=(ps.length:Int):=oq;clear hbel f;go_wp2;go_ret;exact⟨⟨_,rfl⟩,HBEL.o⟩
def Jl(e:PE):Prop:=∀(w:World)(nm nm1:ByteArray)(ps:List ByteArray)(pa:Option Addr)(pc:Nat)(bud k1 n1 d1 a1 fa:Int)(ad':Option Addr)(len cap':Nat)(ad:Option Addr)(cap:Nat),Row qk 1 w ps pa->ps.length<=1000->AE w e ad cap ->
 Calls prog 72 #[E5 nm nm1 ps pa pc bud k1 n1 d1 a1 fa ad' len cap',.agg #[.int .i64 e.k,.string e.nm,.int .i64 e.n,.int .i64 e.d,.slice ad e.args.len cap,.int .i64 e.a]] w fun x w'=>qj x/\Below w.1.size w w'
def ZbS(w:World)(e:PE)(ad:Option Addr)(cap:Nat)(v0 v1 v2 v3 v4 v5 v6 v7 v8 v9:Value)(v:Value)(wr:World):Prop :=
 ∃(i:Nat)(rest:PL),v=.int .i64 (i:Int)/\Qq wr ad e.args rest i/\wr.1[w.1.size]?=some (.cells #[v0,v1,v2,v3,v4,v5,v6,v7,v8,v9] 113 (0,0)) /\
  wr.1[w.1.size+1]?=some (.cells #[.int .i64 e.k,.string e.nm,.int .i64 e.n,.int .i64 e.d,.slice ad e.args.len cap,.int .i64 e.a] 111 (0,0))/\Below w.1.size w wr
theorem uw(e:PE)(ih:∀e':PE,e'.args.sz<e.args.sz->Jl e'):Jl e:=by
 intro w nm nm1 ps U pc D k1 n1 d1 Z fa C len g ad cap ag ab aa;obtain⟨k,T,n,d,args,a⟩:=e;have af:=aa.len;simp only at af ⊢;have HA:=hid aa;have ac:=hid ih;have Y:=hid ag;have ae:=hid (fun(w':World) (h:Row qk 1 w' ps U)=>Zbq (w:=w') nm nm1 T ps U pc D k1 n1 d1 Z fa C len g h ab);unfold E5 at ae ⊢;clear aa ih ag;have main:∀(W:World),W.1[w.1.size]?=some (.cells #[.string nm,.slice U ps.length pc,.int .i64 D,.int .i64 k1,.string nm1,.int .i64 n1,.int .i64 d1,.slice C len g,.int .i64 Z,.int .i64 fa] 113 (0,0)) ->
   W.1[w.1.size+1]?=some (.cells #[.int .i64 k,.string T,.int .i64 n,.int .i64 d,.slice ad args.len cap,.int .i64 a] 111 (0,0))->Below w.1.size w W->ZbS w ⟨k,T,n,d,args,a⟩ ad cap (.string nm) (.slice U ps.length pc) (.int .i64 D) (.int .i64 k1) (.string nm1) (.int .i64 n1) (.int .i64 d1) (.slice C len g) (.int .i64 Z) (.int .i64 fa) (.int .i64 0) W:=fun W h1 h2 h3 =>
  ⟨0,args,rfl,(Qq.start HA.o.args).below h3,h1,h2,h3⟩
 have H:=hid main;clear main;by_cases hk:k=11
 .subst hk;go_enter func72,ntmps72;go_wp2_with (go_at_call 130;go_loud (refine(ae.o _ (Y.o.below Q0 bq)).mono ?_;rintro x w1 ⟨⟨b,rfl⟩,hb1⟩;obtain⟨ah,ai⟩:=YD hb1;cases b))
  all_goals (try (go_ret;exact⟨⟨_,rfl⟩,bq⟩))
  go_loopw [5] (fun v wr=>Hid (ZbS w ⟨11,T,n,d,args,a⟩ ad cap (.string nm) (.slice U ps.length pc) (.int .i64 D) (.int .i64 k1) (.string nm1) (.int .i64 n1) (.int .i64 d1) (.slice C len g) (.int .i64 Z) (.int .i64 fa) v wr)) (fun i _=>args.len-(intOf i).toNat)
  case atStart=>exact H.o _ ((hb1.block _ oq).trans ((Za _ _ _ (by simp)).trans (Yx w _))) ((hb1.block _ oq).trans (by simpa using Yx (w.alloc _) _)) bq
  obtain⟨i,rest,rfl,f,q,j,hbel⟩:=hrel.o;clear hrel;simp only at j;obtain⟨⟨x0,x1,x2,x3,x4,x5,x6,x7,x8,x9⟩,xf⟩:=Q5 q;obtain⟨⟨e0,e1,e2,e3,e4,e5⟩,ef⟩:=Xr j;have I:=hid q;have G:=hid j;have HBEL:=hid hbel;have F:=f.1;simp only at F;have m:=hid f;have A:=Zb q;have z:=Zb j;clear q j f
  cases rest with
  | nil =>
   have O:(i:Int)=(args.len:Int):=by simp only[PL.len] at F;omega
   clear hbel;go_wp2;go_ret;exact⟨⟨_,rfl⟩,HBEL.o⟩
  | cons k9 nm9 n9 d9 args9 a9 tl =>
   have O:(i:Int)<(args.len:Int):=by simp only[PL.len] at F;omega
   obtain⟨b,o,rfl,hb,h0,h1,h2,h3,h5,hn,⟨J,y,h4,E,L,M⟩,ht⟩:=m.o.2.2.resolve_left (by intro h;cases h);have R:=m.o.2.1;simp only[PL.sz] at R;have V:=hid (show AE wr ⟨k9,nm9,n9,d9,args9,a9⟩ J y from ⟨hn,⟨E,L⟩,M⟩);have X:=hid (fun(W':World) (hW:Below wr.1.size wr W')=>ac.o ⟨k9,nm9,n9,d9,args9,a9⟩ (by show args9.sz<args.sz;omega) W' nm nm1 ps U pc D k1 n1 d1 Z fa C len g J y ((Y.o.below Q0 HBEL.o).below Q0 hW) ab (V.o.below hW));unfold E5 at X;simp only at X;clear hbel hn M ht;go_wp2;go_region_with (go_at_call 72;refine(X.o _ bq).mono ?_;rintro x w2 ⟨⟨b2,rfl⟩,hb2⟩)
   all_goals go_wp2
   all_goals first
    | (go_ret;exact⟨⟨_,rfl⟩,bq⟩)
    | (go_roundw;(case rel=>first|exact⟨i+1,tl,by go_num,m.o.tail.below bq,(hb2.block _ A).trans I.o,(hb2.block _ z).trans G.o,bq⟩|((repeat apply Yf);exact⟨⟨i+1,tl,by go_num,m.o.tail.below bq,(hb2.block _ A).trans I.o,(hb2.block _ z).trans G.o,bq⟩,rfl⟩));(case measure=>simp[intOf];omega))
 have aj:(k == 11)=false:=ZX.2 hk;clear hk;go_enter func72,ntmps72;go_wp2;go_loopw [5] (fun v wr=>Hid (ZbS w ⟨k,T,n,d,args,a⟩ ad cap (.string nm) (.slice U ps.length pc) (.int .i64 D) (.int .i64 k1) (.string nm1) (.int .i64 n1) (.int .i64 d1) (.slice C len g) (.int .i64 Z) (.int .i64 fa) v wr)) (fun i _=>args.len-(intOf i).toNat)
 case atStart=>exact H.o _ ((Za _ _ _ (by simp)).trans (Yx w _)) (by simpa using Yx (w.alloc _) _) bq
 obtain⟨i,rest,rfl,f,q,j,hbel⟩:=hrel.o;clear hrel;simp only at j;obtain⟨⟨x0,x1,x2,x3,x4,x5,x6,x7,x8,x9⟩,xf⟩:=Q5 q;obtain⟨⟨e0,e1,e2,e3,e4,e5⟩,ef⟩:=Xr j;have I:=hid q;have G:=hid j;have HBEL:=hid hbel;have F:=f.1;simp only at F;have m:=hid f;have A:=Zb q;have z:=Zb j;clear q j f
 cases rest with
 | nil =>
  have O:(i:Int)=(args.len:Int):=by simp only[PL.len] at F;omega
  clear hbel;go_wp2;go_ret;exact⟨⟨_,rfl⟩,HBEL.o⟩
 | cons k9 nm9 n9 d9 args9 a9 tl =>
  have O:(i:Int)<(args.len:Int):=by simp only[PL.len] at F;omega
  obtain⟨b,o,rfl,hb,h0,h1,h2,h3,h5,hn,⟨J,y,h4,E,L,M⟩,ht⟩:=m.o.2.2.resolve_left (by intro h;cases h);have R:=m.o.2.1;simp only[PL.sz] at R;have V:=hid (show AE wr ⟨k9,nm9,n9,d9,args9,a9⟩ J y from ⟨hn,⟨E,L⟩,M⟩);have X:=hid (fun(W':World) (hW:Below wr.1.size wr W')=>ac.o ⟨k9,nm9,n9,d9,args9,a9⟩ (by show args9.sz<args.sz;omega) W' nm nm1 ps U pc D k1 n1 d1 Z fa C len g J y ((Y.o.below Q0 HBEL.o).below Q0 hW) ab (V.o.below hW));unfold E5 at X;simp only at X;clear hbel hn M ht;go_wp2;go_region_with (go_at_call 72;refine(X.o _ bq).mono ?_;rintro x w2 ⟨⟨b2,rfl⟩,hb2⟩)
  all_goals go_wp2
  all_goals first
   | (go_ret;exact⟨⟨_,rfl⟩,bq⟩)
   | (go_roundw;(case rel=>first|exact⟨i+1,tl,by go_num,m.o.tail.below bq,(hb2.block _ A).trans I.o,(hb2.block _ z).trans G.o,bq⟩|((repeat apply Yf);exact⟨⟨i+1,tl,by go_num,m.o.tail.below bq,(hb2.block _ A).trans I.o,(hb2.block _ z).trans G.o,bq⟩,rfl⟩));(case measure=>simp[intOf];omega))
theorem ZaG(e:PE):Jl e:=by
 suffices h:∀(N:Nat)(e:PE),e.args.sz<N->Jl e from h _ e (ZV _)
 intro N
 induction N with
 | zero=>intro e h;omega
 | succ N ih=>intro e h;exact uw e (fun e' h'=>ih e' oq)
def nm1(p:PG)(k:Int)(nm:ByteArray):Bool:=decide (k≠1)||decide (0<=YT p nm)
def nmL(p:PG):PL->Bool
 | .nil=>true
 | .cons k nm n d args a tl=>(nm1 p k nm&&nmL p args)&&nmL p tl
def nd1(p:PG)(k:Int)(nm:ByteArray)(len:Nat):Bool:=decide (k≠2)||(match XW ND.nm nm p.nodes 0 with
 | some i=>decide ((p.nodes[i]?).map (fun x=>x.ps.length)=some len)
 | none=>false)
def nq1(p:PG)(k:Int)(nm:ByteArray)(len:Nat):Bool:=nm1 p k nm&&nd1 p k nm len
def nqL(p:PG):PL->Bool
 | .nil=>true
 | .cons k nm n d args a tl=>(nq1 p k nm args.len&&nqL p args)&&nqL p tl
theorem Zdr{p:PG}{k:Int}{nm:ByteArray}{len:Nat}(h:nq1 p k nm len=true):nm1 p k nm=true:=by
 unfold nq1 at h;rw[ZB] at h;exact h.1
theorem kN{p:PG}:∀l:PL,nqL p l=true->nmL p l=true
 | .nil,_=>rfl
 | .cons k nm n d args a tl,h=>by
  rw[nqL,ZB,ZB] at h;rw[nmL,Zdr h.1.1,kN args h.1.2,kN tl h.2];rfl
def El(p:PG)(e:PE)(x:Ending):Prop:=∃b:Bool,x=.returned (.bool b)/\(b=true->nq1 p e.k e.nm e.args.len=true/\nqL p e.args=true)
def V7(p:PG)(an ai af ao:Option Addr)(cn ci cf co:Nat)(e:PE):Prop:=∀(w:World)(ad:Option Addr)(cap:Nat),AP w p an ai af ao cn ci cf co->AE w e ad cap ->
 Calls prog 74 #[pv p an ai af ao cn ci cf co,.agg #[.int .i64 e.k,.string e.nm,.int .i64 e.n,.int .i64 e.d,.slice ad e.args.len cap,.int .i64 e.a]] w fun x w'=>El p e x/\Below w.1.size w w'
def gP(w:World)(p:PG)(an ai af ao:Option Addr)(cn ci cf co:Nat)(e:PE)(ad:Option Addr)(cap:Nat)(v:Value)(wr:World):Prop :=
 ∃(i:Nat)(rest:PL),v=.int .i64 (i:Int)/\Qq wr ad e.args rest i/\(nqL p rest=true->nqL p e.args=true)/\Qh wr w.1.size p an ai af ao cn ci cf co /\
  wr.1[w.1.size+1]?=some (.cells #[.int .i64 e.k,.string e.nm,.int .i64 e.n,.int .i64 e.d,.slice ad e.args.len cap,.int .i64 e.a] 111 (0,0))/\Below w.1.size w wr
theorem uO(p:PG)(an ai af ao:Option Addr)(cn ci cf co:Nat)(be:p.nodes.length<=1000)(bf:p.ins.length<=1000)(bg:p.flows.length<=1000)(e:PE)(ih:∀e':PE,e'.args.sz<e.args.sz->V7 p an ai af ao cn ci cf co e'):V7 p an ai af ao cn ci cf co e:=by
 intro w ad cap hp ar;obtain⟨k,m,n,d,args,a⟩:=e;have av:=ar.len;simp only at av ⊢;have HA:=hid ar;have aq:=hid ih;have HP:=hid hp;have aa:=hid (fun(w':World) (h:Below w.1.size w w')=>Kb (w:=w') p an ai af ao cn ci cf co m (HP.o.below h) bf bg);have X:=hid (fun(w':World) (h:Below w.1.size w w')=>jZ (w:=w') p an ai af ao cn ci cf co m (HP.o.below h) be);unfold pv at aa X ⊢;have main:∀(W:World),Qh W w.1.size p an ai af ao cn ci cf co->W.1[w.1.size+1]?=some (.cells #[.int .i64 k,.string m,.int .i64 n,.int .i64 d,.slice ad args.len cap,.int .i64 a] 111 (0,0))->Below w.1.size w W ->
   gP w p an ai af ao cn ci cf co ⟨k,m,n,d,args,a⟩ ad cap (.int .i64 0) W:=fun W h1 h2 h3=>⟨0,args,rfl,(Qq.start HA.o.args).below h3,fun h=>h,h1,h2,h3⟩
 have V:=hid main;clear main ar ih hp;by_cases hk:k=1
 .subst hk;by_cases aj:YT p m<0
  .have ac:decide (YT p m<0)=true:=ZZ aj;generalize hfi:YT p m=fi at aa aj ac;clear hfi;go_enter func74,ntmps74;go_wp2_with (go_at_call 73;go_loud (refine(aa.o _ bq).mono ?_;rintro x I ⟨rfl,hb1⟩;obtain⟨ag,ah⟩:=YD hb1;have q1:w.1.size<I.1.size:=Yz hb1 oq;have q2:w.1.size+1<I.1.size:=Yz hb1 oq));go_ret;exact⟨⟨false,rfl,fun h=>by cases h⟩,bq⟩
  have am:0<=YT p m:=oq;have ba:=hid am;have ac:decide (YT p m<0)=false:=ZY aj;generalize hfi:YT p m=fi at aa am aj ac;clear hfi;go_enter func74,ntmps74;go_wp2_with (go_at_call 73;go_loud (refine(aa.o _ bq).mono ?_;rintro x I ⟨rfl,hb1⟩;obtain⟨ag,ah⟩:=YD hb1;have q1:w.1.size<I.1.size:=Yz hb1 oq;have q2:w.1.size+1<I.1.size:=Yz hb1 oq));have ab:=hid (show nq1 p 1 m args.len=true from by unfold nq1 nm1 nd1;simp;exact ba.o);go_loopw [6] (fun v wr=>Hid (gP w p an ai af ao cn ci cf co ⟨1,m,n,d,args,a⟩ ad cap v wr)) (fun i _=>args.len-(intOf i).toNat)
  case atStart=>exact V.o _ ((hb1.block _ oq).trans ((Za _ _ _ (by simp)).trans (Yx w _))) ((hb1.block _ oq).trans (by simpa using Yx (w.alloc _) _)) bq
  obtain⟨i,rest,rfl,f,y,z,q,hbel⟩:=hrel.o;clear hrel;simp only at q y;unfold Qh at z;obtain⟨⟨z0,z1,z2,z3⟩,zf⟩:=Yy z;obtain⟨⟨e0,e1,e2,e3,e4,e5⟩,ef⟩:=Xr q;have L:=hid z;have J:=hid q;have HBEL:=hid hbel;have F:=hid y;have H:=f.1;simp only at H;have A:=hid f;have E:=Zb z;have D:=Zb q;clear z q f y
  cases rest with
  | nil =>
   have T:(i:Int)=(args.len:Int):=by simp only[PL.len] at H;omega
   clear hbel;go_wp2;go_ret;exact⟨⟨true,rfl,fun _=>⟨ab.o,F.o rfl⟩⟩,HBEL.o⟩
  | cons k9 nm9 n9 d9 args9 a9 tl =>
   have T:(i:Int)<(args.len:Int):=by simp only[PL.len] at H;omega
   obtain⟨b,o,rfl,hb,h0,h1,h2,h3,h5,hn,⟨M,C,h4,G,O,R⟩,ht⟩:=A.o.2.2.resolve_left (by intro h;cases h);have U:=A.o.2.1;simp only[PL.sz] at U;have Y:=hid (show AE wr ⟨k9,nm9,n9,d9,args9,a9⟩ M C from ⟨hn,⟨G,O⟩,R⟩);have Z:=hid (fun(W':World) (hW:Below wr.1.size wr W')=>aq.o ⟨k9,nm9,n9,d9,args9,a9⟩ (by show args9.sz<args.sz;omega) W' M C ((HP.o.below HBEL.o).below hW) (Y.o.below hW));unfold pv El at Z;simp only at Z;clear hbel hn R ht;go_wp2;go_region_with (go_at_call 74;refine(Z.o _ bq).mono ?_;rintro x w2 ⟨⟨b2,rfl,g⟩,hb2⟩)
   all_goals cases b2
   all_goals go_wp2
   all_goals first
    | (go_ret;exact⟨⟨false,rfl,fun h=>by cases h⟩,bq⟩)
    | (go_roundw;(case rel=>first|exact⟨i+1,tl,by go_num,A.o.tail.below bq,fun h=>F.o (by rw[nqL,(g rfl).1,(g rfl).2,h];rfl),(hb2.block _ E).trans L.o,(hb2.block _ D).trans J.o,bq⟩|((repeat apply Yf);exact⟨⟨i+1,tl,by go_num,A.o.tail.below bq,fun h=>F.o (by rw[nqL,(g rfl).1,(g rfl).2,h];rfl),(hb2.block _ E).trans L.o,(hb2.block _ D).trans J.o,bq⟩,rfl⟩));(case measure=>simp[intOf];omega))
 have bp:(k == 1)=false:=ZX.2 hk;have bc:=hid hk;by_cases ak:k=2
 .subst ak;clear hk
  cases hfs:XW ND.nm m p.nodes 0 with
  | none =>
   have ae:Qo p m=-1:=by unfold Qo;rw[hfs]
   rw[ae] at X;clear hfs ae;go_enter func74,ntmps74;go_wp2_with (go_at_call 71;go_loud (refine(X.o _ bq).mono ?_;rintro x I ⟨rfl,hb1⟩;obtain⟨ag,ah⟩:=YD hb1;have q1:w.1.size<I.1.size:=Yz hb1 oq;have q2:w.1.size+1<I.1.size:=Yz hb1 oq));go_quiet (fail);go_wp2;go_ret;exact⟨⟨false,rfl,fun h=>by cases h⟩,bq⟩
  | some ni =>
   have ae:Qo p m=(ni:Int):=by unfold Qo;rw[hfs]
   rw[ae] at X;obtain⟨j,hj,xx,ay,_⟩:=QS _ _ _ _ _ hfs;obtain rfl:ni=j:=oq;clear hj;have ax:ni<p.nodes.length:=(ZA.1 ay).1;obtain⟨bb,oo,rfl,al,aw⟩:=HP.o.nodes.at ax;obtain⟨_,⟨pa,pc,y1,bi,br,_⟩,_⟩:=aw;have bo:(ni:Int)<(p.nodes.length:Int):=oq;have az:=hid hfs;generalize hplq:p.nodes[ni].ps.length=pl at y1 bi;have bd:=hid hplq;clear hfs ae ay hplq;by_cases bh:pl=args.len
   .have ap:((pl:Int) == (args.len:Int))=true:=by rw[beq_iff_eq];omega
    subst bh;go_enter func74,ntmps74;go_wp2_with (go_at_call 71;go_loud (refine(X.o _ bq).mono ?_;rintro x I ⟨rfl,hb1⟩;obtain⟨ag,ah⟩:=YD hb1;have q1:w.1.size<I.1.size:=Yz hb1 oq;have q2:w.1.size+1<I.1.size:=Yz hb1 oq;have bj:I.cell? ⟨bb,oo+ni*10+1,none⟩=_:=(show Below w.1.size w I from bq).cell (p:=⟨bb,oo+ni*10+1,none⟩) al |>.trans y1));go_quiet (fail);go_wp2;have ab:=hid (show nq1 p 2 m args.len=true from by unfold nq1 nm1 nd1;rw[az.o];simp[bd.o,Ze ax]);go_loopw [6] (fun v wr=>Hid (gP w p (some ⟨bb,oo,none⟩) ai af ao cn ci cf co ⟨2,m,n,d,args,a⟩ ad cap v wr)) (fun i _=>args.len-(intOf i).toNat)
    case atStart=>exact V.o _ ((hb1.block _ oq).trans ((Za _ _ _ (by simp)).trans (Yx w _))) ((hb1.block _ oq).trans (by simpa using Yx (w.alloc _) _)) bq
    obtain⟨i,rest,rfl,f,y,z,q,hbel⟩:=hrel.o;clear hrel;simp only at q y;unfold Qh at z;obtain⟨⟨z0,z1,z2,z3⟩,zf⟩:=Yy z;obtain⟨⟨e0,e1,e2,e3,e4,e5⟩,ef⟩:=Xr q;have L:=hid z;have J:=hid q;have HBEL:=hid hbel;have F:=hid y;have H:=f.1;simp only at H;have A:=hid f;have E:=Zb z;have D:=Zb q;clear z q f y
    cases rest with
    | nil =>
     have T:(i:Int)=(args.len:Int):=by simp only[PL.len] at H;omega
     clear hbel;go_wp2;go_ret;exact⟨⟨true,rfl,fun _=>⟨ab.o,F.o rfl⟩⟩,HBEL.o⟩
    | cons k9 nm9 n9 d9 args9 a9 tl =>
     have T:(i:Int)<(args.len:Int):=by simp only[PL.len] at H;omega
     obtain⟨b,o,rfl,hb,h0,h1,h2,h3,h5,hn,⟨M,C,h4,G,O,R⟩,ht⟩:=A.o.2.2.resolve_left (by intro h;cases h);have U:=A.o.2.1;simp only[PL.sz] at U;have Y:=hid (show AE wr ⟨k9,nm9,n9,d9,args9,a9⟩ M C from ⟨hn,⟨G,O⟩,R⟩);have Z:=hid (fun(W':World) (hW:Below wr.1.size wr W')=>aq.o ⟨k9,nm9,n9,d9,args9,a9⟩ (by show args9.sz<args.sz;omega) W' M C ((HP.o.below HBEL.o).below hW) (Y.o.below hW));unfold pv El at Z;simp only at Z;clear hbel hn R ht;go_wp2;go_region_with (go_at_call 74;refine(Z.o _ bq).mono ?_;rintro x w2 ⟨⟨b2,rfl,g⟩,hb2⟩)
     all_goals cases b2
     all_goals go_wp2
     all_goals first
      | (go_ret;exact⟨⟨false,rfl,fun h=>by cases h⟩,bq⟩)
      | (go_roundw;(case rel=>first|exact⟨i+1,tl,by go_num,A.o.tail.below bq,fun h=>F.o (by rw[nqL,(g rfl).1,(g rfl).2,h];rfl),(hb2.block _ E).trans L.o,(hb2.block _ D).trans J.o,bq⟩|((repeat apply Yf);exact⟨⟨i+1,tl,by go_num,A.o.tail.below bq,fun h=>F.o (by rw[nqL,(g rfl).1,(g rfl).2,h];rfl),(hb2.block _ E).trans L.o,(hb2.block _ D).trans J.o,bq⟩,rfl⟩));(case measure=>simp[intOf];omega))
   have ap:((pl:Int) == (args.len:Int))=false:=by rw[ZX];omega
   have bm:((pl:Int) != (args.len:Int))=true:=by rw[bne,ap];rfl
   have bn:decide ((ni:Int)<0)=false:=ZY oq;have bl:¬(pl:Int)=(args.len:Int):=oq;go_enter func74,ntmps74;go_wp2_with (go_at_call 71;go_loud (refine(X.o _ bq).mono ?_;rintro x I ⟨rfl,hb1⟩;obtain⟨ag,ah⟩:=YD hb1;have q1:w.1.size<I.1.size:=Yz hb1 oq;have q2:w.1.size+1<I.1.size:=Yz hb1 oq;have bj:I.cell? ⟨bb,oo+ni*10+1,none⟩=_:=(show Below w.1.size w I from bq).cell (p:=⟨bb,oo+ni*10+1,none⟩) al |>.trans y1));go_quiet (fail);go_wp2
   all_goals first|(go_ret;exact⟨⟨false,rfl,fun h=>by cases h⟩,bq⟩)|(exfalso;omega)
 have bk:(k == 2)=false:=ZX.2 ak;have au:=hid ak;clear hk ak;go_enter func74,ntmps74;go_wp2;have ab:=hid (show nq1 p k m args.len=true from by unfold nq1 nm1 nd1;simp[bc.o,au.o]);go_loopw [6] (fun v wr=>Hid (gP w p an ai af ao cn ci cf co ⟨k,m,n,d,args,a⟩ ad cap v wr)) (fun i _=>args.len-(intOf i).toNat)
 case atStart=>exact V.o _ ((Za _ _ _ (by simp)).trans (Yx w _)) (by simpa using Yx (w.alloc _) _) bq
 obtain⟨i,rest,rfl,f,y,z,q,hbel⟩:=hrel.o;clear hrel;simp only at q y;unfold Qh at z;obtain⟨⟨z0,z1,z2,z3⟩,zf⟩:=Yy z;obtain⟨⟨e0,e1,e2,e3,e4,e5⟩,ef⟩:=Xr q;have L:=hid z;have J:=hid q;have HBEL:=hid hbel;have F:=hid y;have H:=f.1;simp only at H;have A:=hid f;have E:=Zb z;have D:=Zb q;clear z q f y
 cases rest with
 | nil =>
  have T:(i:Int)=(args.len:Int):=by simp only[PL.len] at H;omega
  clear hbel;go_wp2;go_ret;exact⟨⟨true,rfl,fun _=>⟨ab.o,F.o rfl⟩⟩,HBEL.o⟩
 | cons k9 nm9 n9 d9 args9 a9 tl =>
  have T:(i:Int)<(args.len:Int):=by simp only[PL.len] at H;omega
  obtain⟨b,o,rfl,hb,h0,h1,h2,h3,h5,hn,⟨M,C,h4,G,O,R⟩,ht⟩:=A.o.2.2.resolve_left (by intro h;cases h);have U:=A.o.2.1;simp only[PL.sz] at U;have Y:=hid (show AE wr ⟨k9,nm9,n9,d9,args9,a9⟩ M C from ⟨hn,⟨G,O⟩,R⟩);have Z:=hid (fun(W':World) (hW:Below wr.1.size wr W')=>aq.o ⟨k9,nm9,n9,d9,args9,a9⟩ (by show args9.sz<args.sz;omega) W' M C ((HP.o.below HBEL.o).below hW) (Y.o.below hW));unfold pv El at Z;simp only at Z;clear hbel hn R ht;go_wp2;go_region_with (go_at_call 74;refine(Z.o _ bq).mono ?_;rintro x w2 ⟨⟨b2,rfl,g⟩,hb2⟩)
  all_goals cases b2
  all_goals go_wp2
  all_goals first
   | (go_ret;exact⟨⟨false,rfl,fun h=>by cases h⟩,bq⟩)
   | (go_roundw;(case rel=>first|exact⟨i+1,tl,by go_num,A.o.tail.below bq,fun h=>F.o (by rw[nqL,(g rfl).1,(g rfl).2,h];rfl),(hb2.block _ E).trans L.o,(hb2.block _ D).trans J.o,bq⟩|((repeat apply Yf);exact⟨⟨i+1,tl,by go_num,A.o.tail.below bq,fun h=>F.o (by rw[nqL,(g rfl).1,(g rfl).2,h];rfl),(hb2.block _ E).trans L.o,(hb2.block _ D).trans J.o,bq⟩,rfl⟩));(case measure=>simp[intOf];omega))
theorem ZaV(p:PG)(an g f j:Option Addr)(v q m x:Nat)(y:p.nodes.length<=1000)(z:p.ins.length<=1000)(A:p.flows.length<=1000)(e:PE):V7 p an g f j v q m x e:=by
 suffices h:∀(N:Nat)(e:PE),e.args.sz<N->V7 p an g f j v q m x e from h _ e (ZV _)
 intro N
 induction N with
 | zero=>intro e h;omega
 | succ N ih=>intro e h;exact uO p an g f j v q m x y z A e (fun e' h'=>ih e' oq)
