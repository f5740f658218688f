/- Parts of the proof. -/
import Derived.Test.YtgigilkpndhddaaGreatDoorV06
set_option linter.all false
set_option maxRecDepth 100000
set_option maxHeartbeats 16000000
namespace Go.Proofs.YtgigilkpndhddaaGreatDoor.syn
open Tryz
open Go.RowKit
def XX{α:Type}(f:α→ByteArray)(nm:ByteArray):List α→Nat→Option Nat
 | [],_=>none
 | x::l,i=>if f x=nm then some i else XX f nm l (i+1)
theorem QP{α:Type}(f:α→ByteArray)(nm:ByteArray):∀(l:List α)(i k:Nat),XX f nm l i=some k→∃j,k=i+j∧∃x,l[j]?=some x∧f x=nm:=by
 intro l
 induction l with
 | nil=>intro i k h;cases h
 | cons x l ih =>
  intro i k h;unfold XX at h;by_cases g:f x=nm
  ·rw[Z2 g] at h;injection h with h;exact⟨0,oq,x,rfl,g⟩
  rw[Z1 g] at h;obtain⟨j,v,y,m,q⟩:=ih (i+1) k h;exact⟨j+1,oq,y,by simpa using m,q⟩
def YS(p:PG)(nm:ByteArray):Int:=match XX IN.nm nm p.ins 0 with
 | some i=>(i:Int)
 | none=>match XX FL.nm nm p.flows 0 with
  | some i=>(p.ins.length:Int)+(i:Int)
  | none=>-1
def Qq(p:PG)(nm:ByteArray):Int:=match XX ND.nm nm p.nodes 0 with
 | some i=>(i:Int)
 | none=>-1
def ZaW(w:World)(p:PG)(an ai af ao:Option Addr)(cn ci cf co:Nat)(len:Nat)(S:Nat→Prop)(v:Value)(wr:World):Prop :=
 ∃i:Nat,v=.int .i64 (i:Int)∧i≤len∧Qk wr w.heap.size p an ai af ao cn ci cf co∧Below w.heap.size w wr∧S i
theorem U0{w:World}(p:PG)(an R O T:Option Addr)(X V U Y:Nat)(nm:ByteArray)(hp:AP w p an R O T X V U Y)(h1:p.ins.length≤1000)(h2:p.flows.length≤1000) :
  Calls prog 46 #[pv p an R O T X V U Y,.string nm] w fun x w'=>x=.returned (.int .i64 (YS p nm))∧Below w.heap.size w w':=by
 obtain⟨m,ins,flows,E⟩:=p;have HI:=hid hp.ins;have HF:=hid hp.flows;clear hp;simp only at h1 h2;unfold pv;simp only;obtain⟨r,hr⟩:=ez (YS ⟨m,ins,flows,E⟩ nm);rw[hr];have Z:=hid hr;clear hr;go_enter func46,ntmps46;go_wp2;go_loopw [5] (fun v wr=>Hid (ZaW w ⟨m,ins,flows,E⟩ an R O T X V U Y ins.length (fun i=>XX IN.nm nm (ins.drop i) i=XX IN.nm nm ins 0) v wr)) (fun i _=>ins.length-(intOf i).toNat)
 case atStart=>exact⟨0,rfl,Zk _,Yw w _,bq,rfl⟩
 obtain⟨i,rfl,hi,g,hbel,f⟩:=hrel.out;clear hrel
 try simp only at f
 unfold Qk at g;simp only at g;obtain⟨⟨x0,x1,x2,x3⟩,xf⟩:=Yx g;have z:=hid g;have HBEL:=hid hbel;have q:=hbel.size;by_cases C:i<ins.length
 ·obtain⟨bb,oo,rfl,j,G⟩:=HI.out.at C;have ae:=Et w wr bb _ _ hbel j G;have ab:=Zd j q;obtain⟨L,_⟩:=ae;rw[ZN C,XX] at f;obtain⟨x,J⟩:=ez (ins[i]);rw[J] at L f;obtain⟨D,ag,ph,fa⟩:=x;simp only at L f;have I:=Jn D nm;have A:(i:Int)<(ins.length:Int):=oq;clear hbel g G J j;by_cases y:D=nm
  ·rw[Z2 y] at f;rw[Z0 y] at I;have H:r=(i:Int):=by rw[←Z.out];unfold YS;simp only;rw[←f]
   subst H;clear f y;go_wp2;go_ret;exact⟨rfl,HBEL.out⟩
  rw[Z1 y] at f;rw[ZZ y] at I;have M:=hid f;clear f y;go_wp2;refine⟨⟨i+1,by go_num,oq,z.out,HBEL.out,M.out⟩,by simp[intOf];omega⟩
 have A:i=ins.length:=oq;subst A;have M:=hid (show none=XX IN.nm nm ins 0 by rw[Yp] at f;exact f);clear f hbel g;go_wp2;go_loopw [6] (fun v wr=>Hid (ZaW w ⟨m,ins,flows,E⟩ an R O T X V U Y flows.length (fun i=>XX FL.nm nm (flows.drop i) i=XX FL.nm nm flows 0) v wr)) (fun i _=>flows.length-(intOf i).toNat)
 case atStart=>exact⟨0,rfl,Zk _,z.out,HBEL.out,rfl⟩
 clear z HBEL q x0 x1 x2 x3 xf;obtain⟨i,rfl,hi,g,hbel,f⟩:=hrel.out;clear hrel
 try simp only at f
 unfold Qk at g;simp only at g;obtain⟨⟨x0,x1,x2,x3⟩,xf⟩:=Yx g;have z:=hid g;have HBEL:=hid hbel;have q:=hbel.size;by_cases C:i<flows.length
 ·obtain⟨bb,oo,rfl,j,F⟩:=HF.out.at C;have ac:=Vs w wr bb _ _ hbel j F;have ab:=Zd j q;obtain⟨L,_⟩:=ac;rw[ZN C,XX] at f;obtain⟨x,J⟩:=ez (flows[i]);rw[J] at L f;obtain⟨D,ex,fa⟩:=x;simp only at L f;have I:=Jn D nm;have A:(i:Int)<(flows.length:Int):=oq;clear hbel g F J j;by_cases y:D=nm
  ·rw[Z2 y] at f;rw[Z0 y] at I;have H:r=(ins.length:Int)+(i:Int):=by rw[←Z.out];unfold YS;simp only;rw[←M.out];simp only;rw[←f]
   subst H;clear f y;go_wp2;go_ret;exact⟨rfl,HBEL.out⟩
  rw[Z1 y] at f;rw[ZZ y] at I;have aa:=hid f;clear f y;go_wp2;refine⟨⟨i+1,by go_num,oq,z.out,HBEL.out,aa.out⟩,by simp[intOf];omega⟩
 have A:i=flows.length:=oq;subst A;have h4:none=XX FL.nm nm flows 0:=by rw[Yp] at f;exact f
 have H:r=-1:=by rw[←Z.out];unfold YS;simp only;rw[←M.out];simp only;rw[←h4]
 subst H;clear f hbel g h4;go_wp2;go_ret;exact⟨rfl,HBEL.out⟩
theorem qM{w:World}(p:PG)(an H G I:Option Addr)(M L J O:Nat)(nm:ByteArray)(Y:AP w p an H G I M L J O)(h1:p.nodes.length≤1000) :
  Calls prog 44 #[pv p an H G I M L J O,.string nm] w fun x w'=>x=.returned (.int .i64 (Qq p nm))∧Below w.heap.size w w':=by
 obtain⟨nodes,ins,j,y⟩:=p;have HN:=hid Y.nodes;clear Y;simp only at h1;unfold pv;simp only;obtain⟨r,U⟩:=ez (Qq ⟨nodes,ins,j,y⟩ nm);rw[U];have V:=hid U;clear U;go_enter func44,ntmps44;go_wp2;go_loopw [5] (fun v wr=>Hid (ZaW w ⟨nodes,ins,j,y⟩ an H G I M L J O nodes.length (fun i=>XX ND.nm nm (nodes.drop i) i=XX ND.nm nm nodes 0) v wr)) (fun i _=>nodes.length-(intOf i).toNat)
 case atStart=>exact⟨0,rfl,Zk _,Yw w _,bq,rfl⟩
 obtain⟨i,rfl,hi,g,hbel,f⟩:=hrel.out;clear hrel
 try simp only at f
 unfold Qk at g;simp only at g;obtain⟨⟨x0,x1,x2,x3⟩,xf⟩:=Yx g;have F:=hid g;have HBEL:=hid hbel;have D:=hbel.size;by_cases C:i<nodes.length
 ·obtain⟨bb,oo,rfl,m,q⟩:=HN.out.at C;have T:=Vl w wr bb _ _ hbel m q;have ab:=Zd m D;obtain⟨y0,_⟩:=T;rw[ZN C,XX] at f;obtain⟨x,hx⟩:=ez (nodes[i]);rw[hx] at y0 f;obtain⟨E,ps,aa,bd,fa⟩:=x;simp only at y0 f;have Z:=Jn E nm;have A:(i:Int)<(nodes.length:Int):=oq;clear hbel g q hx m;by_cases z:E=nm
  ·rw[Z2 z] at f;rw[Z0 z] at Z;have R:r=(i:Int):=by rw[←V.out];unfold Qq;simp only;rw[←f]
   subst R;clear f z;go_wp2;go_ret;exact⟨rfl,HBEL.out⟩
  rw[Z1 z] at f;rw[ZZ z] at Z;have HS:=hid f;clear f z;go_wp2;refine⟨⟨i+1,by go_num,oq,F.out,HBEL.out,HS.out⟩,by simp[intOf];omega⟩
 have A:i=nodes.length:=oq;subst A;have X:none=XX ND.nm nm nodes 0:=by rw[Yp] at f;exact f
 have R:r=-1:=by rw[←V.out];unfold Qq;simp only;rw[←X]
 subst R;clear f hbel g X;go_wp2;go_ret;exact⟨rfl,HBEL.out⟩
def xJ(x:Ending):Prop:=∃b:Bool,x=.returned (.bool b)
def EI(nm nm1:ByteArray)(ps:List ByteArray)(pa:Option Addr)(pc:Nat)(bud k1 n1 d1 a1 fa:Int)(ad:Option Addr)(len cap:Nat):Value :=
 .agg #[.string nm,.slice pa ps.length pc,.int .i64 bud,.int .i64 k1,.string nm1,.int .i64 n1,.int .i64 d1,.slice ad len cap,.int .i64 a1,.int .i64 fa]
theorem QZ{w:World}{b:Nat}{f g j m q v x y z A:Value}{t:TypeId}(h:w.heap[b]?=some (.cells #[f,g,j,m,q,v,x,y,z,A] t (0,0))) :
  (w.cell? ⟨b,0,none⟩=some f∧w.cell? ⟨b,1,none⟩=some g∧w.cell? ⟨b,2,none⟩=some j∧w.cell? ⟨b,3,none⟩=some m∧w.cell? ⟨b,4,none⟩=some q∧w.cell? ⟨b,5,none⟩=some v∧w.cell? ⟨b,6,none⟩=some x∧w.cell? ⟨b,7,none⟩=some y∧w.cell? ⟨b,8,none⟩=some z∧w.cell? ⟨b,9,none⟩=some A)∧∀o,w.frozen? ⟨b,o,none⟩=false:=by
 refine⟨⟨?_,?_,?_,?_,?_,?_,?_,?_,?_,?_⟩,?_⟩
 all_goals first|(intro o;simp[World.frozen?,h])|simp[World.cell?,h]
def ZeO(w:World)(v0 v1 v2 v3 v4 v5 v6 v7 v8 v9:Value)(len:Nat)(v:Value)(wr:World):Prop :=
 ∃i:Nat,v=.int .i64 (i:Int)∧i≤len∧wr.heap[w.heap.size]?=some (.cells #[v0,v1,v2,v3,v4,v5,v6,v7,v8,v9] 90 (0,0))∧Below w.heap.size w wr
theorem Zav{w:World}(nm nm1 q:ByteArray)(ps:List ByteArray)(H:Option Addr)(U:Nat)(y R T L I M:Int)(J:Option Addr)(len cap:Nat)(z:Row xK 1 w ps H)(Y:ps.length≤1000) :
  Calls prog 86 #[EI nm nm1 ps H U y R T L I M J len cap,.string q] w fun x w'=>xJ x∧Below w.heap.size w w':=by
 have D:=hid z;clear z;unfold EI;go_enter func86,ntmps86;go_wp2;go_loopw [5] (fun v wr=>Hid (ZeO w (.string nm) (.slice H ps.length U) (.int .i64 y) (.int .i64 R) (.string nm1) (.int .i64 T) (.int .i64 L) (.slice J len cap) (.int .i64 I) (.int .i64 M) ps.length v wr)) (fun i _=>ps.length-(intOf i).toNat)
 case atStart=>exact⟨0,rfl,Zk _,Yw w _,bq⟩
 obtain⟨i,rfl,hi,f,hbel⟩:=hrel.out;clear hrel;obtain⟨⟨x0,X,x2,x3,x4,x5,x6,x7,x8,x9⟩,xf⟩:=QZ f;have C:=hid f;have HBEL:=hid hbel;by_cases F:i<ps.length
 ·have j:=D.out.below QU hbel;obtain⟨Z,po,G,V,g,m⟩:=j.at F;rw[G] at X;rw[Z8] at g;generalize ps[i]=s at g m;have E:(i:Int)<(ps.length:Int):=oq;have O:=Jn s q;clear hbel f j m;by_cases A:s=q
  ·rw[Z0 A] at O;clear A;go_wp2;go_ret;exact⟨⟨_,rfl⟩,HBEL.out⟩
  rw[ZZ A] at O;clear A;go_wp2;exact⟨⟨i+1,by go_num,oq,C.out,HBEL.out⟩,by simp[intOf];omega⟩
 have E:(i:Int)=(ps.length:Int):=oq;clear hbel f;go_wp2;go_ret;exact⟨⟨_,rfl⟩,HBEL.out⟩
def Jh(e:PE):Prop:=∀(w:World)(nm nm1:ByteArray)(ps:List ByteArray)(pa:Option Addr)(pc:Nat)(bud k1 n1 d1 a1 fa:Int)(ad':Option Addr)(len cap':Nat)(ad:Option Addr)(cap:Nat),Row xK 1 w ps pa→ps.length≤1000→AE w e ad cap →
 Calls prog 45 #[EI nm nm1 ps pa pc bud k1 n1 d1 a1 fa ad' len cap',.agg #[.int .i64 e.k,.string e.nm,.int .i64 e.n,.int .i64 e.d,.slice ad e.args.len cap,.int .i64 e.a]] w fun x w'=>xJ x∧Below w.heap.size w w'
def ZaU(w:World)(e:PE)(ad:Option Addr)(cap:Nat)(v0 v1 v2 v3 v4 v5 v6 v7 v8 v9:Value)(v:Value)(wr:World):Prop :=
 ∃(i:Nat)(rest:PL),v=.int .i64 (i:Int)∧Qs wr ad e.args rest i∧wr.heap[w.heap.size]?=some (.cells #[v0,v1,v2,v3,v4,v5,v6,v7,v8,v9] 90 (0,0)) ∧
  wr.heap[w.heap.size+1]?=some (.cells #[.int .i64 e.k,.string e.nm,.int .i64 e.n,.int .i64 e.d,.slice ad e.args.len cap,.int .i64 e.a] 88 (0,0))∧Below w.heap.size w wr
theorem vv(e:PE)(ih:∀e':PE,e'.args.sz<e.args.sz→Jh e'):Jh e:=by
 intro w nm nm1 ps U pc D k1 n1 d1 Z fa C len g ad cap ag ab aa;obtain⟨k,T,n,d,args,a⟩:=e;have af:=aa.len;simp only at af ⊢;have HA:=hid aa;have ac:=hid ih;have Y:=hid ag;have ae:=hid (fun(w':World) (h:Row xK 1 w' ps U)=>Zav (w:=w') nm nm1 T ps U pc D k1 n1 d1 Z fa C len g h ab);unfold EI at ae ⊢;clear aa ih ag;have main:∀(W:World),W.heap[w.heap.size]?=some (.cells #[.string nm,.slice U ps.length pc,.int .i64 D,.int .i64 k1,.string nm1,.int .i64 n1,.int .i64 d1,.slice C len g,.int .i64 Z,.int .i64 fa] 90 (0,0)) →
   W.heap[w.heap.size+1]?=some (.cells #[.int .i64 k,.string T,.int .i64 n,.int .i64 d,.slice ad args.len cap,.int .i64 a] 88 (0,0))→Below w.heap.size w W→ZaU w ⟨k,T,n,d,args,a⟩ ad cap (.string nm) (.slice U ps.length pc) (.int .i64 D) (.int .i64 k1) (.string nm1) (.int .i64 n1) (.int .i64 d1) (.slice C len g) (.int .i64 Z) (.int .i64 fa) (.int .i64 0) W:=fun W h1 h2 h3 =>
  ⟨0,args,rfl,(Qs.start HA.out.args).below h3,h1,h2,h3⟩
 have H:=hid main;clear main;by_cases hk:k=11
 ·subst hk;go_enter func45,ntmps45;go_wp2_with (go_at_call 86;go_loud (refine(ae.out _ (Y.out.below QU bq)).mono ?_;rintro x w1 ⟨⟨b,rfl⟩,hb1⟩;obtain⟨ah,ai⟩:=YC hb1;cases b))
  all_goals (try (go_ret;exact⟨⟨_,rfl⟩,bq⟩))
  go_loopw [5] (fun v wr=>Hid (ZaU w ⟨11,T,n,d,args,a⟩ ad cap (.string nm) (.slice U ps.length pc) (.int .i64 D) (.int .i64 k1) (.string nm1) (.int .i64 n1) (.int .i64 d1) (.slice C len g) (.int .i64 Z) (.int .i64 fa) v wr)) (fun i _=>args.len-(intOf i).toNat)
  case atStart=>exact H.out _ ((hb1.block _ oq).trans ((Za _ _ _ (by simp)).trans (Yw w _))) ((hb1.block _ oq).trans (by simpa using Yw (w.alloc _) _)) bq
  obtain⟨i,rest,rfl,f,q,j,hbel⟩:=hrel.out;clear hrel;simp only at j;obtain⟨⟨x0,x1,x2,x3,x4,x5,x6,x7,x8,x9⟩,xf⟩:=QZ q;obtain⟨⟨e0,e1,e2,e3,e4,e5⟩,ef⟩:=Xm j;have I:=hid q;have G:=hid j;have HBEL:=hid hbel;have F:=f.1;simp only at F;have m:=hid f;have A:=Zb q;have z:=Zb j;clear q j f
  cases rest with
  | nil =>
   have O:(i:Int)=(args.len:Int):=by simp only[PL.len] at F;omega
   clear hbel;go_wp2;go_ret;exact⟨⟨_,rfl⟩,HBEL.out⟩
  | cons k9 nm9 n9 d9 args9 a9 tl =>
   have O:(i:Int)<(args.len:Int):=by simp only[PL.len] at F;omega
   obtain⟨b,o,rfl,hb,h0,h1,h2,h3,h5,hn,⟨J,y,h4,E,L,M⟩,ht⟩:=m.out.2.2.resolve_left (by intro h;cases h);have R:=m.out.2.1;simp only[PL.sz] at R;have V:=hid (show AE wr ⟨k9,nm9,n9,d9,args9,a9⟩ J y from ⟨hn,⟨E,L⟩,M⟩);have X:=hid (fun(W':World) (hW:Below wr.heap.size wr W')=>ac.out ⟨k9,nm9,n9,d9,args9,a9⟩ (by show args9.sz<args.sz;omega) W' nm nm1 ps U pc D k1 n1 d1 Z fa C len g J y ((Y.out.below QU HBEL.out).below QU hW) ab (V.out.below hW));unfold EI at X;simp only at X;clear hbel hn M ht;go_wp2;go_region_with (go_at_call 45;refine(X.out _ bq).mono ?_;rintro x w2 ⟨⟨b2,rfl⟩,hb2⟩)
   all_goals go_wp2
   all_goals first
    | (go_ret;exact⟨⟨_,rfl⟩,bq⟩)
    | (go_roundw;(case rel=>first|exact⟨i+1,tl,by go_num,m.out.tail.below bq,(hb2.block _ A).trans I.out,(hb2.block _ z).trans G.out,bq⟩|((repeat apply Yg);exact⟨⟨i+1,tl,by go_num,m.out.tail.below bq,(hb2.block _ A).trans I.out,(hb2.block _ z).trans G.out,bq⟩,rfl⟩));(case measure=>simp[intOf];omega))
 have aj:(k == 11)=false:=ZY.2 hk;clear hk;go_enter func45,ntmps45;go_wp2;go_loopw [5] (fun v wr=>Hid (ZaU w ⟨k,T,n,d,args,a⟩ ad cap (.string nm) (.slice U ps.length pc) (.int .i64 D) (.int .i64 k1) (.string nm1) (.int .i64 n1) (.int .i64 d1) (.slice C len g) (.int .i64 Z) (.int .i64 fa) v wr)) (fun i _=>args.len-(intOf i).toNat)
 case atStart=>exact H.out _ ((Za _ _ _ (by simp)).trans (Yw w _)) (by simpa using Yw (w.alloc _) _) bq
 obtain⟨i,rest,rfl,f,q,j,hbel⟩:=hrel.out;clear hrel;simp only at j;obtain⟨⟨x0,x1,x2,x3,x4,x5,x6,x7,x8,x9⟩,xf⟩:=QZ q;obtain⟨⟨e0,e1,e2,e3,e4,e5⟩,ef⟩:=Xm j;have I:=hid q;have G:=hid j;have HBEL:=hid hbel;have F:=f.1;simp only at F;have m:=hid f;have A:=Zb q;have z:=Zb j;clear q j f
 cases rest with
 | nil =>
  have O:(i:Int)=(args.len:Int):=by simp only[PL.len] at F;omega
  clear hbel;go_wp2;go_ret;exact⟨⟨_,rfl⟩,HBEL.out⟩
 | cons k9 nm9 n9 d9 args9 a9 tl =>
  have O:(i:Int)<(args.len:Int):=by simp only[PL.len] at F;omega
  obtain⟨b,o,rfl,hb,h0,h1,h2,h3,h5,hn,⟨J,y,h4,E,L,M⟩,ht⟩:=m.out.2.2.resolve_left (by intro h;cases h);have R:=m.out.2.1;simp only[PL.sz] at R;have V:=hid (show AE wr ⟨k9,nm9,n9,d9,args9,a9⟩ J y from ⟨hn,⟨E,L⟩,M⟩);have X:=hid (fun(W':World) (hW:Below wr.heap.size wr W')=>ac.out ⟨k9,nm9,n9,d9,args9,a9⟩ (by show args9.sz<args.sz;omega) W' nm nm1 ps U pc D k1 n1 d1 Z fa C len g J y ((Y.out.below QU HBEL.out).below QU hW) ab (V.out.below hW));unfold EI at X;simp only at X;clear hbel hn M ht;go_wp2;go_region_with (go_at_call 45;refine(X.out _ bq).mono ?_;rintro x w2 ⟨⟨b2,rfl⟩,hb2⟩)
  all_goals go_wp2
  all_goals first
   | (go_ret;exact⟨⟨_,rfl⟩,bq⟩)
   | (go_roundw;(case rel=>first|exact⟨i+1,tl,by go_num,m.out.tail.below bq,(hb2.block _ A).trans I.out,(hb2.block _ z).trans G.out,bq⟩|((repeat apply Yg);exact⟨⟨i+1,tl,by go_num,m.out.tail.below bq,(hb2.block _ A).trans I.out,(hb2.block _ z).trans G.out,bq⟩,rfl⟩));(case measure=>simp[intOf];omega))
theorem eC(e:PE):Jh e:=by
 suffices h:∀(N:Nat)(e:PE),e.args.sz<N→Jh e from h _ e (ZW _)
 intro N
 induction N with
 | zero=>intro e h;omega
 | succ N ih=>intro e h;exact vv e (fun e' h'=>ih e' oq)
def nm1(p:PG)(k:Int)(nm:ByteArray):Bool:=decide (k≠1)||decide (0≤YS p nm)
def nmL(p:PG):PL→Bool
 | .nil=>true
 | .cons k nm n d args a tl=>(nm1 p k nm&&nmL p args)&&nmL p tl
def nd1(p:PG)(k:Int)(nm:ByteArray)(len:Nat):Bool:=decide (k≠2)||(match XX ND.nm nm p.nodes 0 with
 | some i=>decide ((p.nodes[i]?).map (fun x=>x.ps.length)=some len)
 | none=>false)
def nq1(p:PG)(k:Int)(nm:ByteArray)(len:Nat):Bool:=nm1 p k nm&&nd1 p k nm len
def nqL(p:PG):PL→Bool
 | .nil=>true
 | .cons k nm n d args a tl=>(nq1 p k nm args.len&&nqL p args)&&nqL p tl
theorem Zch{p:PG}{k:Int}{nm:ByteArray}{len:Nat}(h:nq1 p k nm len=true):nm1 p k nm=true:=by
 unfold nq1 at h;rw[ZB] at h;exact h.1
theorem un{p:PG}:∀l:PL,nqL p l=true→nmL p l=true
 | .nil,_=>rfl
 | .cons k nm n d args a tl,h=>by
  rw[nqL,ZB,ZB] at h;rw[nmL,Zch h.1.1,un args h.1.2,un tl h.2];rfl
def GT(p:PG)(e:PE)(x:Ending):Prop:=∃b:Bool,x=.returned (.bool b)∧(b=true→nq1 p e.k e.nm e.args.len=true∧nqL p e.args=true)
def VV(p:PG)(an ai af ao:Option Addr)(cn ci cf co:Nat)(e:PE):Prop:=∀(w:World)(ad:Option Addr)(cap:Nat),AP w p an ai af ao cn ci cf co→AE w e ad cap →
 Calls prog 47 #[pv p an ai af ao cn ci cf co,.agg #[.int .i64 e.k,.string e.nm,.int .i64 e.n,.int .i64 e.d,.slice ad e.args.len cap,.int .i64 e.a]] w fun x w'=>GT p e x∧Below w.heap.size w w'
def uU(w:World)(p:PG)(an ai af ao:Option Addr)(cn ci cf co:Nat)(e:PE)(ad:Option Addr)(cap:Nat)(v:Value)(wr:World):Prop :=
 ∃(i:Nat)(rest:PL),v=.int .i64 (i:Int)∧Qs wr ad e.args rest i∧(nqL p rest=true→nqL p e.args=true)∧Qk wr w.heap.size p an ai af ao cn ci cf co ∧
  wr.heap[w.heap.size+1]?=some (.cells #[.int .i64 e.k,.string e.nm,.int .i64 e.n,.int .i64 e.d,.slice ad e.args.len cap,.int .i64 e.a] 88 (0,0))∧Below w.heap.size w wr
theorem vO(p:PG)(an ai af ao:Option Addr)(cn ci cf co:Nat)(be:p.nodes.length≤1000)(bf:p.ins.length≤1000)(bg:p.flows.length≤1000)(e:PE)(ih:∀e':PE,e'.args.sz<e.args.sz→VV p an ai af ao cn ci cf co e'):VV p an ai af ao cn ci cf co e:=by
 intro w ad cap hp ar;obtain⟨k,m,n,d,args,a⟩:=e;have av:=ar.len;simp only at av ⊢;have HA:=hid ar;have aq:=hid ih;have HP:=hid hp;have aa:=hid (fun(w':World) (h:Below w.heap.size w w')=>U0 (w:=w') p an ai af ao cn ci cf co m (HP.out.below h) bf bg);have X:=hid (fun(w':World) (h:Below w.heap.size w w')=>qM (w:=w') p an ai af ao cn ci cf co m (HP.out.below h) be);unfold pv at aa X ⊢;have main:∀(W:World),Qk W w.heap.size p an ai af ao cn ci cf co→W.heap[w.heap.size+1]?=some (.cells #[.int .i64 k,.string m,.int .i64 n,.int .i64 d,.slice ad args.len cap,.int .i64 a] 88 (0,0))→Below w.heap.size w W →
   uU w p an ai af ao cn ci cf co ⟨k,m,n,d,args,a⟩ ad cap (.int .i64 0) W:=fun W h1 h2 h3=>⟨0,args,rfl,(Qs.start HA.out.args).below h3,fun h=>h,h1,h2,h3⟩
 have V:=hid main;clear main ar ih hp;by_cases hk:k=1
 ·subst hk;by_cases aj:YS p m<0
  ·have ac:decide (YS p m<0)=true:=Z0 aj;generalize hfi:YS p m=fi at aa aj ac;clear hfi;go_enter func47,ntmps47;go_wp2_with (go_at_call 46;go_loud (refine(aa.out _ bq).mono ?_;rintro x I ⟨rfl,hb1⟩;obtain⟨ag,ah⟩:=YC hb1;have q1:w.heap.size<I.heap.size:=Yy hb1 oq;have q2:w.heap.size+1<I.heap.size:=Yy hb1 oq));go_ret;exact⟨⟨false,rfl,fun h=>by cases h⟩,bq⟩
  have am:0≤YS p m:=oq;have ba:=hid am;have ac:decide (YS p m<0)=false:=ZZ aj;generalize hfi:YS p m=fi at aa am aj ac;clear hfi;go_enter func47,ntmps47;go_wp2_with (go_at_call 46;go_loud (refine(aa.out _ bq).mono ?_;rintro x I ⟨rfl,hb1⟩;obtain⟨ag,ah⟩:=YC hb1;have q1:w.heap.size<I.heap.size:=Yy hb1 oq;have q2:w.heap.size+1<I.heap.size:=Yy hb1 oq));have ab:=hid (show nq1 p 1 m args.len=true from by unfold nq1 nm1 nd1;simp;exact ba.out);go_loopw [6] (fun v wr=>Hid (uU w p an ai af ao cn ci cf co ⟨1,m,n,d,args,a⟩ ad cap v wr)) (fun i _=>args.len-(intOf i).toNat)
  case atStart=>exact V.out _ ((hb1.block _ oq).trans ((Za _ _ _ (by simp)).trans (Yw w _))) ((hb1.block _ oq).trans (by simpa using Yw (w.alloc _) _)) bq
  obtain⟨i,rest,rfl,f,y,z,q,hbel⟩:=hrel.out;clear hrel;simp only at q y;unfold Qk at z;obtain⟨⟨z0,z1,z2,z3⟩,zf⟩:=Yx z;obtain⟨⟨e0,e1,e2,e3,e4,e5⟩,ef⟩:=Xm q;have L:=hid z;have J:=hid q;have HBEL:=hid hbel;have F:=hid y;have H:=f.1;simp only at H;have A:=hid f;have E:=Zb z;have D:=Zb q;clear z q f y
  cases rest with
  | nil =>
   have T:(i:Int)=(args.len:Int):=by simp only[PL.len] at H;omega
   clear hbel;go_wp2;go_ret;exact⟨⟨true,rfl,fun _=>⟨ab.out,F.out rfl⟩⟩,HBEL.out⟩
  | cons k9 nm9 n9 d9 args9 a9 tl =>
   have T:(i:Int)<(args.len:Int):=by simp only[PL.len] at H;omega
   obtain⟨b,o,rfl,hb,h0,h1,h2,h3,h5,hn,⟨M,C,h4,G,O,R⟩,ht⟩:=A.out.2.2.resolve_left (by intro h;cases h);have U:=A.out.2.1;simp only[PL.sz] at U;have Y:=hid (show AE wr ⟨k9,nm9,n9,d9,args9,a9⟩ M C from ⟨hn,⟨G,O⟩,R⟩);have Z:=hid (fun(W':World) (hW:Below wr.heap.size wr W')=>aq.out ⟨k9,nm9,n9,d9,args9,a9⟩ (by show args9.sz<args.sz;omega) W' M C ((HP.out.below HBEL.out).below hW) (Y.out.below hW));unfold pv GT at Z;simp only at Z;clear hbel hn R ht;go_wp2;go_region_with (go_at_call 47;refine(Z.out _ bq).mono ?_;rintro x w2 ⟨⟨b2,rfl,g⟩,hb2⟩)
   all_goals cases b2
   all_goals go_wp2
   all_goals first
    | (go_ret;exact⟨⟨false,rfl,fun h=>by cases h⟩,bq⟩)
    | (go_roundw;(case rel=>first|exact⟨i+1,tl,by go_num,A.out.tail.below bq,fun h=>F.out (by rw[nqL,(g rfl).1,(g rfl).2,h];rfl),(hb2.block _ E).trans L.out,(hb2.block _ D).trans J.out,bq⟩|((repeat apply Yg);exact⟨⟨i+1,tl,by go_num,A.out.tail.below bq,fun h=>F.out (by rw[nqL,(g rfl).1,(g rfl).2,h];rfl),(hb2.block _ E).trans L.out,(hb2.block _ D).trans J.out,bq⟩,rfl⟩));(case measure=>simp[intOf];omega))
 have bp:(k == 1)=false:=ZY.2 hk;have bc:=hid hk;by_cases ak:k=2
 ·subst ak;clear hk
  cases hfs:XX ND.nm m p.nodes 0 with
  | none =>
   have ae:Qq p m=-1:=by unfold Qq;rw[hfs]
   rw[ae] at X;clear hfs ae;go_enter func47,ntmps47;go_wp2_with (go_at_call 44;go_loud (refine(X.out _ bq).mono ?_;rintro x I ⟨rfl,hb1⟩;obtain⟨ag,ah⟩:=YC hb1;have q1:w.heap.size<I.heap.size:=Yy hb1 oq;have q2:w.heap.size+1<I.heap.size:=Yy hb1 oq));go_quiet (fail);go_wp2;go_ret;exact⟨⟨false,rfl,fun h=>by cases h⟩,bq⟩
  | some ni =>
   have ae:Qq p m=(ni:Int):=by unfold Qq;rw[hfs]
   rw[ae] at X;obtain⟨j,hj,xx,ay,_⟩:=QP _ _ _ _ _ hfs;obtain rfl:ni=j:=oq;clear hj;have ax:ni<p.nodes.length:=(ZA.1 ay).1;obtain⟨bb,oo,rfl,al,aw⟩:=HP.out.nodes.at ax;obtain⟨_,⟨pa,pc,y1,bi,br,_⟩,_⟩:=aw;have bo:(ni:Int)<(p.nodes.length:Int):=oq;have az:=hid hfs;generalize hplq:p.nodes[ni].ps.length=pl at y1 bi;have bd:=hid hplq;clear hfs ae ay hplq;by_cases bh:pl=args.len
   ·have ap:((pl:Int) == (args.len:Int))=true:=by rw[beq_iff_eq];omega
    subst bh;go_enter func47,ntmps47;go_wp2_with (go_at_call 44;go_loud (refine(X.out _ bq).mono ?_;rintro x I ⟨rfl,hb1⟩;obtain⟨ag,ah⟩:=YC hb1;have q1:w.heap.size<I.heap.size:=Yy hb1 oq;have q2:w.heap.size+1<I.heap.size:=Yy hb1 oq;have bj:I.cell? ⟨bb,oo+ni*10+1,none⟩=_:=(show Below w.heap.size w I from bq).cell (p:=⟨bb,oo+ni*10+1,none⟩) al |>.trans y1));go_quiet (fail);go_wp2;have ab:=hid (show nq1 p 2 m args.len=true from by unfold nq1 nm1 nd1;rw[az.out];simp[bd.out,Ze ax]);go_loopw [6] (fun v wr=>Hid (uU w p (some ⟨bb,oo,none⟩) ai af ao cn ci cf co ⟨2,m,n,d,args,a⟩ ad cap v wr)) (fun i _=>args.len-(intOf i).toNat)
    case atStart=>exact V.out _ ((hb1.block _ oq).trans ((Za _ _ _ (by simp)).trans (Yw w _))) ((hb1.block _ oq).trans (by simpa using Yw (w.alloc _) _)) bq
    obtain⟨i,rest,rfl,f,y,z,q,hbel⟩:=hrel.out;clear hrel;simp only at q y;unfold Qk at z;obtain⟨⟨z0,z1,z2,z3⟩,zf⟩:=Yx z;obtain⟨⟨e0,e1,e2,e3,e4,e5⟩,ef⟩:=Xm q;have L:=hid z;have J:=hid q;have HBEL:=hid hbel;have F:=hid y;have H:=f.1;simp only at H;have A:=hid f;have E:=Zb z;have D:=Zb q;clear z q f y
    cases rest with
    | nil =>
     have T:(i:Int)=(args.len:Int):=by simp only[PL.len] at H;omega
     clear hbel;go_wp2;go_ret;exact⟨⟨true,rfl,fun _=>⟨ab.out,F.out rfl⟩⟩,HBEL.out⟩
    | cons k9 nm9 n9 d9 args9 a9 tl =>
     have T:(i:Int)<(args.len:Int):=by simp only[PL.len] at H;omega
     obtain⟨b,o,rfl,hb,h0,h1,h2,h3,h5,hn,⟨M,C,h4,G,O,R⟩,ht⟩:=A.out.2.2.resolve_left (by intro h;cases h);have U:=A.out.2.1;simp only[PL.sz] at U;have Y:=hid (show AE wr ⟨k9,nm9,n9,d9,args9,a9⟩ M C from ⟨hn,⟨G,O⟩,R⟩);have Z:=hid (fun(W':World) (hW:Below wr.heap.size wr W')=>aq.out ⟨k9,nm9,n9,d9,args9,a9⟩ (by show args9.sz<args.sz;omega) W' M C ((HP.out.below HBEL.out).below hW) (Y.out.below hW));unfold pv GT at Z;simp only at Z;clear hbel hn R ht;go_wp2;go_region_with (go_at_call 47;refine(Z.out _ bq).mono ?_;rintro x w2 ⟨⟨b2,rfl,g⟩,hb2⟩)
     all_goals cases b2
     all_goals go_wp2
     all_goals first
      | (go_ret;exact⟨⟨false,rfl,fun h=>by cases h⟩,bq⟩)
      | (go_roundw;(case rel=>first|exact⟨i+1,tl,by go_num,A.out.tail.below bq,fun h=>F.out (by rw[nqL,(g rfl).1,(g rfl).2,h];rfl),(hb2.block _ E).trans L.out,(hb2.block _ D).trans J.out,bq⟩|((repeat apply Yg);exact⟨⟨i+1,tl,by go_num,A.out.tail.below bq,fun h=>F.out (by rw[nqL,(g rfl).1,(g rfl).2,h];rfl),(hb2.block _ E).trans L.out,(hb2.block _ D).trans J.out,bq⟩,rfl⟩));(case measure=>simp[intOf];omega))
   have ap:((pl:Int) == (args.len:Int))=false:=by rw[ZY];omega
   have bm:((pl:Int) != (args.len:Int))=true:=by rw[bne,ap];rfl
   have bn:decide ((ni:Int)<0)=false:=ZZ oq;have bl:¬(pl:Int)=(args.len:Int):=oq;go_enter func47,ntmps47;go_wp2_with (go_at_call 44;go_loud (refine(X.out _ bq).mono ?_;rintro x I ⟨rfl,hb1⟩;obtain⟨ag,ah⟩:=YC hb1;have q1:w.heap.size<I.heap.size:=Yy hb1 oq;have q2:w.heap.size+1<I.heap.size:=Yy hb1 oq;have bj:I.cell? ⟨bb,oo+ni*10+1,none⟩=_:=(show Below w.heap.size w I from bq).cell (p:=⟨bb,oo+ni*10+1,none⟩) al |>.trans y1));go_quiet (fail);go_wp2
   all_goals first|(go_ret;exact⟨⟨false,rfl,fun h=>by cases h⟩,bq⟩)|(exfalso;omega)
 have bk:(k == 2)=false:=ZY.2 ak;have au:=hid ak;clear hk ak;go_enter func47,ntmps47;go_wp2;have ab:=hid (show nq1 p k m args.len=true from by unfold nq1 nm1 nd1;simp[bc.out,au.out]);go_loopw [6] (fun v wr=>Hid (uU w p an ai af ao cn ci cf co ⟨k,m,n,d,args,a⟩ ad cap v wr)) (fun i _=>args.len-(intOf i).toNat)
 case atStart=>exact V.out _ ((Za _ _ _ (by simp)).trans (Yw w _)) (by simpa using Yw (w.alloc _) _) bq
 obtain⟨i,rest,rfl,f,y,z,q,hbel⟩:=hrel.out;clear hrel;simp only at q y;unfold Qk at z;obtain⟨⟨z0,z1,z2,z3⟩,zf⟩:=Yx z;obtain⟨⟨e0,e1,e2,e3,e4,e5⟩,ef⟩:=Xm q;have L:=hid z;have J:=hid q;have HBEL:=hid hbel;have F:=hid y;have H:=f.1;simp only at H;have A:=hid f;have E:=Zb z;have D:=Zb q;clear z q f y
 cases rest with
 | nil =>
  have T:(i:Int)=(args.len:Int):=by simp only[PL.len] at H;omega
  clear hbel;go_wp2;go_ret;exact⟨⟨true,rfl,fun _=>⟨ab.out,F.out rfl⟩⟩,HBEL.out⟩
 | cons k9 nm9 n9 d9 args9 a9 tl =>
  have T:(i:Int)<(args.len:Int):=by simp only[PL.len] at H;omega
  obtain⟨b,o,rfl,hb,h0,h1,h2,h3,h5,hn,⟨M,C,h4,G,O,R⟩,ht⟩:=A.out.2.2.resolve_left (by intro h;cases h);have U:=A.out.2.1;simp only[PL.sz] at U;have Y:=hid (show AE wr ⟨k9,nm9,n9,d9,args9,a9⟩ M C from ⟨hn,⟨G,O⟩,R⟩);have Z:=hid (fun(W':World) (hW:Below wr.heap.size wr W')=>aq.out ⟨k9,nm9,n9,d9,args9,a9⟩ (by show args9.sz<args.sz;omega) W' M C ((HP.out.below HBEL.out).below hW) (Y.out.below hW));unfold pv GT at Z;simp only at Z;clear hbel hn R ht;go_wp2;go_region_with (go_at_call 47;refine(Z.out _ bq).mono ?_;rintro x w2 ⟨⟨b2,rfl,g⟩,hb2⟩)
  all_goals cases b2
  all_goals go_wp2
  all_goals first
   | (go_ret;exact⟨⟨false,rfl,fun h=>by cases h⟩,bq⟩)
   | (go_roundw;(case rel=>first|exact⟨i+1,tl,by go_num,A.out.tail.below bq,fun h=>F.out (by rw[nqL,(g rfl).1,(g rfl).2,h];rfl),(hb2.block _ E).trans L.out,(hb2.block _ D).trans J.out,bq⟩|((repeat apply Yg);exact⟨⟨i+1,tl,by go_num,A.out.tail.below bq,fun h=>F.out (by rw[nqL,(g rfl).1,(g rfl).2,h];rfl),(hb2.block _ E).trans L.out,(hb2.block _ D).trans J.out,bq⟩,rfl⟩));(case measure=>simp[intOf];omega))
theorem eY(p:PG)(an g f j:Option Addr)(v q m x:Nat)(y:p.nodes.length≤1000)(z:p.ins.length≤1000)(A:p.flows.length≤1000)(e:PE):VV p an g f j v q m x e:=by
 suffices h:∀(N:Nat)(e:PE),e.args.sz<N→VV p an g f j v q m x e from h _ e (ZW _)
 intro N
 induction N with
 | zero=>intro e h;omega
 | succ N ih=>intro e h;exact vO p an g f j v q m x y z A e (fun e' h'=>ih e' oq)
theorem ut{W w1:World}(h:Below W.drew.heap.size W.drew w1):Below W.heap.size W w1:=⟨h.os,h.tape,h.output,h.size,h.block⟩
theorem Y9{W w2:World}(hb:Below W.heap.size W w2){b o:Nat}{v:Value}(hlt:b<W.heap.size)(h:W.cell? ⟨b,o,none⟩=some v):w2.cell? ⟨b,o,none⟩=some v:=(hb.cell (p:=⟨b,o,none⟩) hlt).trans h
structure Qt (p:PG):Prop where
 ins:∀i (h:i<p.ins.length),YS p p.ins[i].nm=(i:Int)
 flows:∀i (h:i<p.flows.length),YS p p.flows[i].nm=(p.ins.length:Int)+(i:Int)∧nq1 p p.flows[i].e.k p.flows[i].e.nm p.flows[i].e.args.len=true∧nqL p p.flows[i].e.args=true
 outs:∀i (h:i<p.outs.length),(p.ins.length:Int)≤YS p p.outs[i].fl
 nodes:∀i (h:i<p.nodes.length),Qq p p.nodes[i].nm=(i:Int)
def ZaY(p:PG)(x:Ending):Prop:=∃b:Bool,x=.returned (.bool b)∧(b=true→Qt p)
def uY(w:World)(p:PG)(an ai af ao:Option Addr)(cn ci cf co:Nat)(len:Nat)(S:Nat→Prop)(v:Value)(wr:World):Prop :=
 ∃i:Nat,v=.int .i64 (i:Int)∧i≤len∧Qk wr w.heap.size p an ai af ao cn ci cf co∧Below w.heap.size w wr∧S i
def ZeJ(W:World)(len:Nat)(v:Value)(wr:World):Prop:=∃k:Nat,v=.int .i64 (k:Int)∧k≤len∧Below W.heap.size W wr
theorem U7{α:Type}{l:List α}{P:Nat→α→Prop}{i:Nat}(h:∀j (f:j<l.length),j<i→P j l[j])(hi:∀f:i<l.length,P i l[i]):∀j (f:j<l.length),j<i+1→P j l[j]:=by
 intro j f m;by_cases g:j<i
 ·exact h j f g
 have:j=i:=oq;subst this;exact hi f
theorem Zan{w:World}(g:List ND)(ins:List IN)(f:List FL)(m:List OU)(an ai af ao:Option Addr)(Y X V Z:Nat)(hp:AP w ⟨g,ins,f,m⟩ an ai af ao Y X V Z)(h1:g.length≤1000)(h2:ins.length≤1000)(h3:f.length≤1000)(h4:m.length≤1000)(au:∀x∈g,x.ps.length≤1000) :
  Calls prog 18 #[pv ⟨g,ins,f,m⟩ an ai af ao Y X V Z] w fun x w'=>ZaY ⟨g,ins,f,m⟩ x∧Below w.heap.size w w':=by
 have HP:=hid hp;have da:=hid au;clear hp au;unfold pv;simp only;go_enter func18,ntmps18;go_wp2;go_loopw [3] (fun v wr=>Hid (uY w ⟨g,ins,f,m⟩ an ai af ao Y X V Z g.length (fun i=>∀j (L:j<g.length),j<i→Qq ⟨g,ins,f,m⟩ g[j].nm=(j:Int)) v wr)) (fun i _=>g.length-(intOf i).toNat)
 case atStart=>exact⟨0,rfl,Zk _,Yw w _,bq,fun j L h=>absurd h oq⟩
 obtain⟨i,rfl,hi,z,hbel,hS⟩:=hrel.out;clear hrel
 try simp only at hS
 unfold Qk at z;simp only at z;obtain⟨⟨x0,x1,x2,x3⟩,xf⟩:=Yx z;have I:=hid z;have HBEL:=hid hbel;have q:=Zb z;have G:=hbel.size;have HS:=hid hS;clear z hS;by_cases T:i<g.length
 ·obtain⟨y,A,rfl,C,bg⟩:=HP.out.nodes.at T;have cw:=Vl w wr y _ _ hbel C bg;have E:=Zd C G;have av:=da.out g[i] (Zi T);obtain⟨x,hx⟩:=ez (g[i]);rw[hx] at cw av;obtain⟨R,ps,em,⟨k1,nm1,n1,d1,F,a1⟩,fa⟩:=x;obtain⟨pa,pc,ad,cap,y0,y1,y2,y3,y4,y5,y6,y7,y8,y9,aj,⟨fi,fj,au⟩,al⟩:=cw.cells;simp only at av;have HA:=hid aj;have cy:=hid au;have cv:(i:Int)<(g.length:Int):=oq;have ac:=hid (fun(w':World) (h:Below wr.heap.size wr w')=>qM (w:=w') ⟨g,ins,f,m⟩ (some ⟨y,A,none⟩) ai af ao Y X V Z R ((HP.out.below HBEL.out).below h) h1);have ay:=hid (fun(w':World) (h:Below wr.heap.size wr w')=>eC ⟨k1,nm1,n1,d1,F,a1⟩ w' R nm1 ps pa pc em k1 n1 d1 a1 fa ad F.len cap ad cap (cy.out.below QU h) av (HA.out.below h));unfold pv at ac;unfold EI at ay;simp only at ac ay;have ek:=hid hx;clear hbel cw bg hx aj au al C;by_cases ap:Qq ⟨g,ins,f,m⟩ R=(i:Int)
  ·rw[ap] at ac;have cu:=hid (U7 (P:=fun j (x:ND)=>Qq ⟨g,ins,f,m⟩ x.nm=(j:Int)) HS.out (fun L=>by rw[ek.out];exact ap));clear ap;have eq:((i:Int) != (i:Int))=false:=by simp
   go_wp2_with (first|(go_at_call 44;go_loud (refine(ac.out _ bq).mono ?_;rintro x w1 ⟨rfl,hb1⟩;have s1:wr.heap.size<w1.heap.size:=Yy hb1 oq;have t1:w.heap.size<w1.heap.size:=Yy hb1 oq;have ag:=hid ((hb1.block wr.heap.size oq).trans (Yw wr _));have aa:=hid ((hb1.block w.heap.size oq).trans ((Za _ _ _ q).trans I.out));obtain⟨⟨bx,bz,ca,cb,cc,cd,ce,cg,ch,cj⟩,fc⟩:=QZ ag.out;obtain⟨⟨ck,cl,cm,cp⟩,fe⟩:=Yx aa.out))|(go_at_call 45;go_loud (refine(ay.out _ bq).mono ?_;rintro x D ⟨⟨b2,rfl⟩,hb2⟩;have s2:wr.heap.size<D.heap.size:=Yy hb2 oq;have t2:w.heap.size<D.heap.size:=Yy hb2 oq;have cr:=hid ((hb2.block wr.heap.size oq).trans (ag.out));have ct:=hid ((hb2.block w.heap.size oq).trans (aa.out));obtain⟨⟨dm,dn,dp,dq,dr,ds,dt,du,dv,dw⟩,fz⟩:=QZ cr.out;obtain⟨⟨eb,ec,ed,ee⟩,ge⟩:=Yx ct.out;cases b2)))
   all_goals (try (go_ret;exact⟨⟨false,rfl,fun h=>by cases h⟩,bq⟩))
   have HB2:=hid (show Below w.heap.size w D from bq);have cz:=hid (cy.out.below QU (show Below wr.heap.size wr D from bq));have bl:w.heap.size≤D.heap.size:=Nat.le_of_lt t2;clear ac ay hb1 hb2 ag aa bx bz ca cb cc cd ce cg ch cj ck cl cm cp dm dn dp dq dr ds dt du dv dw eb ec ed ee;go_loopw [5] (fun v wr'=>Hid (ZeJ D ps.length v wr')) (fun k _=>ps.length-(intOf k).toNat)
   case atStart=>exact⟨0,rfl,Zk _,Zg _ _⟩
   obtain⟨k,rfl,hk,hb5⟩:=hrel.out;clear hrel;have ba:=hid ((hb5.block _ s2).trans cr.out);have M:=hid ((hb5.block _ t2).trans ct.out);obtain⟨⟨m0,m1,m2,m3,m4,m5,m6,m7,m8,m9⟩,mf⟩:=QZ ba.out;have HB5:=hid (HB2.out.trans (hb5.mono bl));have HB5k:=hid hb5;by_cases eu:k<ps.length
   ·have df:(k:Int)<(ps.length:Int):=oq;clear hb5;go_wp2;go_loopw [6] (fun v wr'=>Hid (ZeJ D k v wr')) (fun j _=>k-(intOf j).toNat)
    case atStart=>exact⟨0,rfl,Zk _,HB5k.out⟩
    clear ba M m0 m1 m2 m3 m4 m5 m6 m7 m8 m9 mf HB5 HB5k;obtain⟨j,rfl,L,hb5⟩:=hrel.out;clear hrel;have ba:=hid ((hb5.block _ s2).trans cr.out);have M:=hid ((hb5.block _ t2).trans ct.out);obtain⟨⟨m0,m1,m2,m3,m4,m5,m6,m7,m8,m9⟩,mf⟩:=QZ ba.out;have HB5:=hid (HB2.out.trans (hb5.mono bl));have HB5k:=hid hb5;by_cases es:j<k
    ·have am:(j:Int)<(k:Int):=oq;have cx:=cz.out.below QU hb5;obtain⟨pb,po,di,z,dj,bi⟩:=cx.at (show j<ps.length by omega);obtain⟨gc,gd,ab,_,dk,bj⟩:=cx.at eu;rw[di] at ab m1;injection ab with ab;injection ab with e1_ e2_;subst e1_;subst e2_
     rw[Z8] at dj dk;generalize ps[j]=sj at dj bi;generalize ps[k]=sk at dk bj;have hq:=Jn sj sk;have et:(j:Int)<(ps.length:Int):=oq;clear hb5 cx bi bj di;by_cases he:sj=sk
     ·rw[Z0 he] at hq;clear he;go_wp2;go_quiet (fail);go_wp2;go_ret;exact⟨⟨false,rfl,fun h=>by cases h⟩,bq⟩
     rw[ZZ he] at hq;clear he;go_wp2;go_quiet (fail);go_wp2
     first|exact⟨⟨j+1,by go_num,oq,bq⟩,by simp[intOf];omega⟩|(go_roundw;(case rel=>first|exact⟨j+1,by go_num,oq,bq⟩|((repeat apply Yg);exact⟨⟨j+1,by go_num,oq,bq⟩,rfl⟩));(case measure=>simp[intOf];omega))
    have am:(j:Int)=(k:Int):=oq;clear hb5;go_wp2
    first|exact⟨⟨k+1,by go_num,oq,HB5k.out⟩,by simp[intOf];omega⟩|(go_roundw;(case rel=>first|exact⟨k+1,by go_num,oq,HB5k.out⟩|((repeat apply Yg);exact⟨⟨k+1,by go_num,oq,HB5k.out⟩,rfl⟩));(case measure=>simp[intOf];omega))
   have df:(k:Int)=(ps.length:Int):=oq;clear hb5;go_wp2
   first|exact⟨⟨i+1,by go_num,oq,M.out,HB5.out,cu.out⟩,by simp[intOf];omega⟩|(go_roundw;(case rel=>first|exact⟨i+1,by go_num,oq,M.out,HB5.out,cu.out⟩|((repeat apply Yg);exact⟨⟨i+1,by go_num,oq,M.out,HB5.out,cu.out⟩,rfl⟩));(case measure=>simp[intOf];omega))
  have fh:(Qq ⟨g,ins,f,m⟩ R != (i:Int))=true:=by rw[bne,ZY.2 ap];rfl
  have dg:¬Qq ⟨g,ins,f,m⟩ R=(i:Int):=ap;go_wp2_with (first|(go_at_call 44;go_loud (refine(ac.out _ bq).mono ?_;rintro x w1 ⟨rfl,hb1⟩;have s1:wr.heap.size<w1.heap.size:=Yy hb1 oq;have t1:w.heap.size<w1.heap.size:=Yy hb1 oq;have ag:=hid ((hb1.block wr.heap.size oq).trans (Yw wr _));have aa:=hid ((hb1.block w.heap.size oq).trans ((Za _ _ _ q).trans I.out));obtain⟨⟨bx,bz,ca,cb,cc,cd,ce,cg,ch,cj⟩,fc⟩:=QZ ag.out;obtain⟨⟨ck,cl,cm,cp⟩,fe⟩:=Yx aa.out)))
  all_goals first|(exfalso;exact dg (by assumption))|(go_ret;exact⟨⟨false,rfl,fun h=>by cases h⟩,bq⟩)
 clear hbel;have db:=hid (show ∀j (L:j<g.length),Qq ⟨g,ins,f,m⟩ g[j].nm=(j:Int) from fun j L=>HS.out j L oq);go_wp2;go_loopw [7] (fun v wr=>Hid (uY w ⟨g,ins,f,m⟩ an ai af ao Y X V Z ins.length (fun i=>∀j (L:j<ins.length),j<i→YS ⟨g,ins,f,m⟩ ins[j].nm=(j:Int)) v wr)) (fun i _=>ins.length-(intOf i).toNat)
 case atStart=>exact⟨0,rfl,Zk _,I.out,HBEL.out,fun j L h=>absurd h oq⟩
 clear I HBEL q G x0 x1 x2 x3 xf;obtain⟨i,rfl,hi,z,hbel,hS⟩:=hrel.out;clear hrel
 try simp only at hS
 unfold Qk at z;simp only at z;obtain⟨⟨x0,x1,x2,x3⟩,xf⟩:=Yx z;have I:=hid z;have HBEL:=hid hbel;have q:=Zb z;have G:=hbel.size;have HS:=hid hS;clear z hS;by_cases T:i<ins.length
 ·obtain⟨y,A,rfl,C,bf⟩:=HP.out.ins.at T;have er:=Et w wr y _ _ hbel C bf;have E:=Zd C G;obtain⟨y0,_⟩:=er;have cv:(i:Int)<(ins.length:Int):=oq;have HX:=hid (show ∀L:i<ins.length,ins[i].nm=ins[i].nm from fun _=>rfl);generalize hnm:ins[i].nm=nmx at y0;have ef:=hid hnm;have H:=hid (fun(w':World) (h:Below wr.heap.size wr w')=>U0 (w:=w') ⟨g,ins,f,m⟩ an (some ⟨y,A,none⟩) af ao Y X V Z nmx ((HP.out.below HBEL.out).below h) h2 h3);unfold pv at H;simp only at H;clear hbel bf C hnm HX;by_cases J:YS ⟨g,ins,f,m⟩ nmx=(i:Int)
  ·rw[J] at H;have hq:((i:Int) == (i:Int))=true:=by simp
   have cq:=hid J;clear J;go_wp2;go_region_with (go_at_call 46;go_loud (refine(H.out _ bq).mono ?_;rintro x D ⟨rfl,hb2⟩))
   all_goals go_wp2
   all_goals (exact⟨⟨i+1,by go_num,oq,(hb2.block _ q).trans I.out,bq,U7 (α:=IN) (P:=fun j (x:IN)=>YS ⟨g,ins,f,m⟩ x.nm=(j:Int)) HS.out (fun L=>by show YS ⟨g,ins,f,m⟩ ins[i].nm=(i:Int);rw[ef.out];exact cq.out)⟩,by simp[intOf];omega⟩)
  have dc:((YS ⟨g,ins,f,m⟩ nmx) == (i:Int))=false:=ZY.2 J;have de:((YS ⟨g,ins,f,m⟩ nmx) != (i:Int))=true:=by rw[bne,dc];rfl
  go_wp2;go_region_with (go_at_call 46;go_loud (refine(H.out _ bq).mono ?_;rintro x D ⟨rfl,hb2⟩))
  all_goals go_wp2
  all_goals (go_ret;exact⟨⟨false,rfl,fun h=>by cases h⟩,bq⟩)
 have ej:=hid (show ∀j (L:j<ins.length),YS ⟨g,ins,f,m⟩ ins[j].nm=(j:Int) from fun j L=>HS.out j L oq);clear HS hbel;go_wp2;go_loopw [8] (fun v wr=>Hid (uY w ⟨g,ins,f,m⟩ an ai af ao Y X V Z f.length (fun i=>∀j (L:j<f.length),j<i→(YS ⟨g,ins,f,m⟩ f[j].nm=(ins.length:Int)+(j:Int)∧nq1 ⟨g,ins,f,m⟩ f[j].e.k f[j].e.nm f[j].e.args.len=true∧nqL ⟨g,ins,f,m⟩ f[j].e.args=true)) v wr)) (fun i _=>f.length-(intOf i).toNat)
 case atStart=>exact⟨0,rfl,Zk _,I.out,HBEL.out,fun j L h=>absurd h oq⟩
 clear I HBEL q G x0 x1 x2 x3 xf;obtain⟨i,rfl,hi,z,hbel,hS⟩:=hrel.out;clear hrel
 try simp only at hS
 unfold Qk at z;simp only at z;obtain⟨⟨x0,x1,x2,x3⟩,xf⟩:=Yx z;have I:=hid z;have HBEL:=hid hbel;have q:=Zb z;have G:=hbel.size;have HS:=hid hS;clear z hS;by_cases T:i<f.length
 ·obtain⟨y,A,rfl,C,bd⟩:=HP.out.flows.at T;have bc:=Vs w wr y _ _ hbel C bd;have E:=Zd C G;obtain⟨x,hx⟩:=ez (f[i]);have HX:=hid hx;rw[hx] at bc;obtain⟨R,⟨k1,O,n1,d1,F,a1⟩,fa⟩:=x;obtain⟨ad,cap,y0,y1,y2,y3,y4,y5,y6,y7,aj,al⟩:=bc.cells;have HA:=hid aj;have fv:=hid bc;have cv:(i:Int)<(f.length:Int):=oq;have H:=hid (fun(w':World) (h:Below wr.heap.size wr w')=>U0 (w:=w') ⟨g,ins,f,m⟩ an ai (some ⟨y,A,none⟩) ao Y X V Z R ((HP.out.below HBEL.out).below h) h2 h3);have az:=hid (fun(w':World) (h:Below wr.heap.size wr w')=>eY ⟨g,ins,f,m⟩ an ai (some ⟨y,A,none⟩) ao Y X V Z h1 h2 h3 ⟨k1,O,n1,d1,F,a1⟩ w' ad cap ((HP.out.below HBEL.out).below h) (HA.out.below h));unfold pv at H az;unfold GT at az;simp only at H az;clear hbel bc bd C hx aj al;by_cases J:YS ⟨g,ins,f,m⟩ R=(ins.length:Int)+(i:Int)
  ·rw[J] at H;have cq:=hid J;clear J;have eq:(((ins.length:Int)+(i:Int)) != ((ins.length:Int)+(i:Int)))=false:=by simp
   have ew:IntKind.i64.wrap ((ins.length:Int)+(i:Int))=(ins.length:Int)+(i:Int):=ZK _ oq;go_wp2;go_region_held3 (fun w'=>w'.cell? ⟨w.heap.size,0,none⟩=some (.slice an g.length Y)∧w'.cell? ⟨w.heap.size,1,none⟩=some (.slice ai ins.length X)∧w'.cell? ⟨w.heap.size,2,none⟩=some (.slice (some ⟨y,A,none⟩) f.length V)∧w'.cell? ⟨w.heap.size,3,none⟩=some (.slice ao m.length Z)∧w'.cell? ⟨y,A+i*8,none⟩=some (.string R)∧w'.cell? ⟨y,A+i*8+1,none⟩=some (.int .i64 k1)∧w'.cell? ⟨y,A+i*8+2,none⟩=some (.string O)∧w'.cell? ⟨y,A+i*8+3,none⟩=some (.int .i64 n1)∧w'.cell? ⟨y,A+i*8+4,none⟩=some (.int .i64 d1)∧w'.cell? ⟨y,A+i*8+5,none⟩=some (.slice ad F.len cap)∧w'.cell? ⟨y,A+i*8+6,none⟩=some (.int .i64 a1)∧w'.cell? ⟨y,A+i*8+7,none⟩=some (.int .i64 fa)) (go_keep) (first|(go_at_call 46;go_loud (refine(H.out _ bq).mono ?_;rintro x D ⟨rfl,hb2⟩;have hb2k:Below wr.heap.size wr D:=(by first|exact hb2|exact ut hb2);have s2:w.heap.size<D.heap.size:=Zd q hb2k.size;have s3:y<D.heap.size:=Zd E hb2k.size;have bm:D.cell? ⟨w.heap.size,0,none⟩=some (.slice an g.length Y):=Y9 hb2k q x0;have bn:D.cell? ⟨w.heap.size,1,none⟩=some (.slice ai ins.length X):=Y9 hb2k q x1;have bo:D.cell? ⟨w.heap.size,2,none⟩=some (.slice (some ⟨y,A,none⟩) f.length V):=Y9 hb2k q x2;have bp:D.cell? ⟨w.heap.size,3,none⟩=some (.slice ao m.length Z):=Y9 hb2k q x3;have br:D.cell? ⟨y,A+i*8,none⟩=some (.string R):=Y9 hb2k E y0;have bs:D.cell? ⟨y,A+i*8+1,none⟩=some (.int .i64 k1):=Y9 hb2k E y1;have bt:D.cell? ⟨y,A+i*8+2,none⟩=some (.string O):=Y9 hb2k E y2;have bu:D.cell? ⟨y,A+i*8+3,none⟩=some (.int .i64 n1):=Y9 hb2k E y3;have bv:D.cell? ⟨y,A+i*8+4,none⟩=some (.int .i64 d1):=Y9 hb2k E y4;have bw:D.cell? ⟨y,A+i*8+5,none⟩=some (.slice ad F.len cap):=Y9 hb2k E y5;have aw:D.cell? ⟨y,A+i*8+6,none⟩=some (.int .i64 a1):=Y9 hb2k E y6;have ax:D.cell? ⟨y,A+i*8+7,none⟩=some (.int .i64 fa):=Y9 hb2k E y7))|(go_at_call 47;go_loud (refine(az.out _ bq).mono ?_;rintro x w3 ⟨⟨b2,rfl,en⟩,hb3⟩;have hb3k:Below D.heap.size D w3:=(by first|exact hb3|exact ut hb3);have fk:w3.cell? ⟨w.heap.size,0,none⟩=some (.slice an g.length Y):=Y9 hb3k s2 bm;have fm:w3.cell? ⟨w.heap.size,1,none⟩=some (.slice ai ins.length X):=Y9 hb3k s2 bn;have fn:w3.cell? ⟨w.heap.size,2,none⟩=some (.slice (some ⟨y,A,none⟩) f.length V):=Y9 hb3k s2 bo;have fo:w3.cell? ⟨w.heap.size,3,none⟩=some (.slice ao m.length Z):=Y9 hb3k s2 bp;have fp:w3.cell? ⟨y,A+i*8,none⟩=some (.string R):=Y9 hb3k s3 br;have fq:w3.cell? ⟨y,A+i*8+1,none⟩=some (.int .i64 k1):=Y9 hb3k s3 bs;have fr:w3.cell? ⟨y,A+i*8+2,none⟩=some (.string O):=Y9 hb3k s3 bt;have fs:w3.cell? ⟨y,A+i*8+3,none⟩=some (.int .i64 n1):=Y9 hb3k s3 bu;have ft:w3.cell? ⟨y,A+i*8+4,none⟩=some (.int .i64 d1):=Y9 hb3k s3 bv;have fu:w3.cell? ⟨y,A+i*8+5,none⟩=some (.slice ad F.len cap):=Y9 hb3k s3 bw;have ex:w3.cell? ⟨y,A+i*8+6,none⟩=some (.int .i64 a1):=Y9 hb3k s3 aw;have fb:w3.cell? ⟨y,A+i*8+7,none⟩=some (.int .i64 fa):=Y9 hb3k s3 ax)))
   all_goals cases b2
   all_goals go_wp2
   all_goals first|(go_ret;exact⟨⟨false,rfl,fun h=>by cases h⟩,bq⟩)|exact⟨⟨i+1,by go_num,oq,(hb3k.block _ s2).trans ((hb2k.block _ q).trans I.out),bq,U7 (α:=FL) (P:=fun j (x:FL)=>YS ⟨g,ins,f,m⟩ x.nm=(ins.length:Int)+(j:Int)∧nq1 ⟨g,ins,f,m⟩ x.e.k x.e.nm x.e.args.len=true∧nqL ⟨g,ins,f,m⟩ x.e.args=true) HS.out (fun L=>by rw[HX.out];exact⟨cq.out,en rfl⟩)⟩,by simp[intOf];omega⟩
  obtain⟨fx,be⟩:=ez (YS ⟨g,ins,f,m⟩ R);rw[be] at H J;have dd:(fx == ((ins.length:Int)+(i:Int)))=false:=ZY.2 J;have de:(fx != ((ins.length:Int)+(i:Int)))=true:=by rw[bne,dd];rfl
  have fg:decide (fx=(ins.length:Int)+(i:Int))=false:=ZZ J;clear be;have ew:IntKind.i64.wrap ((ins.length:Int)+(i:Int))=(ins.length:Int)+(i:Int):=ZK _ oq;go_wp2;refine ZO (S:=(fun w'=>w'.cell? ⟨w.heap.size,0,none⟩=some (.slice an g.length Y)∧w'.cell? ⟨w.heap.size,1,none⟩=some (.slice ai ins.length X)∧w'.cell? ⟨w.heap.size,2,none⟩=some (.slice (some ⟨y,A,none⟩) f.length V)∧w'.cell? ⟨w.heap.size,3,none⟩=some (.slice ao m.length Z)∧w'.cell? ⟨y,A+i*8,none⟩=some (.string R)∧w'.cell? ⟨y,A+i*8+1,none⟩=some (.int .i64 k1)∧w'.cell? ⟨y,A+i*8+2,none⟩=some (.string O)∧w'.cell? ⟨y,A+i*8+3,none⟩=some (.int .i64 n1)∧w'.cell? ⟨y,A+i*8+4,none⟩=some (.int .i64 d1)∧w'.cell? ⟨y,A+i*8+5,none⟩=some (.slice ad F.len cap)∧w'.cell? ⟨y,A+i*8+6,none⟩=some (.int .i64 a1)∧w'.cell? ⟨y,A+i*8+7,none⟩=some (.int .i64 fa))) kq ?_ (fun hHeld=>?_)
  ·go_keep
  refine tk 0 (by assumption) ?_;refine tk 1 (by assumption) ?_;refine tk 2 (by assumption) ?_;refine tk 3 (by assumption) ?_;refine tk 4 (by assumption) ?_;refine tk 5 (by assumption) ?_;refine tk 6 (by assumption) ?_;refine tk 8 (by assumption) ?_;refine tk 9 (by assumption) ?_;refine tk 10 (by assumption) ?_;refine tk 11 (by assumption) ?_;refine tk 12 (by assumption) ?_;refine ZV (rs:=[7]) kq (by simp) ?_;refine ZH rfl (fun K hK=>?_) AllReadyH.nil
  try simp only[List.getElem_toArray,List.getElem_cons_succ,List.getElem_cons_zero,Array.getInternal_eq_getElem]
  go_simp
  (go_at_call 46;go_loud (refine(H.out _ bq).mono ?_;rintro x D ⟨rfl,hb2⟩;have hb2k:Below wr.heap.size wr D:=(by first|exact hb2|exact ut hb2);have s2:w.heap.size<D.heap.size:=Zd q hb2k.size;have s3:y<D.heap.size:=Zd E hb2k.size;have bm:D.cell? ⟨w.heap.size,0,none⟩=some (.slice an g.length Y):=Y9 hb2k q x0;have bn:D.cell? ⟨w.heap.size,1,none⟩=some (.slice ai ins.length X):=Y9 hb2k q x1;have bo:D.cell? ⟨w.heap.size,2,none⟩=some (.slice (some ⟨y,A,none⟩) f.length V):=Y9 hb2k q x2;have bp:D.cell? ⟨w.heap.size,3,none⟩=some (.slice ao m.length Z):=Y9 hb2k q x3;have br:D.cell? ⟨y,A+i*8,none⟩=some (.string R):=Y9 hb2k E y0;have bs:D.cell? ⟨y,A+i*8+1,none⟩=some (.int .i64 k1):=Y9 hb2k E y1;have bt:D.cell? ⟨y,A+i*8+2,none⟩=some (.string O):=Y9 hb2k E y2;have bu:D.cell? ⟨y,A+i*8+3,none⟩=some (.int .i64 n1):=Y9 hb2k E y3;have bv:D.cell? ⟨y,A+i*8+4,none⟩=some (.int .i64 d1):=Y9 hb2k E y4;have bw:D.cell? ⟨y,A+i*8+5,none⟩=some (.slice ad F.len cap):=Y9 hb2k E y5;have aw:D.cell? ⟨y,A+i*8+6,none⟩=some (.int .i64 a1):=Y9 hb2k E y6;have ax:D.cell? ⟨y,A+i*8+7,none⟩=some (.int .i64 fa):=Y9 hb2k E y7))
  refine hK.out _ _ ?_ (fun hHeld2=>?_)
  ·go_keep
  clear hK K;refine tk 13 (by assumption) ?_;refine tk 14 (by assumption) ?_;refine tu 15 (by assumption) ?_;refine tu 16 (by assumption) ?_;refine tu 17 (by assumption) ?_;refine tu 18 (by assumption) ?_;refine tu 19 (by assumption) ?_;refine tu 20 (by assumption) ?_;refine tu 21 (by assumption) ?_;refine tu 22 (by assumption) ?_;refine tu 23 (by assumption) ?_;refine tk 24 (by assumption) ?_;refine Zy kq ?_ _
  all_goals go_wp2
  all_goals first|(go_ret;exact⟨⟨false,rfl,fun h=>by cases h⟩,bq⟩)
 have ei:=hid (show ∀j (L:j<f.length),(YS ⟨g,ins,f,m⟩ f[j].nm=(ins.length:Int)+(j:Int)∧nq1 ⟨g,ins,f,m⟩ f[j].e.k f[j].e.nm f[j].e.args.len=true∧nqL ⟨g,ins,f,m⟩ f[j].e.args=true) from fun j L=>HS.out j L oq);clear HS hbel;go_wp2;go_loopw [9] (fun v wr=>Hid (uY w ⟨g,ins,f,m⟩ an ai af ao Y X V Z m.length (fun i=>∀j (L:j<m.length),j<i→(ins.length:Int)≤YS ⟨g,ins,f,m⟩ m[j].fl) v wr)) (fun i _=>m.length-(intOf i).toNat)
 case atStart=>exact⟨0,rfl,Zk _,I.out,HBEL.out,fun j L h=>absurd h (Yl _)⟩
 clear I HBEL q G x0 x1 x2 x3 xf;obtain⟨i,rfl,hi,z,hbel,hS⟩:=hrel.out;clear hrel
 try simp only at hS
 unfold Qk at z;simp only at z;obtain⟨⟨x0,x1,x2,x3⟩,xf⟩:=Yx z;have I:=hid z;have HBEL:=hid hbel;have q:=Zb z;have G:=hbel.size;have HS:=hid hS;clear z hS;by_cases T:i<m.length
 ·obtain⟨y,A,rfl,C,bh⟩:=HP.out.outs.at T;have dh:=qX w wr y _ _ hbel C bh;have E:=Zd C G;obtain⟨x,hx⟩:=ez (m[i]);rw[hx] at dh;obtain⟨R,fl,dl,fa⟩:=x;obtain⟨y0,y1,y2,y3,al⟩:=dh;simp only at y0 y1 y2 y3;have cv:(i:Int)<(m.length:Int):=oq;obtain⟨W1,ae⟩:=ez (wr.alloc (Obj.cells #[.string R,.string fl,.int .i64 dl,.int .i64 fa] 113));obtain⟨ob,aq⟩:=ez wr.heap.size;have eg:=hid (show W1.heap[ob]?=some _ from by rw[←ae,←aq];exact Yw wr _);have aa:=hid (show W1.heap[w.heap.size]?=some _ from by rw[←ae];exact(Za _ _ _ q).trans I.out);have HB1:=hid (show Below w.heap.size w W1 from by rw[←ae];exact hbel.alloc G _);have fy:W1.heap.size=ob+1:=by rw[←ae,←aq];simp
  have el:=hid hx;clear hbel bh C hx al;go_wp2
  try rw[ae]
  try rw[aq]
  rw[aq] at q G E;clear ae aq x0 x1 x2 x3 xf y0 y1 y2 y3 I HBEL;go_loopw [11] (fun v wr'=>Hid (ZeJ W1 i v wr')) (fun j _=>i-(intOf j).toNat)
  case atStart=>exact⟨0,rfl,Zk _,Zg _ _⟩
  obtain⟨j,rfl,L,hb5⟩:=hrel.out;clear hrel;have fw:=hb5.size;have eh:=hid ((hb5.block ob oq).trans eg.out);have M:=hid ((hb5.block w.heap.size oq).trans aa.out);obtain⟨⟨o0,o1,o2,o3⟩,ga⟩:=Yx eh.out;obtain⟨⟨z0,z1,z2,z3⟩,zf⟩:=Yx M.out;have HB5:=hid (HB1.out.trans (hb5.mono oq));have HB5k:=hid hb5;by_cases es:j<i
  ·have am:(j:Int)<(i:Int):=oq;have bk:=HP.out.outs.below qX HB5.out;obtain⟨bb2,gb,ak,ff,ev⟩:=bk.at (show j<m.length by omega);injection ak with ak;injection ak with e1_ e2_;subst e1_;subst e2_
   obtain⟨yj,_⟩:=ev;generalize m[j].nm=sj at yj;have hq:=Jn sj R;have et:(j:Int)<(m.length:Int):=oq;clear hb5 bk;by_cases he:sj=R
   ·rw[Z0 he] at hq;clear he;go_wp2;go_quiet (fail);go_wp2;go_ret;exact⟨⟨false,rfl,fun h=>by cases h⟩,bq⟩
   rw[ZZ he] at hq;clear he;go_wp2;go_quiet (fail);go_wp2
   first|exact⟨⟨j+1,by go_num,oq,bq⟩,by simp[intOf];omega⟩|(go_roundw;(case rel=>first|exact⟨j+1,by go_num,oq,bq⟩|((repeat apply Yg);exact⟨⟨j+1,by go_num,oq,bq⟩,rfl⟩));(case measure=>simp[intOf];omega))
  have am:(j:Int)=(i:Int):=oq;have H:=hid (fun(w':World) (h:Below wr.heap.size wr w')=>U0 (w:=w') ⟨g,ins,f,m⟩ an ai af (some ⟨y,A,none⟩) Y X V Z fl ((HP.out.below HB5.out).below h) h2 h3);unfold pv at H;simp only at H;clear hb5;have U:w.heap.size<wr.heap.size:=oq;by_cases J:YS ⟨g,ins,f,m⟩ fl<(ins.length:Int)
  ·have eo:decide (YS ⟨g,ins,f,m⟩ fl<(ins.length:Int))=true:=Z0 J;go_wp2;go_region_with (first|(go_at_call 46;go_loud (refine(H.out _ bq).mono ?_;rintro x D ⟨rfl,hb2⟩;have s2:w.heap.size<D.heap.size:=Yy hb2 oq;have ar:=(hb2.block _ U).trans M.out;obtain⟨⟨dx,dy,dz,ea⟩,fd⟩:=Yx ar;clear ar)))
   all_goals go_wp2
   all_goals (go_ret;exact⟨⟨false,rfl,fun h=>by cases h⟩,bq⟩)
  have eo:decide (YS ⟨g,ins,f,m⟩ fl<(ins.length:Int))=false:=ZZ J;have ep:(ins.length:Int)≤YS ⟨g,ins,f,m⟩ fl:=oq;have ah:=hid (U7 (α:=OU) (P:=fun j (x:OU)=>(ins.length:Int)≤YS ⟨g,ins,f,m⟩ x.fl) HS.out (fun L=>by rw[el.out];exact ep));go_wp2;go_region_with (first|(go_at_call 46;go_loud (refine(H.out _ bq).mono ?_;rintro x D ⟨rfl,hb2⟩;have s2:w.heap.size<D.heap.size:=Yy hb2 oq;have ar:=(hb2.block _ U).trans M.out;obtain⟨⟨dx,dy,dz,ea⟩,fd⟩:=Yx ar;clear ar)))
  all_goals go_wp2
  all_goals first|exact⟨⟨i+1,by go_num,oq,(hb2.block _ U).trans M.out,bq,ah.out⟩,by simp[intOf];omega⟩|(go_roundw;(case rel=>first|exact⟨i+1,by go_num,oq,(hb2.block _ U).trans M.out,bq,ah.out⟩|((repeat apply Yg);exact⟨⟨i+1,by go_num,oq,(hb2.block _ U).trans M.out,bq,ah.out⟩,rfl⟩));(case measure=>simp[intOf];omega))
 clear hbel;go_wp2;go_ret;exact⟨⟨true,rfl,fun _=>⟨ej.out,ei.out,fun j L=>HS.out j L (Zd (show j<m.length from L) oq),db.out⟩⟩,HBEL.out⟩
end Go.Proofs.YtgigilkpndhddaaGreatDoor.syn
