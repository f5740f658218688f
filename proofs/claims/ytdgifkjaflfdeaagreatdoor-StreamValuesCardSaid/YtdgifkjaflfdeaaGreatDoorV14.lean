/- Parts of the proof. -/
import Derived.Test.YtdgifkjaflfdeaaGreatDoorV11
set_option linter.all false
set_option maxRecDepth 100000
set_option maxHeartbeats 16000000
namespace Go.Proofs.YtdgifkjaflfdeaaGreatDoor.syn
open Tryz
open Go.RowKit
def XM{α:Type}(f:α→ByteArray)(nm:ByteArray):List α→Nat→Option Nat
 | [],_=>none
 | x::l,i=>if f x=nm then some i else XM f nm l (i+1)
theorem QJ{α:Type}(f:α→ByteArray)(nm:ByteArray):∀(l:List α)(i k:Nat),XM f nm l i=some k→∃j,k=i+j∧∃x,l[j]?=some x∧f x=nm:=by
 intro l
 induction l with
 | nil=>intro i k h;cases h
 | cons x l ih =>
  intro i k h;unfold XM at h;by_cases g:f x=nm
  ·rw[Z0 g] at h;injection h with h;exact⟨0,oq,x,rfl,g⟩
  rw[ZZ g] at h;obtain⟨j,v,y,m,q⟩:=ih (i+1) k h;exact⟨j+1,oq,y,by simpa using m,q⟩
def YR(p:PG)(nm:ByteArray):Int:=match XM IN.nm nm p.ins 0 with
 | some i=>(i:Int)
 | none=>match XM FL.nm nm p.flows 0 with
  | some i=>(p.ins.length:Int)+(i:Int)
  | none=>-1
def Qk(p:PG)(nm:ByteArray):Int:=match XM ND.nm nm p.nodes 0 with
 | some i=>(i:Int)
 | none=>-1
def Za9(w:World)(p:PG)(an ai af ao:Option Addr)(cn ci cf co:Nat)(len:Nat)(S:Nat→Prop)(v:Value)(wr:World):Prop :=
 ∃i:Nat,v=.int .i64 (i:Int)∧i≤len∧Qb wr w.heap.size p an ai af ao cn ci cf co∧Below w.heap.size w wr∧S i
theorem UV{w:World}(p:PG)(an R O T:Option Addr)(X V U Y:Nat)(nm:ByteArray)(hp:AP w p an R O T X V U Y)(h1:p.ins.length≤1000)(h2:p.flows.length≤1000) :
  Calls prog 73 #[pv p an R O T X V U Y,.string nm] w fun x w'=>x=.returned (.int .i64 (YR p nm))∧Below w.heap.size w w':=by
 obtain⟨m,ins,flows,E⟩:=p;have HI:=hid hp.ins;have HF:=hid hp.flows;clear hp;simp only at h1 h2;unfold pv;simp only;obtain⟨r,hr⟩:=ez (YR ⟨m,ins,flows,E⟩ nm);rw[hr];have Z:=hid hr;clear hr;go_enter func73,ntmps73;go_wp2;go_loopw [5] (fun v wr=>Hid (Za9 w ⟨m,ins,flows,E⟩ an R O T X V U Y ins.length (fun i=>XM IN.nm nm (ins.drop i) i=XM IN.nm nm ins 0) v wr)) (fun i _=>ins.length-(intOf i).toNat)
 case atStart=>exact⟨0,rfl,Zk _,Yw w _,bq,rfl⟩
 obtain⟨i,rfl,hi,g,hbel,f⟩:=hrel.out;clear hrel
 try simp only at f
 unfold Qb at g;simp only at g;obtain⟨⟨x0,x1,x2,x3⟩,xf⟩:=Yx g;have z:=hid g;have HBEL:=hid hbel;have q:=hbel.size;by_cases C:i<ins.length
 ·obtain⟨bb,oo,rfl,j,G⟩:=HI.out.at C;have ae:=Eg w wr bb _ _ hbel j G;have ab:=Zd j q;obtain⟨L,_⟩:=ae;rw[ZM C,XM] at f;obtain⟨x,J⟩:=ez (ins[i]);rw[J] at L f;obtain⟨D,ag,ph,fa⟩:=x;simp only at L f;have I:=QR D nm;have A:(i:Int)<(ins.length:Int):=oq;clear hbel g G J j;by_cases y:D=nm
  ·rw[Z0 y] at f;rw[ZY y] at I;have H:r=(i:Int):=by rw[←Z.out];unfold YR;simp only;rw[←f]
   subst H;clear f y;go_wp2;go_ret;exact⟨rfl,HBEL.out⟩
  rw[ZZ y] at f;rw[ZX y] at I;have M:=hid f;clear f y;go_wp2;refine⟨⟨i+1,by go_num,oq,z.out,HBEL.out,M.out⟩,by simp[intOf];omega⟩
 have A:i=ins.length:=oq;subst A;have M:=hid (show none=XM IN.nm nm ins 0 by rw[Yn] at f;exact f);clear f hbel g;go_wp2;go_loopw [6] (fun v wr=>Hid (Za9 w ⟨m,ins,flows,E⟩ an R O T X V U Y flows.length (fun i=>XM FL.nm nm (flows.drop i) i=XM FL.nm nm flows 0) v wr)) (fun i _=>flows.length-(intOf i).toNat)
 case atStart=>exact⟨0,rfl,Zk _,z.out,HBEL.out,rfl⟩
 clear z HBEL q x0 x1 x2 x3 xf;obtain⟨i,rfl,hi,g,hbel,f⟩:=hrel.out;clear hrel
 try simp only at f
 unfold Qb at g;simp only at g;obtain⟨⟨x0,x1,x2,x3⟩,xf⟩:=Yx g;have z:=hid g;have HBEL:=hid hbel;have q:=hbel.size;by_cases C:i<flows.length
 ·obtain⟨bb,oo,rfl,j,F⟩:=HF.out.at C;have ac:=Vo w wr bb _ _ hbel j F;have ab:=Zd j q;obtain⟨L,_⟩:=ac;rw[ZM C,XM] at f;obtain⟨x,J⟩:=ez (flows[i]);rw[J] at L f;obtain⟨D,ex,fa⟩:=x;simp only at L f;have I:=QR D nm;have A:(i:Int)<(flows.length:Int):=oq;clear hbel g F J j;by_cases y:D=nm
  ·rw[Z0 y] at f;rw[ZY y] at I;have H:r=(ins.length:Int)+(i:Int):=by rw[←Z.out];unfold YR;simp only;rw[←M.out];simp only;rw[←f]
   subst H;clear f y;go_wp2;go_ret;exact⟨rfl,HBEL.out⟩
  rw[ZZ y] at f;rw[ZX y] at I;have aa:=hid f;clear f y;go_wp2;refine⟨⟨i+1,by go_num,oq,z.out,HBEL.out,aa.out⟩,by simp[intOf];omega⟩
 have A:i=flows.length:=oq;subst A;have h4:none=XM FL.nm nm flows 0:=by rw[Yn] at f;exact f
 have H:r=-1:=by rw[←Z.out];unfold YR;simp only;rw[←M.out];simp only;rw[←h4]
 subst H;clear f hbel g h4;go_wp2;go_ret;exact⟨rfl,HBEL.out⟩
theorem qR{w:World}(p:PG)(an I H J:Option Addr)(O M L R:Nat)(nm:ByteArray)(Z:AP w p an I H J O M L R)(h1:p.nodes.length≤1000) :
  Calls prog 71 #[pv p an I H J O M L R,.string nm] w fun x w'=>x=.returned (.int .i64 (Qk p nm))∧Below w.heap.size w w':=by
 obtain⟨nodes,E,j,y⟩:=p;have HN:=hid Z.nodes;clear Z;simp only at h1;unfold pv;simp only;obtain⟨r,V⟩:=ez (Qk ⟨nodes,E,j,y⟩ nm);rw[V];have X:=hid V;clear V;go_enter func71,ntmps71;go_wp2;go_loopw [5] (fun v wr=>Hid (Za9 w ⟨nodes,E,j,y⟩ an I H J O M L R nodes.length (fun i=>XM ND.nm nm (nodes.drop i) i=XM ND.nm nm nodes 0) v wr)) (fun i _=>nodes.length-(intOf i).toNat)
 case atStart=>exact⟨0,rfl,Zk _,Yw w _,bq,rfl⟩
 obtain⟨i,rfl,hi,g,hbel,f⟩:=hrel.out;clear hrel
 try simp only at f
 unfold Qb at g;simp only at g;obtain⟨⟨x0,x1,x2,x3⟩,xf⟩:=Yx g;have G:=hid g;have HBEL:=hid hbel;have D:=hbel.size;by_cases C:i<nodes.length
 ·obtain⟨bb,oo,rfl,m,q⟩:=HN.out.at C;have U:=Vb w wr bb _ _ hbel m q;have ab:=Zd m D;obtain⟨y0,_⟩:=U;rw[ZM C,XM] at f;obtain⟨x,hx⟩:=ez (nodes[i]);rw[hx] at y0 f;obtain⟨F,ps,aa,bd,fa⟩:=x;simp only at y0 f;have hq:=QR F nm;have A:(i:Int)<(nodes.length:Int):=oq;clear hbel g q hx m;by_cases z:F=nm
  ·rw[Z0 z] at f;rw[ZY z] at hq;have T:r=(i:Int):=by rw[←X.out];unfold Qk;simp only;rw[←f]
   subst T;clear f z;go_wp2;go_ret;exact⟨rfl,HBEL.out⟩
  rw[ZZ z] at f;rw[ZX z] at hq;have HS:=hid f;clear f z;go_wp2;refine⟨⟨i+1,by go_num,oq,G.out,HBEL.out,HS.out⟩,by simp[intOf];omega⟩
 have A:i=nodes.length:=oq;subst A;have Y:none=XM ND.nm nm nodes 0:=by rw[Yn] at f;exact f
 have T:r=-1:=by rw[←X.out];unfold Qk;simp only;rw[←Y]
 subst T;clear f hbel g Y;go_wp2;go_ret;exact⟨rfl,HBEL.out⟩
def xG(x:Ending):Prop:=∃b:Bool,x=.returned (.bool b)
def Ex(nm nm1:ByteArray)(ps:List ByteArray)(pa:Option Addr)(pc:Nat)(bud k1 n1 d1 a1 fa:Int)(ad:Option Addr)(len cap:Nat):Value :=
 .agg #[.string nm,.slice pa ps.length pc,.int .i64 bud,.int .i64 k1,.string nm1,.int .i64 n1,.int .i64 d1,.slice ad len cap,.int .i64 a1,.int .i64 fa]
theorem QW{w:World}{b:Nat}{f g j m q v x y z A:Value}{t:TypeId}(h:w.heap[b]?=some (.cells #[f,g,j,m,q,v,x,y,z,A] t (0,0))) :
  (w.cell? ⟨b,0,none⟩=some f∧w.cell? ⟨b,1,none⟩=some g∧w.cell? ⟨b,2,none⟩=some j∧w.cell? ⟨b,3,none⟩=some m∧w.cell? ⟨b,4,none⟩=some q∧w.cell? ⟨b,5,none⟩=some v∧w.cell? ⟨b,6,none⟩=some x∧w.cell? ⟨b,7,none⟩=some y∧w.cell? ⟨b,8,none⟩=some z∧w.cell? ⟨b,9,none⟩=some A)∧∀o,w.frozen? ⟨b,o,none⟩=false:=by
 refine⟨⟨?_,?_,?_,?_,?_,?_,?_,?_,?_,?_⟩,?_⟩
 all_goals first|(intro o;simp[World.frozen?,h])|simp[World.cell?,h]
def Zfb(w:World)(v0 v1 v2 v3 v4 v5 v6 v7 v8 v9:Value)(len:Nat)(v:Value)(wr:World):Prop :=
 ∃i:Nat,v=.int .i64 (i:Int)∧i≤len∧wr.heap[w.heap.size]?=some (.cells #[v0,v1,v2,v3,v4,v5,v6,v7,v8,v9] 113 (0,0))∧Below w.heap.size w wr
theorem ZaC{w:World}(nm nm1 q:ByteArray)(ps:List ByteArray)(H:Option Addr)(U:Nat)(y R T L I M:Int)(J:Option Addr)(len cap:Nat)(z:Row xH 1 w ps H)(Y:ps.length≤1000) :
  Calls prog 130 #[Ex nm nm1 ps H U y R T L I M J len cap,.string q] w fun x w'=>xG x∧Below w.heap.size w w':=by
 have D:=hid z;clear z;unfold Ex;go_enter func130,ntmps130;go_wp2;go_loopw [5] (fun v wr=>Hid (Zfb w (.string nm) (.slice H ps.length U) (.int .i64 y) (.int .i64 R) (.string nm1) (.int .i64 T) (.int .i64 L) (.slice J len cap) (.int .i64 I) (.int .i64 M) ps.length v wr)) (fun i _=>ps.length-(intOf i).toNat)
 case atStart=>exact⟨0,rfl,Zk _,Yw w _,bq⟩
 obtain⟨i,rfl,hi,f,hbel⟩:=hrel.out;clear hrel;obtain⟨⟨x0,X,x2,x3,x4,x5,x6,x7,x8,x9⟩,xf⟩:=QW f;have C:=hid f;have HBEL:=hid hbel;by_cases F:i<ps.length
 ·have j:=D.out.below QQ hbel;obtain⟨Z,po,G,V,g,m⟩:=j.at F;rw[G] at X;rw[Z6] at g;generalize ps[i]=s at g m;have E:(i:Int)<(ps.length:Int):=oq;have O:=QR s q;clear hbel f j m;by_cases A:s=q
  ·rw[ZY A] at O;clear A;go_wp2;go_ret;exact⟨⟨_,rfl⟩,HBEL.out⟩
  rw[ZX A] at O;clear A;go_wp2;exact⟨⟨i+1,by go_num,oq,C.out,HBEL.out⟩,by simp[intOf];omega⟩
 have E:(i:Int)=(ps.length:Int):=oq;clear hbel f;go_wp2;go_ret;exact⟨⟨_,rfl⟩,HBEL.out⟩
def Q7(e:PE):Prop:=∀(w:World)(nm nm1:ByteArray)(ps:List ByteArray)(pa:Option Addr)(pc:Nat)(bud k1 n1 d1 a1 fa:Int)(ad':Option Addr)(len cap':Nat)(ad:Option Addr)(cap:Nat),Row xH 1 w ps pa→ps.length≤1000→AE w e ad cap →
 Calls prog 72 #[Ex nm nm1 ps pa pc bud k1 n1 d1 a1 fa ad' len cap',.agg #[.int .i64 e.k,.string e.nm,.int .i64 e.n,.int .i64 e.d,.slice ad e.args.len cap,.int .i64 e.a]] w fun x w'=>xG x∧Below w.heap.size w w'
def Za7(w:World)(e:PE)(ad:Option Addr)(cap:Nat)(v0 v1 v2 v3 v4 v5 v6 v7 v8 v9:Value)(v:Value)(wr:World):Prop :=
 ∃(i:Nat)(rest:PL),v=.int .i64 (i:Int)∧Qn wr ad e.args rest i∧wr.heap[w.heap.size]?=some (.cells #[v0,v1,v2,v3,v4,v5,v6,v7,v8,v9] 113 (0,0)) ∧
  wr.heap[w.heap.size+1]?=some (.cells #[.int .i64 e.k,.string e.nm,.int .i64 e.n,.int .i64 e.d,.slice ad e.args.len cap,.int .i64 e.a] 111 (0,0))∧Below w.heap.size w wr
theorem vE(e:PE)(ih:∀e':PE,e'.args.sz<e.args.sz→Q7 e'):Q7 e:=by
 intro w nm nm1 ps U pc D k1 n1 d1 Z fa C len g ad cap ag ab aa;obtain⟨k,T,n,d,args,a⟩:=e;have af:=aa.len;simp only at af ⊢;have HA:=hid aa;have ac:=hid ih;have Y:=hid ag;have ae:=hid (fun(w':World) (h:Row xH 1 w' ps U)=>ZaC (w:=w') nm nm1 T ps U pc D k1 n1 d1 Z fa C len g h ab);unfold Ex at ae ⊢;clear aa ih ag;have main:∀(W:World),W.heap[w.heap.size]?=some (.cells #[.string nm,.slice U ps.length pc,.int .i64 D,.int .i64 k1,.string nm1,.int .i64 n1,.int .i64 d1,.slice C len g,.int .i64 Z,.int .i64 fa] 113 (0,0)) →
   W.heap[w.heap.size+1]?=some (.cells #[.int .i64 k,.string T,.int .i64 n,.int .i64 d,.slice ad args.len cap,.int .i64 a] 111 (0,0))→Below w.heap.size w W→Za7 w ⟨k,T,n,d,args,a⟩ ad cap (.string nm) (.slice U ps.length pc) (.int .i64 D) (.int .i64 k1) (.string nm1) (.int .i64 n1) (.int .i64 d1) (.slice C len g) (.int .i64 Z) (.int .i64 fa) (.int .i64 0) W:=fun W h1 h2 h3 =>
  ⟨0,args,rfl,(Qn.start HA.out.args).below h3,h1,h2,h3⟩
 have H:=hid main;clear main;by_cases hk:k=11
 ·subst hk;go_enter func72,ntmps72;go_wp2_with (go_at_call 130;go_loud (refine(ae.out _ (Y.out.below QQ bq)).mono ?_;rintro x w1 ⟨⟨b,rfl⟩,hb1⟩;obtain⟨ah,ai⟩:=YB hb1;cases b))
  all_goals (try (go_ret;exact⟨⟨_,rfl⟩,bq⟩))
  go_loopw [5] (fun v wr=>Hid (Za7 w ⟨11,T,n,d,args,a⟩ ad cap (.string nm) (.slice U ps.length pc) (.int .i64 D) (.int .i64 k1) (.string nm1) (.int .i64 n1) (.int .i64 d1) (.slice C len g) (.int .i64 Z) (.int .i64 fa) v wr)) (fun i _=>args.len-(intOf i).toNat)
  case atStart=>exact H.out _ ((hb1.block _ oq).trans ((Za _ _ _ (by simp)).trans (Yw w _))) ((hb1.block _ oq).trans (by simpa using Yw (w.alloc _) _)) bq
  obtain⟨i,rest,rfl,f,q,j,hbel⟩:=hrel.out;clear hrel;simp only at j;obtain⟨⟨x0,x1,x2,x3,x4,x5,x6,x7,x8,x9⟩,xf⟩:=QW q;obtain⟨⟨e0,e1,e2,e3,e4,e5⟩,ef⟩:=YV j;have I:=hid q;have G:=hid j;have HBEL:=hid hbel;have F:=f.1;simp only at F;have m:=hid f;have A:=Zb q;have z:=Zb j;clear q j f
  cases rest with
  | nil =>
   have O:(i:Int)=(args.len:Int):=by simp only[PL.len] at F;omega
   clear hbel;go_wp2;go_ret;exact⟨⟨_,rfl⟩,HBEL.out⟩
  | cons k9 nm9 n9 d9 args9 a9 tl =>
   have O:(i:Int)<(args.len:Int):=by simp only[PL.len] at F;omega
   obtain⟨b,o,rfl,hb,h0,h1,h2,h3,h5,hn,⟨J,y,h4,E,L,M⟩,ht⟩:=m.out.2.2.resolve_left (by intro h;cases h);have R:=m.out.2.1;simp only[PL.sz] at R;have V:=hid (show AE wr ⟨k9,nm9,n9,d9,args9,a9⟩ J y from ⟨hn,⟨E,L⟩,M⟩);have X:=hid (fun(W':World) (hW:Below wr.heap.size wr W')=>ac.out ⟨k9,nm9,n9,d9,args9,a9⟩ (by show args9.sz<args.sz;omega) W' nm nm1 ps U pc D k1 n1 d1 Z fa C len g J y ((Y.out.below QQ HBEL.out).below QQ hW) ab (V.out.below hW));unfold Ex at X;simp only at X;clear hbel hn M ht;go_wp2;go_region_with (go_at_call 72;refine(X.out _ bq).mono ?_;rintro x w2 ⟨⟨b2,rfl⟩,hb2⟩)
   all_goals go_wp2
   all_goals first
    | (go_ret;exact⟨⟨_,rfl⟩,bq⟩)
    | (go_roundw;(case rel=>first|exact⟨i+1,tl,by go_num,m.out.tail.below bq,(hb2.block _ A).trans I.out,(hb2.block _ z).trans G.out,bq⟩|((repeat apply Ye);exact⟨⟨i+1,tl,by go_num,m.out.tail.below bq,(hb2.block _ A).trans I.out,(hb2.block _ z).trans G.out,bq⟩,rfl⟩));(case measure=>simp[intOf];omega))
 have aj:(k == 11)=false:=ZW.2 hk;clear hk;go_enter func72,ntmps72;go_wp2;go_loopw [5] (fun v wr=>Hid (Za7 w ⟨k,T,n,d,args,a⟩ ad cap (.string nm) (.slice U ps.length pc) (.int .i64 D) (.int .i64 k1) (.string nm1) (.int .i64 n1) (.int .i64 d1) (.slice C len g) (.int .i64 Z) (.int .i64 fa) v wr)) (fun i _=>args.len-(intOf i).toNat)
 case atStart=>exact H.out _ ((Za _ _ _ (by simp)).trans (Yw w _)) (by simpa using Yw (w.alloc _) _) bq
 obtain⟨i,rest,rfl,f,q,j,hbel⟩:=hrel.out;clear hrel;simp only at j;obtain⟨⟨x0,x1,x2,x3,x4,x5,x6,x7,x8,x9⟩,xf⟩:=QW q;obtain⟨⟨e0,e1,e2,e3,e4,e5⟩,ef⟩:=YV j;have I:=hid q;have G:=hid j;have HBEL:=hid hbel;have F:=f.1;simp only at F;have m:=hid f;have A:=Zb q;have z:=Zb j;clear q j f
 cases rest with
 | nil =>
  have O:(i:Int)=(args.len:Int):=by simp only[PL.len] at F;omega
  clear hbel;go_wp2;go_ret;exact⟨⟨_,rfl⟩,HBEL.out⟩
 | cons k9 nm9 n9 d9 args9 a9 tl =>
  have O:(i:Int)<(args.len:Int):=by simp only[PL.len] at F;omega
  obtain⟨b,o,rfl,hb,h0,h1,h2,h3,h5,hn,⟨J,y,h4,E,L,M⟩,ht⟩:=m.out.2.2.resolve_left (by intro h;cases h);have R:=m.out.2.1;simp only[PL.sz] at R;have V:=hid (show AE wr ⟨k9,nm9,n9,d9,args9,a9⟩ J y from ⟨hn,⟨E,L⟩,M⟩);have X:=hid (fun(W':World) (hW:Below wr.heap.size wr W')=>ac.out ⟨k9,nm9,n9,d9,args9,a9⟩ (by show args9.sz<args.sz;omega) W' nm nm1 ps U pc D k1 n1 d1 Z fa C len g J y ((Y.out.below QQ HBEL.out).below QQ hW) ab (V.out.below hW));unfold Ex at X;simp only at X;clear hbel hn M ht;go_wp2;go_region_with (go_at_call 72;refine(X.out _ bq).mono ?_;rintro x w2 ⟨⟨b2,rfl⟩,hb2⟩)
  all_goals go_wp2
  all_goals first
   | (go_ret;exact⟨⟨_,rfl⟩,bq⟩)
   | (go_roundw;(case rel=>first|exact⟨i+1,tl,by go_num,m.out.tail.below bq,(hb2.block _ A).trans I.out,(hb2.block _ z).trans G.out,bq⟩|((repeat apply Ye);exact⟨⟨i+1,tl,by go_num,m.out.tail.below bq,(hb2.block _ A).trans I.out,(hb2.block _ z).trans G.out,bq⟩,rfl⟩));(case measure=>simp[intOf];omega))
theorem eL(e:PE):Q7 e:=by
 suffices h:∀(N:Nat)(e:PE),e.args.sz<N→Q7 e from h _ e (ZU _)
 intro N
 induction N with
 | zero=>intro e h;omega
 | succ N ih=>intro e h;exact vE e (fun e' h'=>ih e' oq)
def nm1(p:PG)(k:Int)(nm:ByteArray):Bool:=decide (k≠1)||decide (0≤YR p nm)
def nmL(p:PG):PL→Bool
 | .nil=>true
 | .cons k nm n d args a tl=>(nm1 p k nm&&nmL p args)&&nmL p tl
def nd1(p:PG)(k:Int)(nm:ByteArray)(len:Nat):Bool:=decide (k≠2)||(match XM ND.nm nm p.nodes 0 with
 | some i=>decide ((p.nodes[i]?).map (fun x=>x.ps.length)=some len)
 | none=>false)
def nq1(p:PG)(k:Int)(nm:ByteArray)(len:Nat):Bool:=nm1 p k nm&&nd1 p k nm len
def nqL(p:PG):PL→Bool
 | .nil=>true
 | .cons k nm n d args a tl=>(nq1 p k nm args.len&&nqL p args)&&nqL p tl
theorem Zcs{p:PG}{k:Int}{nm:ByteArray}{len:Nat}(h:nq1 p k nm len=true):nm1 p k nm=true:=by
 unfold nq1 at h;rw[ZA] at h;exact h.1
theorem uz{p:PG}:∀l:PL,nqL p l=true→nmL p l=true
 | .nil,_=>rfl
 | .cons k nm n d args a tl,h=>by
  rw[nqL,ZA,ZA] at h;rw[nmL,Zcs h.1.1,uz args h.1.2,uz tl h.2];rfl
def GL(p:PG)(e:PE)(x:Ending):Prop:=∃b:Bool,x=.returned (.bool b)∧(b=true→nq1 p e.k e.nm e.args.len=true∧nqL p e.args=true)
def VR(p:PG)(an ai af ao:Option Addr)(cn ci cf co:Nat)(e:PE):Prop:=∀(w:World)(ad:Option Addr)(cap:Nat),AP w p an ai af ao cn ci cf co→AE w e ad cap →
 Calls prog 74 #[pv p an ai af ao cn ci cf co,.agg #[.int .i64 e.k,.string e.nm,.int .i64 e.n,.int .i64 e.d,.slice ad e.args.len cap,.int .i64 e.a]] w fun x w'=>GL p e x∧Below w.heap.size w w'
def kD(w:World)(p:PG)(an ai af ao:Option Addr)(cn ci cf co:Nat)(e:PE)(ad:Option Addr)(cap:Nat)(v:Value)(wr:World):Prop :=
 ∃(i:Nat)(rest:PL),v=.int .i64 (i:Int)∧Qn wr ad e.args rest i∧(nqL p rest=true→nqL p e.args=true)∧Qb wr w.heap.size p an ai af ao cn ci cf co ∧
  wr.heap[w.heap.size+1]?=some (.cells #[.int .i64 e.k,.string e.nm,.int .i64 e.n,.int .i64 e.d,.slice ad e.args.len cap,.int .i64 e.a] 111 (0,0))∧Below w.heap.size w wr
theorem ua(p:PG)(an ai af ao:Option Addr)(cn ci cf co:Nat)(be:p.nodes.length≤1000)(bf:p.ins.length≤1000)(bg:p.flows.length≤1000)(e:PE)(ih:∀e':PE,e'.args.sz<e.args.sz→VR p an ai af ao cn ci cf co e'):VR p an ai af ao cn ci cf co e:=by
 intro w ad cap hp ar;obtain⟨k,m,n,d,args,a⟩:=e;have av:=ar.len;simp only at av ⊢;have HA:=hid ar;have aq:=hid ih;have HP:=hid hp;have aa:=hid (fun(w':World) (h:Below w.heap.size w w')=>UV (w:=w') p an ai af ao cn ci cf co m (HP.out.below h) bf bg);have X:=hid (fun(w':World) (h:Below w.heap.size w w')=>qR (w:=w') p an ai af ao cn ci cf co m (HP.out.below h) be);unfold pv at aa X ⊢;have main:∀(W:World),Qb W w.heap.size p an ai af ao cn ci cf co→W.heap[w.heap.size+1]?=some (.cells #[.int .i64 k,.string m,.int .i64 n,.int .i64 d,.slice ad args.len cap,.int .i64 a] 111 (0,0))→Below w.heap.size w W →
   kD w p an ai af ao cn ci cf co ⟨k,m,n,d,args,a⟩ ad cap (.int .i64 0) W:=fun W h1 h2 h3=>⟨0,args,rfl,(Qn.start HA.out.args).below h3,fun h=>h,h1,h2,h3⟩
 have V:=hid main;clear main ar ih hp;by_cases hk:k=1
 ·subst hk;by_cases aj:YR p m<0
  ·have ac:decide (YR p m<0)=true:=ZY aj;generalize hfi:YR p m=fi at aa aj ac;clear hfi;go_enter func74,ntmps74;go_wp2_with (go_at_call 73;go_loud (refine(aa.out _ bq).mono ?_;rintro x I ⟨rfl,hb1⟩;obtain⟨ag,ah⟩:=YB hb1;have q1:w.heap.size<I.heap.size:=Yy hb1 oq;have q2:w.heap.size+1<I.heap.size:=Yy hb1 oq));go_ret;exact⟨⟨false,rfl,fun h=>by cases h⟩,bq⟩
  have am:0≤YR p m:=oq;have ba:=hid am;have ac:decide (YR p m<0)=false:=ZX aj;generalize hfi:YR p m=fi at aa am aj ac;clear hfi;go_enter func74,ntmps74;go_wp2_with (go_at_call 73;go_loud (refine(aa.out _ bq).mono ?_;rintro x I ⟨rfl,hb1⟩;obtain⟨ag,ah⟩:=YB hb1;have q1:w.heap.size<I.heap.size:=Yy hb1 oq;have q2:w.heap.size+1<I.heap.size:=Yy hb1 oq));have ab:=hid (show nq1 p 1 m args.len=true from by unfold nq1 nm1 nd1;simp;exact ba.out);go_loopw [6] (fun v wr=>Hid (kD w p an ai af ao cn ci cf co ⟨1,m,n,d,args,a⟩ ad cap v wr)) (fun i _=>args.len-(intOf i).toNat)
  case atStart=>exact V.out _ ((hb1.block _ oq).trans ((Za _ _ _ (by simp)).trans (Yw w _))) ((hb1.block _ oq).trans (by simpa using Yw (w.alloc _) _)) bq
  obtain⟨i,rest,rfl,f,y,z,q,hbel⟩:=hrel.out;clear hrel;simp only at q y;unfold Qb at z;obtain⟨⟨z0,z1,z2,z3⟩,zf⟩:=Yx z;obtain⟨⟨e0,e1,e2,e3,e4,e5⟩,ef⟩:=YV q;have L:=hid z;have J:=hid q;have HBEL:=hid hbel;have F:=hid y;have H:=f.1;simp only at H;have A:=hid f;have E:=Zb z;have D:=Zb q;clear z q f y
  cases rest with
  | nil =>
   have T:(i:Int)=(args.len:Int):=by simp only[PL.len] at H;omega
   clear hbel;go_wp2;go_ret;exact⟨⟨true,rfl,fun _=>⟨ab.out,F.out rfl⟩⟩,HBEL.out⟩
  | cons k9 nm9 n9 d9 args9 a9 tl =>
   have T:(i:Int)<(args.len:Int):=by simp only[PL.len] at H;omega
   obtain⟨b,o,rfl,hb,h0,h1,h2,h3,h5,hn,⟨M,C,h4,G,O,R⟩,ht⟩:=A.out.2.2.resolve_left (by intro h;cases h);have U:=A.out.2.1;simp only[PL.sz] at U;have Y:=hid (show AE wr ⟨k9,nm9,n9,d9,args9,a9⟩ M C from ⟨hn,⟨G,O⟩,R⟩);have Z:=hid (fun(W':World) (hW:Below wr.heap.size wr W')=>aq.out ⟨k9,nm9,n9,d9,args9,a9⟩ (by show args9.sz<args.sz;omega) W' M C ((HP.out.below HBEL.out).below hW) (Y.out.below hW));unfold pv GL at Z;simp only at Z;clear hbel hn R ht;go_wp2;go_region_with (go_at_call 74;refine(Z.out _ bq).mono ?_;rintro x w2 ⟨⟨b2,rfl,g⟩,hb2⟩)
   all_goals cases b2
   all_goals go_wp2
   all_goals first
    | (go_ret;exact⟨⟨false,rfl,fun h=>by cases h⟩,bq⟩)
    | (go_roundw;(case rel=>first|exact⟨i+1,tl,by go_num,A.out.tail.below bq,fun h=>F.out (by rw[nqL,(g rfl).1,(g rfl).2,h];rfl),(hb2.block _ E).trans L.out,(hb2.block _ D).trans J.out,bq⟩|((repeat apply Ye);exact⟨⟨i+1,tl,by go_num,A.out.tail.below bq,fun h=>F.out (by rw[nqL,(g rfl).1,(g rfl).2,h];rfl),(hb2.block _ E).trans L.out,(hb2.block _ D).trans J.out,bq⟩,rfl⟩));(case measure=>simp[intOf];omega))
 have bp:(k == 1)=false:=ZW.2 hk;have bc:=hid hk;by_cases ak:k=2
 ·subst ak;clear hk
  cases hfs:XM ND.nm m p.nodes 0 with
  | none =>
   have ae:Qk p m=-1:=by unfold Qk;rw[hfs]
   rw[ae] at X;clear hfs ae;go_enter func74,ntmps74;go_wp2_with (go_at_call 71;go_loud (refine(X.out _ bq).mono ?_;rintro x I ⟨rfl,hb1⟩;obtain⟨ag,ah⟩:=YB hb1;have q1:w.heap.size<I.heap.size:=Yy hb1 oq;have q2:w.heap.size+1<I.heap.size:=Yy hb1 oq));go_quiet (fail);go_wp2;go_ret;exact⟨⟨false,rfl,fun h=>by cases h⟩,bq⟩
  | some ni =>
   have ae:Qk p m=(ni:Int):=by unfold Qk;rw[hfs]
   rw[ae] at X;obtain⟨j,hj,xx,ay,_⟩:=QJ _ _ _ _ _ hfs;obtain rfl:ni=j:=oq;clear hj;have ax:ni<p.nodes.length:=(Zz.1 ay).1;obtain⟨bb,oo,rfl,al,aw⟩:=HP.out.nodes.at ax;obtain⟨_,⟨pa,pc,y1,bi,br,_⟩,_⟩:=aw;have bo:(ni:Int)<(p.nodes.length:Int):=oq;have az:=hid hfs;generalize hplq:p.nodes[ni].ps.length=pl at y1 bi;have bd:=hid hplq;clear hfs ae ay hplq;by_cases bh:pl=args.len
   ·have ap:((pl:Int) == (args.len:Int))=true:=by rw[beq_iff_eq];omega
    subst bh;go_enter func74,ntmps74;go_wp2_with (go_at_call 71;go_loud (refine(X.out _ bq).mono ?_;rintro x I ⟨rfl,hb1⟩;obtain⟨ag,ah⟩:=YB hb1;have q1:w.heap.size<I.heap.size:=Yy hb1 oq;have q2:w.heap.size+1<I.heap.size:=Yy hb1 oq;have bj:I.cell? ⟨bb,oo+ni*10+1,none⟩=_:=(show Below w.heap.size w I from bq).cell (p:=⟨bb,oo+ni*10+1,none⟩) al |>.trans y1));go_quiet (fail);go_wp2;have ab:=hid (show nq1 p 2 m args.len=true from by unfold nq1 nm1 nd1;rw[az.out];simp[bd.out,Ze ax]);go_loopw [6] (fun v wr=>Hid (kD w p (some ⟨bb,oo,none⟩) ai af ao cn ci cf co ⟨2,m,n,d,args,a⟩ ad cap v wr)) (fun i _=>args.len-(intOf i).toNat)
    case atStart=>exact V.out _ ((hb1.block _ oq).trans ((Za _ _ _ (by simp)).trans (Yw w _))) ((hb1.block _ oq).trans (by simpa using Yw (w.alloc _) _)) bq
    obtain⟨i,rest,rfl,f,y,z,q,hbel⟩:=hrel.out;clear hrel;simp only at q y;unfold Qb at z;obtain⟨⟨z0,z1,z2,z3⟩,zf⟩:=Yx z;obtain⟨⟨e0,e1,e2,e3,e4,e5⟩,ef⟩:=YV q;have L:=hid z;have J:=hid q;have HBEL:=hid hbel;have F:=hid y;have H:=f.1;simp only at H;have A:=hid f;have E:=Zb z;have D:=Zb q;clear z q f y
    cases rest with
    | nil =>
     have T:(i:Int)=(args.len:Int):=by simp only[PL.len] at H;omega
     clear hbel;go_wp2;go_ret;exact⟨⟨true,rfl,fun _=>⟨ab.out,F.out rfl⟩⟩,HBEL.out⟩
    | cons k9 nm9 n9 d9 args9 a9 tl =>
     have T:(i:Int)<(args.len:Int):=by simp only[PL.len] at H;omega
     obtain⟨b,o,rfl,hb,h0,h1,h2,h3,h5,hn,⟨M,C,h4,G,O,R⟩,ht⟩:=A.out.2.2.resolve_left (by intro h;cases h);have U:=A.out.2.1;simp only[PL.sz] at U;have Y:=hid (show AE wr ⟨k9,nm9,n9,d9,args9,a9⟩ M C from ⟨hn,⟨G,O⟩,R⟩);have Z:=hid (fun(W':World) (hW:Below wr.heap.size wr W')=>aq.out ⟨k9,nm9,n9,d9,args9,a9⟩ (by show args9.sz<args.sz;omega) W' M C ((HP.out.below HBEL.out).below hW) (Y.out.below hW));unfold pv GL at Z;simp only at Z;clear hbel hn R ht;go_wp2;go_region_with (go_at_call 74;refine(Z.out _ bq).mono ?_;rintro x w2 ⟨⟨b2,rfl,g⟩,hb2⟩)
     all_goals cases b2
     all_goals go_wp2
     all_goals first
      | (go_ret;exact⟨⟨false,rfl,fun h=>by cases h⟩,bq⟩)
      | (go_roundw;(case rel=>first|exact⟨i+1,tl,by go_num,A.out.tail.below bq,fun h=>F.out (by rw[nqL,(g rfl).1,(g rfl).2,h];rfl),(hb2.block _ E).trans L.out,(hb2.block _ D).trans J.out,bq⟩|((repeat apply Ye);exact⟨⟨i+1,tl,by go_num,A.out.tail.below bq,fun h=>F.out (by rw[nqL,(g rfl).1,(g rfl).2,h];rfl),(hb2.block _ E).trans L.out,(hb2.block _ D).trans J.out,bq⟩,rfl⟩));(case measure=>simp[intOf];omega))
   have ap:((pl:Int) == (args.len:Int))=false:=by rw[ZW];omega
   have bm:((pl:Int) != (args.len:Int))=true:=by rw[bne,ap];rfl
   have bn:decide ((ni:Int)<0)=false:=ZX oq;have bl:¬(pl:Int)=(args.len:Int):=oq;go_enter func74,ntmps74;go_wp2_with (go_at_call 71;go_loud (refine(X.out _ bq).mono ?_;rintro x I ⟨rfl,hb1⟩;obtain⟨ag,ah⟩:=YB hb1;have q1:w.heap.size<I.heap.size:=Yy hb1 oq;have q2:w.heap.size+1<I.heap.size:=Yy hb1 oq;have bj:I.cell? ⟨bb,oo+ni*10+1,none⟩=_:=(show Below w.heap.size w I from bq).cell (p:=⟨bb,oo+ni*10+1,none⟩) al |>.trans y1));go_quiet (fail);go_wp2
   all_goals first|(go_ret;exact⟨⟨false,rfl,fun h=>by cases h⟩,bq⟩)|(exfalso;omega)
 have bk:(k == 2)=false:=ZW.2 ak;have au:=hid ak;clear hk ak;go_enter func74,ntmps74;go_wp2;have ab:=hid (show nq1 p k m args.len=true from by unfold nq1 nm1 nd1;simp[bc.out,au.out]);go_loopw [6] (fun v wr=>Hid (kD w p an ai af ao cn ci cf co ⟨k,m,n,d,args,a⟩ ad cap v wr)) (fun i _=>args.len-(intOf i).toNat)
 case atStart=>exact V.out _ ((Za _ _ _ (by simp)).trans (Yw w _)) (by simpa using Yw (w.alloc _) _) bq
 obtain⟨i,rest,rfl,f,y,z,q,hbel⟩:=hrel.out;clear hrel;simp only at q y;unfold Qb at z;obtain⟨⟨z0,z1,z2,z3⟩,zf⟩:=Yx z;obtain⟨⟨e0,e1,e2,e3,e4,e5⟩,ef⟩:=YV q;have L:=hid z;have J:=hid q;have HBEL:=hid hbel;have F:=hid y;have H:=f.1;simp only at H;have A:=hid f;have E:=Zb z;have D:=Zb q;clear z q f y
 cases rest with
 | nil =>
  have T:(i:Int)=(args.len:Int):=by simp only[PL.len] at H;omega
  clear hbel;go_wp2;go_ret;exact⟨⟨true,rfl,fun _=>⟨ab.out,F.out rfl⟩⟩,HBEL.out⟩
 | cons k9 nm9 n9 d9 args9 a9 tl =>
  have T:(i:Int)<(args.len:Int):=by simp only[PL.len] at H;omega
  obtain⟨b,o,rfl,hb,h0,h1,h2,h3,h5,hn,⟨M,C,h4,G,O,R⟩,ht⟩:=A.out.2.2.resolve_left (by intro h;cases h);have U:=A.out.2.1;simp only[PL.sz] at U;have Y:=hid (show AE wr ⟨k9,nm9,n9,d9,args9,a9⟩ M C from ⟨hn,⟨G,O⟩,R⟩);have Z:=hid (fun(W':World) (hW:Below wr.heap.size wr W')=>aq.out ⟨k9,nm9,n9,d9,args9,a9⟩ (by show args9.sz<args.sz;omega) W' M C ((HP.out.below HBEL.out).below hW) (Y.out.below hW));unfold pv GL at Z;simp only at Z;clear hbel hn R ht;go_wp2;go_region_with (go_at_call 74;refine(Z.out _ bq).mono ?_;rintro x w2 ⟨⟨b2,rfl,g⟩,hb2⟩)
  all_goals cases b2
  all_goals go_wp2
  all_goals first
   | (go_ret;exact⟨⟨false,rfl,fun h=>by cases h⟩,bq⟩)
   | (go_roundw;(case rel=>first|exact⟨i+1,tl,by go_num,A.out.tail.below bq,fun h=>F.out (by rw[nqL,(g rfl).1,(g rfl).2,h];rfl),(hb2.block _ E).trans L.out,(hb2.block _ D).trans J.out,bq⟩|((repeat apply Ye);exact⟨⟨i+1,tl,by go_num,A.out.tail.below bq,fun h=>F.out (by rw[nqL,(g rfl).1,(g rfl).2,h];rfl),(hb2.block _ E).trans L.out,(hb2.block _ D).trans J.out,bq⟩,rfl⟩));(case measure=>simp[intOf];omega))
theorem eZ(p:PG)(an g f j:Option Addr)(v q m x:Nat)(y:p.nodes.length≤1000)(z:p.ins.length≤1000)(A:p.flows.length≤1000)(e:PE):VR p an g f j v q m x e:=by
 suffices h:∀(N:Nat)(e:PE),e.args.sz<N→VR p an g f j v q m x e from h _ e (ZU _)
 intro N
 induction N with
 | zero=>intro e h;omega
 | succ N ih=>intro e h;exact ua p an g f j v q m x y z A e (fun e' h'=>ih e' oq)
end Go.Proofs.YtdgifkjaflfdeaaGreatDoor.syn
