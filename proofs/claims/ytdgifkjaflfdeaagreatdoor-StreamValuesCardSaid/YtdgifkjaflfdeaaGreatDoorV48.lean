/- Parts of the proof. -/
import Derived.Test.YtdgifkjaflfdeaaGreatDoorV39
import Derived.Test.YtdgifkjaflfdeaaGreatDoorV44
import Derived.Test.YtdgifkjaflfdeaaGreatDoorV45
set_option linter.all false
set_option maxRecDepth 100000
set_option maxHeartbeats 16000000
namespace Go.Proofs.YtdgifkjaflfdeaaGreatDoor.syn
open Tryz
open Go.RowKit
def Zha(per ph u:Int):Nat:=if u≤ph then 0 else ((u-1-ph)/per).toNat+1
def tkO(f:FD)(t:Nat):TD:=f.tasks.getD t ⟨0,1,0,[]⟩
def Zep(f:FD)(b:Nat × Nat):Int:=(tkO f b.1).ph+(b.2:Int)*(tkO f b.1).per
def Zfj(f:FD)(u:Int)(t:Nat):Nat:=Zha (tkO f t).per (tkO f t).ph u
def ZeT(t n:Nat):List (Nat × Nat):=(List.range n).map (fun k=>(t,k))
def J0(f:FD)(order:List Int)(u:Int):List (Nat × Nat):=order.flatMap (fun t=>ZeT t.toNat (Zfj f u t.toNat))
def RJ(f:FD)(order:List Int)(a b:Nat × Nat):Prop:=Zep f a<Zep f b∨(Zep f a=Zep f b∧order.idxOf (a.1:Int)<order.idxOf (b.1:Int))
theorem RJ.trans{f:FD}{order:List Int}{a b c:Nat × Nat}(h:RJ f order a b)(k:RJ f order b c):RJ f order a c:=by
 unfold RJ at *;omega
theorem RJ.asymm{f:FD}{order:List Int}{a b:Nat × Nat}(h:RJ f order a b)(k:RJ f order b a):False:=by
 unfold RJ at *;omega
structure kF (f:FD) (order:List Int) (u:Int) (B:List (Nat × Nat)):Prop where
 perm:(J0 f order u).Perm B
 srt:B.Pairwise (RJ f order)
theorem ZfE{f:FD}{order:List Int}{u:Int}(h:UC f order){t n:Nat}:(t,n)∈J0 f order u↔t<f.tasks.length∧n<Zfj f u t:=by
 unfold J0 ZeT;simp only[List.mem_flatMap,Yc,List.mem_range,Z2];constructor
 ·rintro⟨x,q,k,m,g,j⟩;have:=h.rng x q;subst g;subst j;exact⟨oq,m⟩
 rintro⟨g,j⟩;exact⟨(t:Int),h.all t g,n,j,rfl,rfl⟩
theorem kF.mem{f:FD}{order:List Int}{u:Int}{B:List (Nat × Nat)}(h:kF f order u B)(g:UC f order){t n:Nat}:(t,n)∈B↔t<f.tasks.length∧n<Zfj f u t:=by
 rw[←h.perm.mem_iff];exact ZfE g
theorem kF.lt{f:FD}{order:List Int}{u:Int}{B:List (Nat × Nat)}(h:kF f order u B){p i:Nat}{a b:Nat × Nat}(q:B[p]?=some a)(hi:B[i]?=some b)(m:RJ f order a b):p<i:=by
 obtain⟨j,rfl⟩:=Zz.1 q;obtain⟨g,rfl⟩:=Zz.1 hi;apply Yf;intro v;by_cases e:p=i
 ·subst e;exact m.asymm m
 exact m.asymm (List.pairwise_iff_getElem.1 h.srt i p g j oq)
theorem ZbY{l:List Int}{y:Int}{i:Nat}(h:y∈l.take i):l.idxOf y<i:=by
 obtain⟨j,g,e⟩:=Yk h;rw[Z9] at g;rw[List.getElem_take] at e;have m:l.idxOf y≤j:=by
  apply Yf;intro f;have:=List.not_of_lt_findIdx (p:=(· == y)) (xs:=l) (i:=j) (by unfold List.idxOf at f;omega);simp[e] at this
 omega
theorem Zfu{l:List Int}(g:l.Nodup){x:Int}(h:x∈l):l[l.idxOf x]?=some x:=by
 have f:=List.idxOf_lt_length_iff.2 h;rw[Ze f];have:=List.findIdx_getElem (p:=(· == x)) (xs:=l) (w:=f);exact Z1 some (eq_of_beq this)
theorem GR:∀(l:List index.Op3)(p q p' q':Int),clock.YO p q l=(p',q',0)→l.all index.JI=true
 | [],p,q,p',q',h=>rfl
 | x::r,p,q,p',q',h=>by
  obtain⟨k,N,d⟩:=x;rw[clock.YO] at h;rcases ha:clock.YE p q k N d with ⟨p1,f1,e1⟩
  simp only[ha] at h;split at h
  ·rename_i he
   subst he;rw[List.all_cons,GR r p1 f1 p' q' h,Bool.and_true];have h1:=Qu ha;have h2:=Yh (show decide _=true from h1.2.2.1);unfold index.JI;refine ZY ⟨h1.2.2.2.1,h1.2.2.2.2,fun h5=>h2.1 (by show k=3∨k=4;have:=h1.2.2.2.1;have h6:k<5:=h5;omega),fun h5=>?_⟩;have:=h2.2 h5;exact⟨this.2.2.1,this.2.2.2,this.1,this.2.1⟩
  rename_i he
  simp only[Z2] at h;exact absurd h.2.2 he
theorem ZbP{f:FD}{a:AD}{v q:Int}(h:Xw f a v q=true):a.ops.all index.JI=true:=by
 unfold Xw at h
 cases hs:QD f a.src with
 | none=>rw[hs] at h;cases h
 | some s =>
  obtain⟨z,y⟩:=s;rw[hs] at h;simp only[ZA,Yi] at h;obtain⟨_,g,j,m⟩:=h;unfold clock.Gk at g j m;by_cases x:clock.YD z y=true
  ·rw[Z0 x] at g j m;exact GR a.ops z y v q (by rw[←g,←j,←m])
  rw[ZZ x] at g;simp at g
theorem QF:∀(l:List index.Op3)(n:Int)(e:index.Gj),index.YX l n=.error e→e.2.2=2∨e.2.1=0
 | [],n,e,h=>by cases h
 | o::r,n,e,h=>by
  unfold index.YX at h
  cases hs:index.YQ o n with
  | ok t=>rw[hs] at h;exact QF r t e h
  | error e' =>
   rw[hs] at h
   cases h
   unfold index.YQ at hs;split at hs
   ·cases hs;exact .inl rfl
   split at hs
   ·cases hs
   cases hs;exact .inr rfl
theorem vA{l:List index.Op3}{n m x k:Int}(h:index.Xv l n=(m,x,k)):k=1∨k=2∨x=0:=by
 unfold index.Xv at h;split at h
 ·simp only[Z2] at h;exact .inr (.inr h.2.1.symm)
 cases hb:index.YX l.reverse n with
 | ok t=>rw[hb] at h;simp only[index.yZ,Z2] at h;exact .inl h.2.2.symm
 | error e =>
  rw[hb] at h;simp only[index.yZ] at h;subst h;rcases QF _ _ _ hb with h1|h1
  ·exact .inr (.inl h1)
  exact .inr (.inr h1)
def Vj(vals:List (List Int))(t n:Nat):Int:=(vals.getD t []).getD n 0
structure Zdt (w0:World) (f:FD) (nds:List NE) (inl vals:List (List Int)) (h:Int) (l:List Int) (ai an aT al ain:Option Addr):Prop where
 fap:FAP w0 f ai an aT al
 row:Row NdE 10 w0 nds an∧nds.length=f.nods.length∧∀n∈nds,n.ok
 bd:∀n∈nds,XF n.e=true
 ins:Qo w0 ain inl
 b64:∀d∈f.tasks,∀n,∀x∈QU f.ins.length inl vals d.args n,B64 x
 rg:RgS f
 tk9:Zbi f.ins.length nds f.tasks
 vr:kM f nds inl vals h
 ord:UC f l
 hh:0≤h∧h≤400
theorem qG{w0:World}{f:FD}{nds:List NE}{inl vals:List (List Int)}{h:Int}{l:List Int}{O an M R C:Option Addr}(c:Zdt w0 f nds inl vals h l O an M R C)(Z cn ct cl D B E mb:Nat)(Y V:Value)(vs X:List Value)(aa:w0.heap.size≤B)(a:AD){G T:Int}(g:Xw f a G T=true)(n:Nat)(hd:T+(n:Int)*G<h)
  (hV:∀(s:Nat)(x:TD)(A:Nat),f.tasks[s]?=some x→a.src=(f.ins.length:Int)+(s:Int)→A<(vals.getD s []).length→x.ph+(A:Int)*x.per≤T+(n:Int)*G→(a.ops.any J5=true→x.ph+(A:Int)*x.per<T+(n:Int)*G)→zo w0 f O an M R Z cn ct cl inl C D B E mb Y V vs X (Vj vals) s A)
  (W:World)(oa:Option Addr)(oc:Nat)(ac:Below w0.heap.size w0 W)(hE:E≤W.heap.size)(hm:MS B E mb Y V vs X f.tasks.length (Vj vals) W)(hr:Row OpR 3 W a.ops oa) :
  Calls prog 39 #[fv f O an M R Z cn ct cl,.slice C inl.length D,.pointer (some ⟨mb,0,none⟩),.agg #[.int .i64 a.src,.slice oa a.ops.length oc],.int .i64 (n:Int)] W fun y W'=>y=.returned (.int .i64 (Jw f.ins.length inl vals a.src.toNat a.ops (n:Int)))∧MS B E mb Y V vs X f.tasks.length (Vj vals) W'∧But (Vr B E) W W':=by
 obtain⟨J,z,ag⟩:=Vx g;have J:=clock.XO.1 J;have af:(n:Int)≤(n:Int)*G:=by
  have:=Int.mul_le_mul_of_nonneg_left (show(1:Int)≤G by omega) (show(0:Int)≤(n:Int) by omega);omega
 have hn:n≤1000000:=by have:=c.hh;omega
 have h0:=gX g;have ab:=c.fap.lens;have h1:a.src≤1000000:=by
  by_cases U:(f.ins.length:Int)≤a.src
  ·have:=Kb (i:=a.src) (f:=f) z U;omega
  omega
 obtain⟨⟨m,x,k⟩,v⟩:=ez (index.Xv a.ops (n:Int));have q:Jw f.ins.length inl vals a.src.toNat a.ops (n:Int)=if k=1 then Jm (U0 f.ins.length inl vals a.src.toNat) m else if k=2 then x else 0:=by unfold Jw;rw[v]
 refine Zcg (w0:=w0) f O an M R Z cn ct cl inl C D B E mb Y V vs X (Vj vals) oq c.ins ac aa hE hm a.src a.ops oa oc (xi hr) oq n hn (ZbP g) _ m x k v h0 h1 (fun hk=>?_) (fun hk U=>?_) (fun hk=>?_) (fun hk U=>?_)
 ·rw[q,ZZ hk];rcases vA v with h2|h2|h2
  ·exact absurd h2 hk
  ·rw[Z0 h2]
  split
  ·rfl
  exact h2.symm
 ·rw[q,Z0 hk];unfold U0;rw[ZZ oq]
 ·subst hk;exact(J7 g v).1
 subst hk;obtain⟨m0,sp,sf,j,_,_,I,H⟩:=J7 g v;obtain⟨s,F⟩:∃s:Nat,a.src=(f.ins.length:Int)+(s:Int):=⟨(a.src-(f.ins.length:Int)).toNat,oq⟩;have L:s<f.tasks.length:=by have:=Kb (i:=a.src) (f:=f) z U;omega
 obtain⟨A,rfl⟩:∃A:Nat,m=(A:Int):=⟨m.toNat,oq⟩;have hx:=Ze L;obtain⟨y,hy⟩:∃y,f.tasks[s]=y:=⟨_,rfl⟩;rw[hy] at hx;rw[F,JW L,hy] at j;injection j with j
 injection j with e1 e2
 rw[←e1,←e2] at I H;have ae:A<(vals.getD s []).length:=(c.vr.at_ s y hx A).2 oq;refine⟨s,A,F,rfl,?_,hV s y A hx F ae I H⟩;rw[q,Z0 rfl];unfold U0;rw[Z0 oq,show a.src.toNat-f.ins.length=s by omega];unfold Jm Vj;rw[ZZ oq,ZP]
theorem Zco{w0:World}{f:FD}{nds:List NE}{inl vals:List (List Int)}{h:Int}{l:List Int}{L an J M j:Option Addr}(c:Zdt w0 f nds inl vals h l L an J M j)(O R T cl m B E mb:Nat)(vv kk:Value)(vs ks:List Value)(q:w0.heap.size≤B) :
  ∀(D I t:Nat)(x:TD)(n:Nat),f.tasks[t]?=some x→n<(vals.getD t []).length→(x.ph+(n:Int)*x.per).toNat=D→l.idxOf (t:Int)=I→zo w0 f L an J M O R T cl inl j m B E mb vv kk vs ks (Vj vals) t n:=by
 intro D
 induction D using Nat.strongRecOn with
 | ind D ihD =>
  intro I
  induction I using Nat.strongRecOn with
  | ind I ihI =>
   intro t x n g hn hD hI;have ht:=(Zz.1 g).1;have H:=Z8 g;have hc:=c.rg.clk t x g;have V:=(c.vr.at_ t x g n).1 hn;have ag:(n:Int)≤(n:Int)*x.per:=by
    have:=Int.mul_le_mul_of_nonneg_left (show(1:Int)≤x.per by omega) (show(0:Int)≤(n:Int) by omega);omega
   obtain⟨k,Y,Z⟩:=c.tk9.node x H;have F:nds[k]?=some nds[k]:=Ze Z;have X:=c.vr.fx.fx t x nds[k] g (by rw[show x.node.toNat=k by omega];exact F) n hn;refine qO (w0:=w0) f L an J M O R T cl inl j m B E mb vv kk vs ks (Vj vals) c.fap c.row c.bd q t n x g (by have:=c.hh;omega) k nds[k] Y F (QU f.ins.length inl vals x.args (n:Int)) (by unfold QU;rw[Zo]) (c.b64 x H _) X (fun i a v ha hv W oa oc hlo hE hm hr=>?_);have U:Jw f.ins.length inl vals a.src.toNat a.ops (n:Int)=v:=by
    unfold QU at hv;rw[List.getElem?_map,ha] at hv;exact Option.some.inj hv
   have z:=Z8 ha;have A:=c.rg.fits t x g a z;have:=qG c O R T cl m B E mb vv kk vs ks q a A n V (fun s y mm hy hs hmm hle hdl=>?_) W oa oc hlo hE hm hr
   ·rw[U] at this;exact this
   have ae:=c.rg.clk s y hy;have af:0≤(mm:Int)*y.per:=Int.mul_nonneg oq oq;have ab:=(Zz.1 hy).1;by_cases aa:y.ph+(mm:Int)*y.per<x.ph+(n:Int)*x.per
   ·exact ihD _ oq _ s y mm hy hmm rfl rfl
   have G:¬a.ops.any J5=true:=fun e=>aa (hdl e)
   have C:(s:Int)∈YZ f t:=by
    rw[VY g];unfold Y3;refine J4 (List.mem_mergeSort.2 (List.mem_filterMap.2 ⟨a,z,?_⟩));unfold Qy E8;rw[ZZ G,hs,JW ab,Z0 ⟨rfl,oq⟩];congr 1;omega
   have ac:=c.ord.all t ht;have h8:=c.ord.top _ (t:Int) (Zfu c.ord.nd ac) (s:Int) (by rw[ZP];exact C);exact ihI _ (by rw[←hI];exact ZbY h8) s y mm hy hmm oq rfl
end Go.Proofs.YtdgifkjaflfdeaaGreatDoor.syn
