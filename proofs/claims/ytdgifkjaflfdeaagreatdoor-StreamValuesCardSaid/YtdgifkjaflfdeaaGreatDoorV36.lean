/- Parts of the proof. -/
import Derived.Test.YtdgifkjaflfdeaaGreatDoorV34
set_option linter.all false
set_option maxRecDepth 100000
set_option maxHeartbeats 16000000
namespace Go.Proofs.YtdgifkjaflfdeaaGreatDoor.syn
open Tryz
open Go.RowKit
theorem qa:∀(l:List index.Op3)(p q p' q':Int),clock.YD p q=true→clock.YO p q l=(p',q',0)→clock.YD p' q'=true
 | [],p,q,p',q',hr,h=>by
  simp only[clock.YO,Z2] at h;obtain⟨rfl,rfl,_⟩:=h;exact hr
 | o::r,p,q,p',q',hr,h=>by
  obtain⟨k,N,d⟩:=o;rw[clock.YO] at h;rcases ha:clock.YE p q k N d with ⟨p1,f1,e1⟩
  simp only[ha] at h;split at h
  ·rename_i he
   subst he;exact qa r p1 f1 p' q' (Qu ha).2.1 h
  rename_i he
  simp only[Z2] at h;exact absurd h.2.2 he
theorem Vx{f:FD}{a:AD}{m j:Int}(h:Xw f a m j=true):clock.YD m j=true∧(QD f a.src).isSome=true∧a.ops.length≤20:=by
 unfold Xw at h
 cases hs:QD f a.src with
 | none=>rw[hs] at h;cases h
 | some s =>
  obtain⟨z,y⟩:=s;rw[hs] at h;simp only[ZA,Yi] at h;obtain⟨A,g,q,v⟩:=h;unfold clock.Gk at g q v;by_cases x:clock.YD z y=true
  ·rw[Z0 x] at g q v;exact⟨qa a.ops z y m j x (by rw[←g,←q,←v]),rfl,A⟩
  rw[ZZ x] at g;simp at g
structure RgS (f:FD):Prop where
 clk:∀(t:Nat)(d:TD),f.tasks[t]?=some d→1≤d.per∧d.per≤2000∧0≤d.ph∧d.ph≤2000
 fits:∀(t:Nat)(d:TD),f.tasks[t]?=some d→∀a∈d.args,Xw f a d.per d.ph=true
 node:∀(t:Nat)(d:TD),f.tasks[t]?=some d→d.node.toNat<f.nods.length
 tel:∀(i:Nat)(x:LD),f.tells[i]?=some x→(1≤x.dl∧x.dl≤1000)∧Xw f x.arg x.per x.ph=true∧1≤x.per∧x.per≤2000∧0≤x.ph∧x.ph≤2000
 ins:∀(i:Nat)(p q:Int),f.ins[i]?=some (p,q)→1≤p∧p≤2000∧0≤q∧q≤2000
theorem JU{f:FD}(h:Y5 f=true):RgS f:=by
 unfold Y5 at h;simp only[ZA,List.all_eq_true,Yi] at h;obtain⟨v,F,y,z,G⟩:=h;have key:∀(t:Nat)(d:TD),f.tasks[t]?=some d→d.node.toNat<f.nods.length∧d.args≠[]∧∀a∈d.args,Xw f a d.per d.ph=true:=by
  intro t d hd;have g:=y d (Z8 hd);by_cases E:d.node<0∨(f.nods.length:Int)≤d.node
  ·rw[V9 E] at g;cases g
  have m:d.node.toNat<f.nods.length:=oq;have A:d.node=(d.node.toNat:Int):=oq;rw[KL m A] at g;simp only[ZA,List.all_eq_true,Yi] at g;exact⟨m,fun e=>g.1 (by rw[e];rfl),g.2.2⟩
 refine⟨fun t d hd=>?_,fun t d hd=>(key t d hd).2.2,fun t d hd=>(key t d hd).1,fun i x hx=>?_,fun i p q hi=>?_⟩
 ·obtain⟨_,j,D⟩:=key t d hd;obtain⟨a,C⟩:=List.exists_mem_of_ne_nil _ j;exact clock.XO.1 (Vx (D a C)).1
 ·have g:=z x (Z8 hx);unfold KM VO at g;simp only[ZA,Yi] at g;exact⟨g.1,g.2,clock.XO.1 (Vx g.2).1⟩
 exact clock.XO.1 (v (p,q) (Z8 hi))
def Zba(f:FD)(a b:List (List Int))(D:Int):Prop:=∀(i:Nat)(p q:Int),f.ins[i]?=some (p,q)→∀k:Int,0≤k→q+k*p<D→Jm (a.getD i []) k=Jm (b.getD i []) k
def Zg9(f:FD)(a b:List (List Int))(D:Int):Prop:=∀(t:Nat)(d:TD),f.tasks[t]?=some d→∀k:Int,0≤k→d.ph+k*d.per<D→Jm (a.getD t []) k=Jm (b.getD t []) k
theorem Za1{f:FD}{a:AD}{z y n D:Int}(q:Xw f a z y=true)(M:y+n*z<D){inl inl' vals g:List (List Int)}(hi:Zba f inl inl' D)(ht:Zg9 f vals g D) :
  Jw f.ins.length inl vals a.src.toNat a.ops n=Jw f.ins.length inl' g a.src.toNat a.ops n:=by
 unfold Jw;obtain⟨⟨m,x,k⟩,hb⟩:=ez (index.Xv a.ops n);rw[hb];simp only;by_cases v:k=1
 ·subst v;rw[Z0 (rfl:(1:Int)=1),Z0 (rfl:(1:Int)=1)];obtain⟨H,L,J,j,_,_,I,_⟩:=J7 q hb;unfold QD at j;unfold U0;by_cases E:a.src<0
  ·rw[Z0 E] at j;cases j
  rw[ZZ E] at j;by_cases F:a.src<(f.ins.length:Int)
  ·rw[Z0 F] at j;rw[ZZ oq,ZZ oq];exact hi _ L J j m H oq
  rw[ZZ F] at j;rw[Z0 oq,Z0 oq];obtain⟨d,hd,G⟩:=Option.map_eq_some_iff.1 j;have A:=Z1 Prod.fst G;have C:=Z1 Prod.snd G;simp only at A C;rw[show(a.src-(f.ins.length:Int)).toNat=a.src.toNat-f.ins.length by omega] at hd;refine ht _ d hd m H ?_;rw[A,C];omega
 rw[ZZ v,ZZ v]
theorem XZ{p q:Int}{n:Nat}(h:1≤p∧p≤2000∧0≤q∧q≤2000)(f:n≤100000):JC p q (n:Int)=q+(n:Int)*p:=by
 unfold JC;rw[Z0 ⟨h,oq⟩]
structure RInv (f:FD) (d:Nat) (vals:List (List Int)) (done:List Nat):Prop where
 len:vals.length=f.tasks.length
 lo:∀(t:Nat)(x:TD),f.tasks[t]?=some x→(d:Int)≤x.ph+((vals.getD t []).length:Int)*x.per
 hi:∀(t:Nat)(x:TD),f.tasks[t]?=some x→(vals.getD t []).length≤d+1
 got:∀t∈done,∀x:TD,f.tasks[t]?=some x→(d:Int)+1≤x.ph+((vals.getD t []).length:Int)*x.per
 few:∀(t:Nat)(x:TD),f.tasks[t]?=some x→(vals.getD t []).length=d+1→(d:Int)+1≤x.ph+((vals.getD t []).length:Int)*x.per
theorem Kq{α:Type}(l:List α)(i j:Nat)(a z:α)(hi:i<l.length):(l.set i a).getD j z=if i=j then a else l.getD j z:=by
 rw[Zf,Zf,List.getElem?_set];by_cases h:i=j
 ·rw[Z0 h,Z0 h,Z0 oq];rfl
 rw[ZZ h,ZZ h]
theorem E9{f:FD}(F:RgS f){nds:List NE}(M:nds.length=f.nods.length){inl:List (List Int)}{d:Nat}(hd:d≤20000){vals:List (List Int)}{done:List Nat}(h:RInv f d vals done)(t:Nat) :
  RInv f d (Xy f.ins.length inl nds f.tasks (d:Int) vals t) (t::done):=by
 unfold Xy
 cases hx:f.tasks[t]? with
 | none =>
  refine⟨h.len,h.lo,h.hi,fun j g x hx'=>?_,h.few⟩;rcases ZQ.1 g with rfl|g
  ·rw[hx] at hx';cases hx'
  exact h.got j g x hx'
 | some x =>
  have J:=F.node t x hx;obtain⟨E,C⟩:∃E,nds[x.node.toNat]?=some E:=⟨_,Ze oq⟩;simp only[C];have G:=F.clk t x hx;have A:=h.lo t x hx;have z:=h.hi t x hx;rw[XZ G oq];have D:t<vals.length:=by rw[h.len];exact(Zz.1 hx).1
  obtain⟨L,y⟩:=ez ((vals.getD t []).length);have q:=h.few t x hx;rw[y] at A z q ⊢;by_cases H:x.ph+(L:Int)*x.per=(d:Int)
  ·rw[Z0 H];have v:((L+1:Nat):Int)*x.per=(L:Int)*x.per+x.per:=by rw[Int.natCast_add,Int.add_mul];simp
   have I:L≤d:=by
    have:=Int.mul_le_mul_of_nonneg_left (show(1:Int)≤x.per from G.1) (show(0:Int)≤(L:Int) by omega);omega
   have key:∀j,((vals.set t (vals.getD t []++[J8 f.ins.length inl vals E x.args (L:Int)])).getD j []).length=if t=j then L+1 else (vals.getD j []).length:=by
    intro j;rw[Kq _ _ _ _ _ D];by_cases g:t=j
    ·rw[Z0 g,Z0 g,Zw,y];rfl
    rw[ZZ g,ZZ g]
   refine⟨by rw[List.length_set];exact h.len,fun j x' hx'=>?_,fun j x' hx'=>?_,fun j g x' hx'=>?_,fun j x' hx' hl=>?_⟩
   ·rw[key];by_cases g:t=j
    ·subst g;rw[hx] at hx'
     cases hx'
     rw[Z0 rfl,v];omega
    rw[ZZ g];exact h.lo j x' hx'
   ·rw[key];by_cases g:t=j
    ·rw[Z0 g];omega
    rw[ZZ g];exact h.hi j x' hx'
   ·rw[key];by_cases m:t=j
    ·subst m;rw[hx] at hx'
     cases hx'
     rw[Z0 rfl,v];omega
    rw[ZZ m];rcases ZQ.1 g with e|g
    ·exact absurd e.symm m
    exact h.got j g x' hx'
   rw[key] at hl ⊢;by_cases m:t=j
   ·subst m;rw[hx] at hx'
    cases hx'
    rw[Z0 rfl,v];omega
   rw[ZZ m] at hl ⊢;exact h.few j x' hx' hl
  rw[ZZ H];refine⟨h.len,h.lo,h.hi,fun j g x' hx'=>?_,h.few⟩;rcases ZQ.1 g with rfl|g
  ·rw[hx] at hx'
   cases hx'
   rw[y];omega
  exact h.got j g x' hx'
theorem ZaY{f:FD}(m:RgS f){nds:List NE}{inl inl':List (List Int)}{D:Int}(hi:Zba f inl inl' D){d:Nat}(hd:d≤20000)(v:(d:Int)<D){vals:List (List Int)}{done:List Nat}(h:RInv f d vals done)(t:Nat) :
  Xy f.ins.length inl nds f.tasks (d:Int) vals t=Xy f.ins.length inl' nds f.tasks (d:Int) vals t:=by
 unfold Xy
 cases hx:f.tasks[t]? with
 | none=>rfl
 | some x =>
  simp only
  cases hnn:nds[x.node.toNat]? with
  | none=>rfl
  | some nd =>
   simp only;have q:=h.hi t x hx;have j:=XZ (m.clk t x hx) (n:=(vals.getD t []).length) oq;rw[j];by_cases g:x.ph+((vals.getD t []).length:Int)*x.per=(d:Int)
   ·rw[Z0 g,Z0 g];have:J8 f.ins.length inl vals nd x.args ((vals.getD t []).length:Int)=J8 f.ins.length inl' vals nd x.args ((vals.getD t []).length:Int):=by
     unfold J8;have:QU f.ins.length inl vals x.args ((vals.getD t []).length:Int)=QU f.ins.length inl' vals x.args ((vals.getD t []).length:Int):=by
      unfold QU;refine List.map_congr_left (fun a ha=>?_);exact Za1 (m.fits t x hx a ha) oq hi (fun _ _ _ _ _ _=>rfl)
     rw[this]
    rw[this]
   rw[ZZ g,ZZ g]
theorem zD{f:FD}(hR:RgS f){nds:List NE}(hn:nds.length=f.nods.length){inl inl':List (List Int)}{D:Int}(hi:Zba f inl inl' D){d:Nat}(hd:d≤20000)(hD:(d:Int)<D) :
  ∀(order:List Nat)(vals:List (List Int))(done:List Nat),RInv f d vals done →
   order.foldl (Xy f.ins.length inl nds f.tasks (d:Int)) vals=order.foldl (Xy f.ins.length inl' nds f.tasks (d:Int)) vals∧∃done',RInv f d (order.foldl (Xy f.ins.length inl nds f.tasks (d:Int)) vals) done'∧(∀t∈order,t∈done')∧∀t∈done,t∈done'
 | [],vals,done,h=>⟨rfl,done,h,fun t ht=>(by cases ht),fun _ h=>h⟩
 | t::order,vals,done,h=>by
  have h1:=E9 hR hn (inl:=inl) hd h t;have h2:=ZaY (nds:=nds) hR hi hd hD h t;obtain⟨h3,done',h4,h5,h6⟩:=zD hR hn hi hd hD order _ _ h1;rw[List.foldl_cons,List.foldl_cons,←h2];refine⟨h3,done',h4,fun t' ht'=>?_,fun t' ht'=>h6 t' (List.mem_cons_of_mem _ ht')⟩;rcases ZQ.1 ht' with rfl|ht'
  ·exact h6 _ (List.mem_cons_self ..)
  exact h5 t' ht'
structure Zbd (f:FD) (d:Nat) (vals:List (List Int)):Prop where
 len:vals.length=f.tasks.length
 lo:∀(t:Nat)(x:TD),f.tasks[t]?=some x→(d:Int)≤x.ph+((vals.getD t []).length:Int)*x.per
 hi:∀(t:Nat)(x:TD),f.tasks[t]?=some x→(vals.getD t []).length≤d
theorem ZaR{f:FD}(z:RgS f){nds:List NE}(A:nds.length=f.nods.length){inl inl':List (List Int)}{D:Int}(hi:Zba f inl inl' D){order:List Nat}(C:∀t,t<f.tasks.length→t∈order){d:Nat}(hd:d≤20000)(y:(d:Int)<D){vals:List (List Int)}(h:Zbd f d vals) :
  VL f.ins.length inl nds f.tasks order (d:Int) vals=VL f.ins.length inl' nds f.tasks order (d:Int) vals∧Zbd f (d+1) (VL f.ins.length inl nds f.tasks order (d:Int) vals):=by
 have m:RInv f d vals []:=⟨h.len,h.lo,fun t x hx=>by have:=h.hi t x hx;omega,fun t ht=>(by cases ht),fun t x hx hl=>by have:=h.hi t x hx;omega⟩;obtain⟨q,g,j,v,_⟩:=zD z A hi hd y order vals [] m;refine⟨q,j.len,fun t x hx=>?_,fun t x hx=>j.hi t x hx⟩;have:=j.got t (v t (C t (Zz.1 hx).1)) x hx;unfold VL;omega
theorem V5{f:FD}(g:RgS f){nds:List NE}(j:nds.length=f.nods.length){inl inl':List (List Int)}{D:Int}(hi:Zba f inl inl' D){order:List Nat}(m:∀t,t<f.tasks.length→t∈order) :
  ∀n:Nat,n≤20000→(n:Int)≤D→Y0 f.ins.length inl nds f.tasks order n=Y0 f.ins.length inl' nds f.tasks order n∧Zbd f n (Y0 f.ins.length inl nds f.tasks order n)
 | 0,_,_=>by
  refine⟨rfl,by simp[Y0],fun t x hx=>?_,fun t x hx=>?_⟩
  ·have:=g.clk t x hx;simp only[Y0,List.range_zero,List.foldl_nil];rw[show(List.replicate f.tasks.length ([]:List Int)).getD t []=[] by
    rw[Zf,List.getElem?_replicate];split<;>rfl]
   simp only[Zv];omega
  simp only[Y0,List.range_zero,List.foldl_nil];rw[show(List.replicate f.tasks.length ([]:List Int)).getD t []=[] by
   rw[Zf,List.getElem?_replicate];split<;>rfl]
  exact Zc _
 | n+1,hn1,hD=>by
  obtain⟨h1,h2⟩:=V5 g j hi m n oq oq;have e:∀il,Y0 f.ins.length il nds f.tasks order (n+1)=VL f.ins.length il nds f.tasks order (n:Int) (Y0 f.ins.length il nds f.tasks order n):=by
   intro il;unfold Y0;rw[Yg,List.foldl_append];rfl
  rw[e,e,←h1];exact ZaR g j hi m oq oq h2
theorem Zek{a b:List Int}(h:a <+: b){k:Int}(g:k<a.length):Jm a k=Jm b k:=by
 obtain⟨r,rfl⟩:=h;unfold Jm;by_cases f:k<0
 ·rw[Z0 (.inl f),Z0 (.inl f)]
 rw[ZZ oq,ZZ (by rw[Zw];omega)];rw[Zf,Zf,List.getElem?_append_left oq]
structure SdD where
 t:Int
 n:Int
 d:Int
 v:Int
instance:Inhabited SdD:=⟨⟨0,0,0,0⟩⟩
def ltS(x y:SdD):Prop:=x.d<y.d∨(x.d=y.d∧x.t<y.t)
def Jp(ni:Nat)(inl vals:List (List Int))(i:Nat)(x:LD)(n:Nat):SdD:=⟨(i:Int),(n:Int),JC x.per x.ph (n:Int)+x.dl,Jw ni inl vals x.arg.src.toNat x.arg.ops (n:Int)⟩
def QE(ni:Nat)(inl vals:List (List Int))(i:Nat)(x:LD)(N:Nat):List SdD:=(List.range N).map (Jp ni inl vals i x)
def yI(x:LD)(u:Int):Nat:=(Qp x.per x.ph (u-x.dl+1)).toNat
def XH(f:FD)(inl vals:List (List Int))(u:Int):Nat→List SdD
 | 0=>[]
 | k+1=>XH f inl vals u k++(match f.tells[k]? with
  | none=>[]
  | some x=>QE f.ins.length inl vals k x (yI x u))
theorem yU{p q u:Int}(h:1≤p∧p≤2000∧0≤q∧q≤2000)(y:u≤20000)(n:Nat):n<(Qp p q u).toNat↔q+(n:Int)*p<u:=by
 have j:0≤(n:Int)*p:=Int.mul_nonneg oq oq;unfold Qp;by_cases f:clock.YD p q=true∧(0≤u∧u≤20000)∧q<u
 ·rw[Z0 f];rw[Int.tdiv_eq_ediv_of_nonneg oq];have v:0≤(u-1-q)/p:=Int.ediv_nonneg oq oq;have x:(n:Int)≤(u-1-q)/p↔(n:Int)*p≤u-1-q:=Int.le_ediv_iff_mul_le oq;omega
 rw[ZZ f];have m:clock.YD p q=true:=clock.XO.2 h;constructor
 ·intro h;simp at h
 intro g;exfalso;apply f;refine⟨m,?_,?_⟩<;>omega
theorem Jq{f:FD}{inl vals:List (List Int)}{u:Int}{s:SdD}:∀k:Nat,s∈XH f inl vals u k→∃i x n,f.tells[i]?=some x∧n<yI x u∧s=Jp f.ins.length inl vals i x n
 | 0,h=>by cases h
 | k+1,h=>by
  rw[XH] at h;rcases List.mem_append.1 h with h|h
  ·exact Jq k h
  cases hx:f.tells[k]? with
  | none=>rw[hx] at h;cases h
  | some x =>
   rw[hx] at h;simp only[QE] at h;obtain⟨n,hn,rfl⟩:=Yc.1 h;exact⟨k,x,n,hx,List.mem_range.1 hn,rfl⟩
theorem JB{f:FD}(j:RgS f){u:Int}(z:u≤20000){i:Nat}{x:LD}(q:f.tells[i]?=some x){n:Nat}(m:n<yI x u):n≤20000∧x.ph+(n:Int)*x.per+x.dl≤u:=by
 obtain⟨hd,_,g⟩:=j.tel i x q;have v:=(yU g (u:=u-x.dl+1) oq n).1 m;have y:=Int.mul_le_mul_of_nonneg_left (show(1:Int)≤x.per from g.1) (show(0:Int)≤(n:Int) by omega);omega
theorem jR{f:FD}(q:RgS f){inl vals:List (List Int)}{u:Int}(D:u≤20000){k:Nat}{s r:SdD}(H:s∈XH f inl vals u k)(G:r∈XH f inl vals u k)(z:¬ltS r s)(A:¬ltS s r):s=r:=by
 obtain⟨i,x,n,g,F,rfl⟩:=Jq k H;obtain⟨j,y,m,hy,E,rfl⟩:=Jq k G;unfold ltS Jp at z A;simp only at z A;have hd:JC x.per x.ph (n:Int)+x.dl=JC y.per y.ph (m:Int)+y.dl:=oq;have v:i=j:=oq;subst v;rw[g] at hy
 cases hy
 have c1:=JB q D g F;have c2:=JB q D g E;have C:=(q.tel i x g).2.2;rw[XZ C oq,XZ C oq] at hd;have:(n:Int)*x.per=(m:Int)*x.per:=oq;have:=Int.eq_of_mul_eq_mul_right (show x.per≠0 by omega) this;have:n=m:=oq;subst this;rfl
def Vu(f:FD)(inl vals:List (List Int))(u:Int)(l:List SdD):Prop:=l.Perm (XH f inl vals u f.tells.length)∧l.Pairwise (fun x y=>¬ltS y x)
end Go.Proofs.YtdgifkjaflfdeaaGreatDoor.syn
