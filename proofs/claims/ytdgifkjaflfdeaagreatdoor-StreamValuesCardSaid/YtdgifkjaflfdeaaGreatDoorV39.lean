/- Parts of the proof. -/
import Derived.Test.YtdgifkjaflfdeaaGreatDoorV36
import Derived.Test.YtdgifkjaflfdeaaGreatDoorV38
set_option linter.all false
set_option maxRecDepth 100000
set_option maxHeartbeats 16000000
namespace Go.Proofs.YtdgifkjaflfdeaaGreatDoor.syn
open Tryz
open Go.RowKit
theorem J4{l:List Int}{x:Int}(h:x∈l):x∈Lib.compact l:=by
 unfold Lib.compact Lib.compactUpTo;obtain⟨j,f,rfl⟩:=Yk h;have key:∀j (f:j<l.length),∃k,k<l.length∧Lib.keeps l.toArray k=true∧l.toArray[k]! = l[j]:=by
  intro j
  induction j with
  | zero=>intro f;exact⟨0,f,by simp[Lib.keeps],by simp[f]⟩
  | succ j ih =>
   intro f;by_cases y:l[j+1]=l[j]
   ·obtain⟨k,g,m,q⟩:=ih oq;exact⟨k,g,m,by rw[q,y]⟩
   refine⟨j+1,f,?_,by simp[f]⟩;have v:j<l.length:=oq;simp[Lib.keeps,f,v,y]
 obtain⟨k,g,m,q⟩:=key j f;exact Yc.2 ⟨k,List.mem_filter.2 ⟨List.mem_range.2 g,m⟩,q⟩
theorem kP:∀(l:List index.Op3)(p q p' q':Int),clock.YO p q l=(p',q',0)→∀o∈l,clock.QX o.1 o.2.1 o.2.2=true
 | [],p,q,p',q',h,o,ho=>by cases ho
 | x::r,p,q,p',q',h,o,ho=>by
  obtain⟨k,N,d⟩:=x;rw[clock.YO] at h;rcases ha:clock.YE p q k N d with ⟨p1,f1,e1⟩
  simp only[ha] at h;split at h
  ·rename_i he
   subst he;rcases ZQ.1 ho with rfl|ho
   ·exact(Qu ha).2.2.1
   exact kP r p1 f1 p' q' h o ho
  rename_i he
  simp only[Z2] at h;exact absurd h.2.2 he
theorem zC{f:FD}{a:AD}{z y:Int}(h:Xw f a z y=true):a.ops.any UZ=a.ops.any J5:=by
 have q:∀o∈a.ops,clock.QX o.1 o.2.1 o.2.2=true:=by
  unfold Xw at h
  cases hs:QD f a.src with
  | none=>rw[hs] at h;cases h
  | some s =>
   obtain⟨E,D⟩:=s;rw[hs] at h;simp only[ZA,Yi] at h;obtain⟨x,g,j,m⟩:=h;unfold clock.Gk at g j m;by_cases C:clock.YD E D=true
   ·rw[Z0 C] at g j m;exact kP a.ops E D z y (by rw[←g,←j,←m])
   rw[ZZ C] at g;simp at g
 have key:∀l:List (Int × Int × Int),(∀o∈l,clock.QX o.1 o.2.1 o.2.2=true)→l.any UZ=l.any J5:=by
  intro l
  induction l with
  | nil=>intro _;rfl
  | cons o l ih =>
   intro x;rw[List.any_cons,List.any_cons,ih (fun o ho=>x o (List.mem_cons_of_mem _ ho))];congr 1;have j:=x o (List.mem_cons_self ..);unfold clock.QX at j;have m:=(Yh j).2;unfold UZ J5;by_cases A:o.1=6
   ·simp[A]
   by_cases v:o.1=5
   ·have F:=m v;by_cases g:o.2.1=0
    ·simp[v,g]
    have:0<o.2.1:=oq;simp[v,g,this]
   simp[v,A]
 exact key a.ops q
theorem Zfr{f:FD}(x:RgS f):Zdp f (hg9 f):=by
 intro t ht k y;have hd:=Ze ht;obtain⟨d,q⟩:=ez (f.tasks[t]);rw[q] at hd;have j:=x.fits t d hd;unfold hg9;rw[hd,VY hd];simp only;rw[List.any_eq_true];unfold Y3;constructor
 ·rintro⟨a,m,h⟩;unfold Q4 at h;simp only[ZA,Yi,Bool.not_eq_true'] at h;refine J4 (List.mem_mergeSort.2 (List.mem_filterMap.2 ⟨a,m,?_⟩));unfold Qy;rw[ZZ (by rw[←zC (j a m),h.2];simp)];unfold E8;rw[h.1,JW y,Z0 ⟨rfl,oq⟩];congr 1;omega
 intro h;have v:=List.mem_mergeSort.1 (K1 (Nat.le_of_eq (by simp)) _ h);unfold Es at v;obtain⟨a,m,g⟩:=List.mem_filterMap.1 v;refine⟨a,m,?_⟩;unfold Qy at g;unfold Q4;rw[zC (j a m)];split at g
 ·cases g
 rename_i hnd
 unfold E8 at g;split at g
 ·rename_i hs
  injection g with g
  have:a.src=(f.ins.length:Int)+(k:Int):=oq;simp only[ZA,Yi,Bool.not_eq_true'];exact⟨this,by simpa using hnd⟩
 cases g
theorem Zaw{f:FD}(hr:Y5 f=true):Ez (hg9 f) f.tasks.length f.tasks.length []=ofP f:=ZfK (Zfr (JU hr))
def xF(f:FD)(vals:List (List Int))(a:AD)(n:Int):Prop:=∀m x,index.Xv a.ops n=(m,x,1)→(f.ins.length:Int)≤a.src→m<((vals.getD (a.src.toNat-f.ins.length) []).length:Int)
structure FxI (f:FD) (nds:List NE) (inl vals:List (List Int)):Prop where
 rd:∀(t:Nat)(d:TD),f.tasks[t]?=some d→∀n:Nat,n<(vals.getD t []).length→∀a∈d.args,xF f vals a (n:Int)
 fx:∀(t:Nat)(d:TD)(nd:NE),f.tasks[t]?=some d→nds[d.node.toNat]?=some nd→∀n:Nat,n<(vals.getD t []).length→(vals.getD t []).getD n 0=J8 f.ins.length inl vals nd d.args (n:Int)
theorem Zde{f:FD}{inl vals g:List (List Int)}(v:Pre vals g){a:AD}{n:Int}(z:0≤a.src)(y:xF f vals a n):Jw f.ins.length inl vals a.src.toNat a.ops n=Jw f.ins.length inl g a.src.toNat a.ops n:=by
 unfold Jw;obtain⟨⟨m,x,k⟩,hb⟩:=ez (index.Xv a.ops n);rw[hb];simp only;by_cases q:k=1
 ·subst q;rw[Z0 (rfl:(1:Int)=1),Z0 (rfl:(1:Int)=1)];unfold U0;by_cases j:f.ins.length≤a.src.toNat
  ·rw[Z0 j,Z0 j];exact Zek (v.2 _) (y m x hb oq)
  rw[ZZ j,ZZ j]
 rw[ZZ q,ZZ q]
theorem xF.pre{f:FD}{vals vals':List (List Int)}(hp:Pre vals vals'){a:AD}{n:Int}(hr:xF f vals a n):xF f vals' a n:=fun m x hb h1=>by
 have h2:=hr m x hb h1;have h3:=(hp.2 (a.src.toNat-f.ins.length)).length_le;omega
theorem Ei{f:FD}{inl vals g:List (List Int)}(q:Pre vals g){d:TD}{j:NE}{n:Int}(m:∀a∈d.args,0≤a.src)(v:∀a∈d.args,xF f vals a n):J8 f.ins.length inl vals j d.args n=J8 f.ins.length inl g j d.args n:=by
 unfold J8;have:QU f.ins.length inl vals d.args n=QU f.ins.length inl g d.args n:=by
  unfold QU;exact List.map_congr_left (fun a ha=>Zde q (m a ha) (v a ha))
 rw[this]
theorem gX{f:FD}{a:AD}{m j:Int}(h:Xw f a m j=true):0≤a.src:=by
 have g:=(Vx h).2.1;unfold QD at g;by_cases q:a.src<0
 ·rw[Z0 q] at g;cases g
 omega
theorem ZeB{f:FD}(H:RgS f){nds:List NE}{inl:List (List Int)}{d:Nat}(hd:d≤20000){vals:List (List Int)}{done:List Nat}(h:RInv f d vals done)(j:FxI f nds inl vals)(t:Nat)(Z:∀y∈YZ f t,y.toNat∈done) :
  FxI f nds inl (Xy f.ins.length inl nds f.tasks (d:Int) vals t):=by
 have g:=jH f.ins.length inl nds f.tasks (d:Int) vals t;have key:Xy f.ins.length inl nds f.tasks (d:Int) vals t=vals∨∃x nd,f.tasks[t]?=some x∧nds[x.node.toNat]?=some nd∧x.ph+((vals.getD t []).length:Int)*x.per=(d:Int)∧Xy f.ins.length inl nds f.tasks (d:Int) vals t=vals.set t (vals.getD t []++[J8 f.ins.length inl vals nd x.args ((vals.getD t []).length:Int)]):=by
  unfold Xy
  cases hx:f.tasks[t]? with
  | none=>exact .inl rfl
  | some x =>
   simp only
   cases hnn:nds[x.node.toNat]? with
   | none=>exact .inl rfl
   | some nd =>
    simp only;have aa:=h.hi t x hx;rw[XZ (H.clk t x hx) oq];by_cases I:x.ph+((vals.getD t []).length:Int)*x.per=(d:Int)
    ·rw[Z0 I];exact .inr ⟨x,nd,rfl,hnn,I,rfl⟩
    rw[ZZ I];exact .inl rfl
 rcases key with e|⟨x,nd,hx,hnn,I,e⟩
 ·rw[e];exact j
 rw[e] at g ⊢;have U:t<vals.length:=by rw[h.len];exact(Zz.1 hx).1
 have A:∀a∈x.args,xF f vals a ((vals.getD t []).length:Int):=fun a ha m y hb h1=>by
  have E:=H.fits t x hx a ha;obtain⟨m0,sp,sf,T,_,_,R,C⟩:=J7 E hb;unfold QD at T;rw[ZZ oq,ZZ oq] at T;obtain⟨s,q,G⟩:=Option.map_eq_some_iff.1 T;have V:=Z1 Prod.fst G;have X:=Z1 Prod.snd G;simp only at V X;rw[show(a.src-(f.ins.length:Int)).toNat=a.src.toNat-f.ins.length by omega] at q;obtain⟨k,hk⟩:=ez (a.src.toNat-f.ins.length);rw[hk] at q ⊢;have ab:=h.lo k s q;have hc:=H.clk k s q;apply Yf;intro M;have Y:=Int.mul_le_mul_of_nonneg_right (Int.not_lt.1 M) (show 0≤s.per by omega);rw[←V,←X] at R C;by_cases D:a.ops.any J5=true
  ·have:=C D;omega
  have O:=(Zz.1 q).1;have F:(k:Int)∈YZ f t:=by
   rw[VY hx];unfold Y3;refine J4 (List.mem_mergeSort.2 (List.mem_filterMap.2 ⟨a,ha,?_⟩));unfold Qy E8;rw[ZZ D,show a.src=(f.ins.length:Int)+(k:Int) by omega,JW O,Z0 ⟨rfl,oq⟩];congr 1;omega
  have L:=h.got k (by simpa using Z _ F) s q;omega
 have L:∀t',(vals.set t (vals.getD t []++[J8 f.ins.length inl vals nd x.args ((vals.getD t []).length:Int)])).getD t' []=if t=t' then vals.getD t []++[J8 f.ins.length inl vals nd x.args ((vals.getD t []).length:Int)] else vals.getD t' []:=fun t'=>Kq _ _ _ _ _ U
 refine⟨fun t' d' hd' n hn a ha=>?_,fun t' d' nd' hd' hnd' n hn=>?_⟩
 ·refine xF.pre g ?_;rw[L] at hn;by_cases z:t=t'
  ·subst z;rw[Z0 rfl,Zw] at hn;rw[hx] at hd'
   cases hd'
   by_cases v:n<(vals.getD t []).length
   ·exact j.rd t x hx n v a ha
   obtain rfl:n=(vals.getD t []).length:=by rw[List.length_singleton] at hn;omega
   exact A a ha
  rw[ZZ z] at hn;exact j.rd t' d' hd' n hn a ha
 have J:∀a∈d'.args,0≤a.src:=fun a ha=>gX (H.fits t' d' hd' a ha)
 rw[L] at hn ⊢;by_cases z:t=t'
 ·subst z;rw[Z0 rfl] at hn ⊢;rw[hx] at hd'
  cases hd'
  rw[hnn] at hnd'
  cases hnd'
  by_cases v:n<(vals.getD t []).length
  ·rw[Zf,List.getElem?_append_left v,←Zf,j.fx t x nd hx hnn n v];exact Ei g J (j.rd t x hx n v)
  obtain rfl:n=(vals.getD t []).length:=by rw[Zw,List.length_singleton] at hn;omega
  rw[Zf,List.getElem?_append_right (Zc _),Nat.sub_self];show J8 _ _ _ _ _ _=_;exact Ei g J A
 rw[ZZ z] at hn ⊢;rw[j.fx t' d' nd' hd' hnd' n hn];exact Ei g J (j.rd t' d' hd' n hn)
theorem gA{f:FD}(hR:RgS f){nds:List NE}(hn:nds.length=f.nods.length){inl:List (List Int)}{d:Nat}(hd:d≤20000) :
  ∀(rest:List Nat)(vals:List (List Int))(done:List Nat),RInv f d vals done→FxI f nds inl vals→(∀(i:Nat)(x:Nat),rest[i]?=some x→∀y∈YZ f x,y.toNat∈done∨y.toNat∈rest.take i)→FxI f nds inl (rest.foldl (Xy f.ins.length inl nds f.tasks (d:Int)) vals)
 | [],vals,done,_,h,_=>h
 | t::rest,vals,done,hi,h,hh=>by
  rw[List.foldl_cons];refine gA hR hn hd rest _ (t::done) (E9 hR hn hd hi t) (ZeB hR hd hi h t (fun y hy=>?_)) (fun i x hx y hy=>?_)
  ·rcases hh 0 t rfl y hy with h1|h1
   ·exact h1
   simp at h1
  rcases hh (i+1) x (by simpa using hx) y hy with h1|h1
  ·exact .inl (List.mem_cons_of_mem _ h1)
  rw[List.take_succ_cons] at h1;rcases ZQ.1 h1 with h1|h1
  ·exact .inl (by rw[h1];exact List.mem_cons_self ..)
  exact .inr h1
theorem gO{f:FD}(j:RgS f){nds:List NE}(g:nds.length=f.nods.length){inl:List (List Int)}{l:List Int}(m:UC f l):∀n:Nat,n≤20000→FxI f nds inl (Y0 f.ins.length inl nds f.tasks (l.map Int.toNat) n)
 | 0,_=>by
  have e:∀t,(Y0 f.ins.length inl nds f.tasks (l.map Int.toNat) 0).getD t []=[]:=fun t=>by
   show(List.replicate f.tasks.length ([]:List Int)).getD t []=[];rw[Zf,List.getElem?_replicate];split<;>rfl
  exact⟨fun t d hd n g=>(by rw[e] at g;cases g),fun t d nd hd hnd n g=>(by rw[e] at g;cases g)⟩
 | n+1,hn1=>by
  have hall:∀t,t<f.tasks.length→t∈l.map Int.toNat:=fun t ht=>Yc.2 ⟨(t:Int),m.all t ht,by simp⟩
  obtain⟨_,h2⟩:=V5 (nds:=nds) (inl:=inl) (inl':=inl) j g (D:=(n:Int)) (fun _ _ _ _ _ _ _=>rfl) hall n oq (Int.le_refl _);have h0:RInv f n (Y0 f.ins.length inl nds f.tasks (l.map Int.toNat) n) []:=⟨h2.len,h2.lo,fun t x hx=>by have:=h2.hi t x hx;omega,fun t ht=>(by cases ht),fun t x hx hl=>by have:=h2.hi t x hx;omega⟩;have h3:=gA j g oq (l.map Int.toNat) _ [] h0 (gO j g m n oq) (fun i x hx y hy=>by
   rw[List.getElem?_map] at hx;obtain⟨z,hz,rfl⟩:=Option.map_eq_some_iff.1 hx;have h4:=m.top i z hz y hy;refine .inr ?_;rw[←List.map_take];exact Yc.2 ⟨y,h4,rfl⟩)
  have e:Y0 f.ins.length inl nds f.tasks (l.map Int.toNat) (n+1)=(l.map Int.toNat).foldl (Xy f.ins.length inl nds f.tasks (n:Int)) (Y0 f.ins.length inl nds f.tasks (l.map Int.toNat) n):=by
   unfold Y0;rw[Yg,List.foldl_append];rfl
  rw[e];exact h3
def UpI(f:FD)(d:Int)(vals:List (List Int)):Prop:=∀(t:Nat)(x:TD),f.tasks[t]?=some x→∀n:Nat,n<(vals.getD t []).length→x.ph+(n:Int)*x.per<d
theorem ZeD{f:FD}(A:RgS f){nds:List NE}{inl:List (List Int)}{d:Nat}(hd:d≤20000){vals:List (List Int)}{done:List Nat}(hi:RInv f d vals done)(h:UpI f ((d:Int)+1) vals)(t:Nat) :
  UpI f ((d:Int)+1) (Xy f.ins.length inl nds f.tasks (d:Int) vals t):=by
 unfold Xy
 cases hx:f.tasks[t]? with
 | none=>exact h
 | some x =>
  simp only
  cases hnn:nds[x.node.toNat]? with
  | none=>exact h
  | some nd =>
   simp only;have C:=hi.hi t x hx;rw[XZ (A.clk t x hx) oq];by_cases y:x.ph+((vals.getD t []).length:Int)*x.per=(d:Int)
   ·rw[Z0 y];have v:t<vals.length:=by rw[hi.len];exact(Zz.1 hx).1
    intro z D g n m;rw[Kq _ _ _ _ _ v] at m;by_cases j:t=z
    ·subst j;rw[Z0 rfl,Zw,List.length_singleton] at m;rw[hx] at g
     cases g
     by_cases q:n<(vals.getD t []).length
     ·exact h t x hx n q
     obtain rfl:n=(vals.getD t []).length:=oq;omega
    rw[ZZ j] at m;exact h z D g n m
   rw[ZZ y];exact h
theorem gB{f:FD}(hR:RgS f){nds:List NE}(hn:nds.length=f.nods.length){inl:List (List Int)}{d:Nat}(hd:d≤20000) :
  ∀(rest:List Nat)(vals:List (List Int))(done:List Nat),RInv f d vals done→UpI f ((d:Int)+1) vals→UpI f ((d:Int)+1) (rest.foldl (Xy f.ins.length inl nds f.tasks (d:Int)) vals)
 | [],vals,done,_,h=>h
 | t::rest,vals,done,hi,h=>by
  rw[List.foldl_cons];exact gB hR hn hd rest _ (t::done) (E9 hR hn hd hi t) (ZeD hR hd hi h t)
theorem gP{f:FD}(q:RgS f){nds:List NE}(j:nds.length=f.nods.length){inl:List (List Int)}{order:List Nat}(g:∀t,t<f.tasks.length→t∈order):∀n:Nat,n≤20000→UpI f (n:Int) (Y0 f.ins.length inl nds f.tasks order n)
 | 0,_=>by
  intro t x hx n j;have e:(Y0 f.ins.length inl nds f.tasks order 0).getD t []=[]:=by
   show(List.replicate f.tasks.length ([]:List Int)).getD t []=[];rw[Zf,List.getElem?_replicate];split<;>rfl
  rw[e] at j
  cases j
 | n+1,hn1=>by
  obtain⟨_,m⟩:=V5 (nds:=nds) (inl:=inl) (inl':=inl) q j (D:=(n:Int)) (fun _ _ _ _ _ _ _=>rfl) g n oq (Int.le_refl _);have v:RInv f n (Y0 f.ins.length inl nds f.tasks order n) []:=⟨m.len,m.lo,fun t x hx=>by have:=m.hi t x hx;omega,fun t ht=>(by cases ht),fun t x hx hl=>by have:=m.hi t x hx;omega⟩;have y:=gB (inl:=inl) q j oq order _ [] v (fun t x hx k hk=>by have:=gP q j g n oq t x hx k hk;omega);have e:Y0 f.ins.length inl nds f.tasks order (n+1)=order.foldl (Xy f.ins.length inl nds f.tasks (n:Int)) (Y0 f.ins.length inl nds f.tasks order n):=by
   unfold Y0;rw[Yg,List.foldl_append];rfl
  rw[e];exact y
structure kM (f:FD) (nds:List NE) (inl vals:List (List Int)) (h:Int):Prop where
 len:vals.length=f.tasks.length
 at_:∀(t:Nat)(x:TD),f.tasks[t]?=some x→∀n:Nat,n<(vals.getD t []).length↔x.ph+(n:Int)*x.per<h
 fx:FxI f nds inl vals
theorem Zgb{f:FD}(A:Y5 f=true){nds:List NE}(m:nds.length=f.nods.length){l:List Int}(y:ofP f=some l){inl:List (List Int)}{h:Int}(G:0≤h∧h≤20000):kM f nds inl (Jt f nds inl h) h:=by
 have j:=JU A;have v:=Ga y;have g:∀t,t<f.tasks.length→t∈l.map Int.toNat:=fun t ht=>Yc.2 ⟨(t:Int),v.all t ht,by simp⟩
 have e:Jt f nds inl h=Y0 f.ins.length inl nds f.tasks (l.map Int.toNat) h.toNat:=by unfold Jt;rw[y];rfl
 obtain⟨_,q⟩:=V5 (nds:=nds) (inl:=inl) (inl':=inl) j m (D:=h) (fun _ _ _ _ _ _ _=>rfl) g h.toNat oq oq;have C:=gP (inl:=inl) j m g h.toNat oq;rw[e];refine⟨q.len,fun t x hx n=>⟨fun hlt=>?_,fun hlt=>?_⟩,gO j m v h.toNat oq⟩
 ·have:=C t x hx n hlt;omega
 have E:=q.lo t x hx;have F:=j.clk t x hx;apply Yf;intro z;have:=Int.mul_le_mul_of_nonneg_right (show(((Y0 f.ins.length inl nds f.tasks (l.map Int.toNat) h.toNat).getD t []).length:Int)≤(n:Int) by omega) (show 0≤x.per by omega);omega
theorem kM.jobs{f:FD}(v:RgS f){nds:List NE}{inl vals:List (List Int)}{h:Int}(z:h≤20000)(A:kM f nds inl vals h){t:Nat}{x:TD}(q:f.tasks[t]?=some x):Qp x.per x.ph h=((vals.getD t []).length:Int):=by
 have y:=v.clk t x q;have j:=fun n=>yU y z n
 have m:=fun n=>A.at_ t x q n
 have C:0≤Qp x.per x.ph h:=by
  unfold Qp;split
  ·rename_i hq
   rw[Int.tdiv_eq_ediv_of_nonneg oq];have:0≤(h-1-x.ph)/x.per:=Int.ediv_nonneg oq oq;omega
  exact Int.le_refl _
 have D:(Qp x.per x.ph h).toNat=(vals.getD t []).length:=by
  apply Yf;intro g;rcases Nat.lt_or_gt_of_ne g with hl|hl
  ·exact absurd ((j _).2 ((m _).1 hl)) (Nat.lt_irrefl _)
  exact absurd ((m _).2 ((j _).1 hl)) (Nat.lt_irrefl _)
 omega
theorem Gd{f:FD}{inl vals:List (List Int)}{u:Int}:∀k:Nat,(XH f inl vals u k).Nodup
 | 0=>List.nodup_nil
 | k+1=>by
  rw[XH,List.nodup_append];refine⟨Gd k,?_,fun a ha b hb e=>?_⟩
  ·cases hx:f.tells[k]? with
   | none=>exact List.nodup_nil
   | some x =>
    simp only[QE];refine List.Pairwise.map _ (fun a b (m:a≠b) e=>?_) List.nodup_range;have:=Z1 SdD.n e;simp only[Jp] at this;omega
  subst e
  cases hx:f.tells[k]? with
  | none=>rw[hx] at hb;cases hb
  | some x =>
   rw[hx] at hb;simp only[QE] at hb;obtain⟨n,hn,rfl⟩:=Yc.1 hb;have key:∀(g:Nat)(s:SdD),s∈XH f inl vals u g→s.t<(g:Int):=by
    intro g
    induction g with
    | zero=>intro s h;cases h
    | succ j ih =>
     intro s h;rw[XH] at h;rcases List.mem_append.1 h with h|h
     ·have:=ih s h;omega
     cases hx:f.tells[j]? with
     | none=>rw[hx] at h;cases h
     | some x =>
      rw[hx] at h;simp only[QE] at h;obtain⟨n,hn,rfl⟩:=Yc.1 h;simp only[Jp];omega
   have:=key k _ ha;simp only[Jp] at this;omega
def GI(s:List SdD)(date t:Int)(i:Nat):Prop:=i≤s.length∧∀(j:Nat)(x:SdD),s[j]?=some x→(j<i↔x.d<date∨(x.d=date∧x.t<t))
def Gn(x:LD)(date:Int):Option Nat:=if date-x.dl<x.ph∨(date-x.dl-x.ph).tmod x.per≠0 then none else some ((date-x.dl-x.ph).tdiv x.per).toNat
theorem qp{x:LD}{date:Int}{n:Nat}(v:1≤x.per)(h:Gn x date=some n):date=x.ph+(n:Int)*x.per+x.dl:=by
 unfold Gn at h;split at h
 ·cases h
 rename_i hc
 have f:0≤date-x.dl-x.ph:=oq;rw[Int.tdiv_eq_ediv_of_nonneg f] at h;rw[Int.tmod_eq_emod_of_nonneg f] at hc;have j:(date-x.dl-x.ph)%x.per=0:=oq;have m:=Int.mul_ediv_add_emod (date-x.dl-x.ph) x.per;have q:0≤(date-x.dl-x.ph)/x.per:=Int.ediv_nonneg f oq;injection h with h
 have g:(n:Int)=(date-x.dl-x.ph)/x.per:=oq;rw[g,Int.mul_comm];omega
theorem Zfs{x:LD}{date:Int}{n:Nat}(j:1≤x.per)(h:date=x.ph+(n:Int)*x.per+x.dl):Gn x date=some n:=by
 have g:date-x.dl-x.ph=(n:Int)*x.per:=oq;have f:0≤(n:Int)*x.per:=Int.mul_nonneg oq oq;unfold Gn;rw[g,Int.tdiv_eq_ediv_of_nonneg f,Int.tmod_eq_emod_of_nonneg f,Int.mul_emod_left,Int.mul_ediv_cancel _ oq,ZZ oq];simp
theorem eS(s:List SdD){f:FD}{inl vals:List (List Int)}{u:Int}(g:RgS f)(z:u≤20000)(v:Vu f inl vals u s):GI s 0 0 0:=by
 refine⟨Zk _,fun j x hx=>?_⟩;obtain⟨i,y,n,hy,q,rfl⟩:=Jq _ (v.1.mem_iff.1 (Z8 hx));obtain⟨hd,_,m⟩:=g.tel i y hy;have c1:=JB g z hy q;have A:0≤(n:Int)*y.per:=Int.mul_nonneg oq oq;simp only[Jp];rw[XZ m oq];omega
theorem Zbx{s:List SdD}{f:FD}{inl vals:List (List Int)}{u:Int}(m:Vu f inl vals u s){date:Int}{i:Nat}(h:GI s date (f.tells.length:Int) i):GI s (date+1) 0 i:=by
 refine⟨h.1,fun j x hx=>?_⟩;have g:=h.2 j x hx;obtain⟨k,y,n,hy,v,rfl⟩:=Jq _ (m.1.mem_iff.1 (Z8 hx));have q:=(Zz.1 hy).1;simp only[Jp] at g ⊢;omega
theorem xZ{s:List SdD}{f:FD}{inl vals:List (List Int)}{u:Int}(q:RgS f)(G:u≤20000)(F:Vu f inl vals u s){date:Int}{t i:Nat}{x:LD}(H:f.tells[t]?=some x)(v:Gn x date=none)(h:GI s date (t:Int) i):GI s date ((t:Int)+1) i:=by
 refine⟨h.1,fun j y hy=>?_⟩;have m:=h.2 j y hy;obtain⟨k,z,n,g,D,rfl⟩:=Jq _ (F.1.mem_iff.1 (Z8 hy));obtain⟨hd,_,C⟩:=q.tel k z g;have c1:=JB q G g D;simp only[Jp] at m ⊢;rw[XZ C oq] at m ⊢;have E:¬(z.ph+(n:Int)*z.per+z.dl=date∧(k:Int)=(t:Int)):=by
  rintro⟨A,I⟩;obtain rfl:t=k:=oq;rw[H] at g
  cases g
  rw[Zfs (n:=n) oq A.symm] at v
  cases v
 omega
theorem ZdQ{s:List SdD}{f:FD}{inl vals:List (List Int)}{u:Int}(M:RgS f)(V:u≤20000)(A:Vu f inl vals u s){date:Int}{t i:Nat}{x:LD}(O:f.tells[t]?=some x){n:Nat}(hh:Gn x date=some n)(aa:date≤u)(h:GI s date (t:Int) i) :
  s[i]?=some ⟨(t:Int),(n:Int),date,Jw f.ins.length inl vals x.arg.src.toNat x.arg.ops (n:Int)⟩∧GI s date ((t:Int)+1) (i+1):=by
 obtain⟨hd,_,X⟩:=M.tel t x O;have he:=qp oq hh;have I:n<yI x u:=(yU X (u:=u-x.dl+1) oq n).2 oq;have c1:=JB M V O I;have m:Jp f.ins.length inl vals t x n∈s:=by
  refine A.1.mem_iff.2 ?_;have key:∀k,t<k→Jp f.ins.length inl vals t x n∈XH f inl vals u k:=by
   intro k
   induction k with
   | zero=>intro h;omega
   | succ k ih =>
    intro T;rw[XH];by_cases U:t<k
    ·exact List.mem_append_left _ (ih U)
    obtain rfl:t=k:=oq;refine List.mem_append_right _ ?_;rw[O];exact Yc.2 ⟨n,List.mem_range.2 I,rfl⟩
  exact key _ (Zz.1 O).1
 obtain⟨j,q⟩:=List.getElem?_of_mem m;have D:JC x.per x.ph (n:Int)+x.dl=date:=by rw[XZ X oq];omega
 have G:=(h.2 j _ q);simp only[Jp] at G;rw[D] at G;have ab:i≤j:=oq;have F:i<s.length:=by have:=(Zz.1 q).1;omega
 obtain⟨y,hy⟩:∃y,s[i]?=some y:=⟨_,Ze F⟩;have ae:=h.2 i y hy;have C:i<j→¬ltS (Jp f.ins.length inl vals t x n) y:=fun g=>by
  have E:=List.pairwise_iff_getElem.1 A.2 i j F (Zz.1 q).1 g;rw[(Zz.1 q).2,(Zz.1 hy).2] at E;exact E
 have R:y=Jp f.ins.length inl vals t x n:=by
  by_cases v:i=j
  ·subst v;rw[hy] at q;exact Option.some.inj q
  refine jR M V (A.1.mem_iff.1 (Z8 hy)) (A.1.mem_iff.1 m) (C oq) ?_;intro g;unfold ltS at g;simp only[Jp] at g;rw[D] at g;omega
 have H:s.Nodup:=A.1.nodup_iff.2 (Gd _);have v:i=j:=by
  have E:=(Zz.1 hy);have h2:=(Zz.1 q);obtain⟨Y,J⟩:=E;obtain⟨Z,L⟩:=h2;exact(List.getElem_inj H).1 (by rw[J,L,R])
 subst v;refine⟨by rw[q];unfold Jp;rw[D],oq,fun k z hz=>?_⟩;by_cases T:k=i
 ·subst T;rw[q] at hz
  cases hz
  simp only[Jp];rw[D];omega
 have E:=h.2 k z hz;have ac:¬(z.d=date∧z.t=(t:Int)):=by
  rintro⟨J,L⟩;have:z=Jp f.ins.length inl vals t x n:=by
   refine jR M V (A.1.mem_iff.1 (Z8 hz)) (A.1.mem_iff.1 m) ?_ ?_<;>(unfold ltS;simp only[Jp];rw[D];omega)
  obtain⟨Y,J⟩:=Zz.1 hz;obtain⟨Z,L⟩:=Zz.1 q;exact T ((List.getElem_inj H).1 (by rw[J,L,this]))
 omega
theorem ZdP{s:List SdD}{f:FD}{inl vals:List (List Int)}{u:Int}(m:RgS f)(C:u≤20000)(A:Vu f inl vals u s){i:Nat}(h:GI s (u+1) 0 i):i=s.length:=by
 apply Yf;intro y;have g:i<s.length:=by have:=h.1;omega
 have j:=h.2 i _ (Ze g);obtain⟨k,z,n,q,x,e⟩:=Jq _ (A.1.mem_iff.1 (Zi g));obtain⟨hd,_,v⟩:=m.tel k z q;have c1:=JB m C q x;rw[e] at j;simp only[Jp] at j;rw[XZ v oq] at j;omega
end Go.Proofs.YtdgifkjaflfdeaaGreatDoor.syn
