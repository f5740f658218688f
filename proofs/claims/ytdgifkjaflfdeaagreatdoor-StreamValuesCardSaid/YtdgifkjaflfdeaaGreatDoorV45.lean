/- Parts of the proof. -/
import Derived.Test.YtdgifkjaflfdeaaGreatDoorV35
set_option linter.all false
set_option maxRecDepth 100000
set_option maxHeartbeats 16000000
namespace Go.Proofs.YtdgifkjaflfdeaaGreatDoor.syn
open Tryz
open Go.RowKit
theorem Zbz:∀(u:Nat),∀c∈Lib.decDigits u,∃k,k<10∧c=UInt8.ofNat (48+k):=by
 intro u
 induction u using Nat.strongRecOn with
 | _ u ih =>
  intro c f;rw[Lib.decDigits] at f;split at f
  ·rename_i h
   exact⟨u,h,List.mem_singleton.1 f⟩
  rename_i h
  rcases List.mem_append.1 f with f|f
  ·exact ih (u/10) oq c f
  exact⟨u%10,Nat.mod_lt _ (by decide),List.mem_singleton.1 f⟩
theorem zx{a b:Nat}(g:a<10)(hb:b<10)(h:UInt8.ofNat (48+a)=UInt8.ofNat (48+b)):a=b:=by
 have f:=Z1 UInt8.toNat h;simp at f;omega
theorem ZeR{u:Nat}{c:UInt8}(h:c∈Lib.decDigits u):c≠47:=by
 obtain⟨k,j,rfl⟩:=Zbz u c h;intro f;have g:=Z1 UInt8.toNat f;simp at g;omega
theorem ZeQ(u:Nat):Lib.decDigits u≠[]:=by
 rw[Lib.decDigits];split<;>simp
theorem yJ{u:Nat}(h:¬u<10):Lib.decDigits u=Lib.decDigits (u/10)++[UInt8.ofNat (48+u%10)]:=by rw[Lib.decDigits,dif_neg h]
theorem Zfk:∀(u v:Nat),Lib.decDigits u=Lib.decDigits v→u=v:=by
 intro u
 induction u using Nat.strongRecOn with
 | _ u ih =>
  intro v h;by_cases m:u<10
  ·by_cases f:v<10
   ·rw[Lib.decDigits_one m,Lib.decDigits_one f] at h;injection h with h _
    exact zx m f h
   exfalso;rw[Lib.decDigits_one m,yJ f] at h;have g:=Z1 List.length h;rw[Zw,List.length_singleton,List.length_singleton] at g;have j:=List.length_pos_iff.2 (ZeQ (v/10));omega
  by_cases f:v<10
  ·exfalso;rw[Lib.decDigits_one f,yJ m] at h;have g:=Z1 List.length h;rw[Zw,List.length_singleton,List.length_singleton] at g;have j:=List.length_pos_iff.2 (ZeQ (u/10));omega
  rw[yJ m,yJ f] at h;obtain⟨g,j⟩:=List.append_inj' h rfl;injection j with j _
  have q:=ih (u/10) oq (v/10) g;have x:=zx (Nat.mod_lt _ (by decide)) (Nat.mod_lt _ (by decide)) j;omega
def bl(b:ByteArray):List UInt8:=b.data.toList
theorem Zbt(a b:ByteArray):bl (a++b)=bl a++bl b:=by
 unfold bl;simp
theorem G1(w:ByteArray)(i:Nat):bl (w++⟨#[47]⟩++dg i)=bl w++47::Lib.decDigits i:=by
 rw[Zbt,Zbt,List.append_assoc];rfl
def Rst(r:List UInt8):Prop:=r=[]∨∃r',r=47::r'
theorem Zcy:∀(l1 l2 r s:List UInt8),(∀c∈l1,c≠47)→(∀c∈l2,c≠47)→Rst r→Rst s→l1++r=l2++s→l1=l2∧r=s
 | [],[],r,s,_,_,_,_,h=>⟨rfl,h⟩
 | [],c::l2,r,s,_,h2,hr,_,h=>by
  exfalso;rcases hr with rfl|⟨r',rfl⟩
  ·simp at h
  injection h with h _
  exact h2 c (by simp) h.symm
 | c::l1,[],r,s,h1,_,_,hs,h=>by
  exfalso;rcases hs with rfl|⟨r',rfl⟩
  ·simp at h
  injection h with h _
  exact h1 c (by simp) h
 | c::l1,d::l2,r,s,h1,h2,hr,hs,h=>by
  injection h with ha hb
  obtain⟨h3,h4⟩:=Zcy l1 l2 r s (fun x hx=>h1 x (by simp[hx])) (fun x hx=>h2 x (by simp[hx])) hr hs hb;exact⟨by rw[ha,h3],h4⟩
theorem Ey{a b:Nat}{r s:List UInt8}(j:Rst r)(m:Rst s)(h:Lib.decDigits a++r=Lib.decDigits b++s):a=b∧r=s:=by
 obtain⟨f,g⟩:=Zcy _ _ r s (fun c hc=>ZeR hc) (fun c hc=>ZeR hc) j m h;exact⟨Zfk _ _ f,g⟩
theorem Vi:∀(l:PL)(w:ByteArray)(i:Nat),∀s∈YU l w i,∃a rest,i≤a∧Rst rest∧bl s.2=bl w++47::(Lib.decDigits a++rest):=by
 intro l
 induction l with
 | nil=>intro w i s h;cases h
 | cons k nm n d args a tl ih1 ih2 =>
  intro w i s h;simp only[YU,ZQ,List.mem_append] at h;rcases h with rfl|h|h
  ·exact⟨i,[],Zc _,.inl rfl,by rw[G1,List.append_nil]⟩
  ·obtain⟨b,rest,_,_,hb⟩:=ih1 _ _ s h;exact⟨i,47::(Lib.decDigits b++rest),Zc _,.inr ⟨_,rfl⟩,by rw[hb,G1];simp⟩
  obtain⟨b,rest,j,f,g⟩:=ih2 _ _ s h;exact⟨b,rest,oq,f,g⟩
theorem xp:∀(l:PL)(w:ByteArray)(i:Nat),((YU l w i).map (·.2)).Nodup:=by
 intro l
 induction l with
 | nil=>intro w i;simp[YU]
 | cons k nm n d args a tl ih1 ih2 =>
  intro w i;simp only[YU,List.map_cons,ZT];rw[List.nodup_cons,List.nodup_append];have A:∀x∈(YU args (w++⟨#[47]⟩++dg i) 0).map (·.2),∃b rest,Rst rest∧bl x=bl w++47::(Lib.decDigits i++47::(Lib.decDigits b++rest)):=by
   intro x m;obtain⟨s,v,rfl⟩:=Yc.1 m;obtain⟨b,rest,_,j,f⟩:=Vi _ _ _ s v;exact⟨b,rest,j,by rw[f,G1];simp⟩
  have C:∀x∈(YU tl w (i+1)).map (·.2),∃b rest,i+1≤b∧Rst rest∧bl x=bl w++47::(Lib.decDigits b++rest):=by
   intro x m;obtain⟨s,v,rfl⟩:=Yc.1 m;exact Vi _ _ _ s v
  refine⟨fun h=>?_,ih1 _ _,ih2 _ _,fun x m y hy h=>?_⟩
  ·rcases List.mem_append.1 h with h|h
   ·obtain⟨b,rest,_,f⟩:=A _ h;rw[G1] at f;have g:=Z1 List.length f;simp at g
   obtain⟨b,rest,D,j,f⟩:=C _ h;rw[G1] at f;have g:=List.append_cancel_left f;injection g with _ g
   have q:=Ey (.inl rfl) j (by rw[List.append_nil];exact g);omega
  subst h;obtain⟨b,rest,_,f⟩:=A _ m;obtain⟨c,z,D,j,g⟩:=C _ hy;rw[f] at g;have q:=List.append_cancel_left g;injection q with _ q
  have E:=Ey (.inr ⟨_,rfl⟩) j q;omega
def Xt:List FL→Nat→List (PE × ByteArray)
 | [],_=>[]
 | f::l,i=>YT f.e (dg i)++Xt l (i+1)
theorem Q8:∀(l:List FL)(i:Nat),YM l i=(Xt l i).filter isC
 | [],_=>rfl
 | f::l,i=>by rw[YM,Xt,List.filter_append,Q8 l (i+1)]
theorem EX{e:PE}{j:Nat}:∀s∈YT e (dg j),∃rest,Rst rest∧bl s.2=Lib.decDigits j++rest:=by
 intro s f;unfold YT at f;rcases ZQ.1 f with rfl|f
 ·exact⟨[],.inl rfl,by rw[List.append_nil];rfl⟩
 obtain⟨a,rest,_,_,h⟩:=Vi _ _ _ s f;exact⟨_,.inr ⟨_,rfl⟩,h⟩
theorem xo(e:PE)(j:Nat):((YT e (dg j)).map (·.2)).Nodup:=by
 unfold YT;rw[List.map_cons,List.nodup_cons];refine⟨fun h=>?_,xp _ _ _⟩;obtain⟨s,m,h⟩:=Yc.1 h;obtain⟨a,rest,_,_,g⟩:=Vi _ _ _ s m;have f:=Z1 (fun b=>(bl b).length) h;simp only[g] at f;simp at f
theorem EY:∀(l:List FL)(i:Nat),∀s∈Xt l i,∃a rest,i≤a∧Rst rest∧bl s.2=Lib.decDigits a++rest
 | [],_,s,h=>by cases h
 | f::l,i,s,h=>by
  rcases List.mem_append.1 h with h|h
  ·obtain⟨rest,h1,h2⟩:=EX s h;exact⟨i,rest,Zc _,h1,h2⟩
  obtain⟨a,rest,h1,h2,h3⟩:=EY l (i+1) s h;exact⟨a,rest,oq,h2,h3⟩
theorem Ka:∀(l:List FL)(i:Nat),((Xt l i).map (·.2)).Nodup
 | [],_=>by simp[Xt]
 | f::l,i=>by
  rw[Xt,ZT,List.nodup_append];refine⟨xo _ _,Ka l (i+1),fun x hx y hy h=>?_⟩;subst h;obtain⟨s,hs,hsx⟩:=Yc.1 hx;obtain⟨t,ht,htx⟩:=Yc.1 hy;obtain⟨rest,h1,h2⟩:=EX s hs;obtain⟨a,rest2,h3,h4,h5⟩:=EY l (i+1) t ht;have h6:bl s.2=bl t.2:=by rw[show s.2=t.2 from hsx.trans htx.symm]
  rw[h2,h5] at h6;have:=Ey h1 h4 h6;omega
theorem yH(l:List FL)(i:Nat):((YM l i).map (·.2)).Nodup:=by
 rw[Q8];exact((List.filter_sublist).map _).nodup (Ka l i)
theorem VZ:∀(l:List ByteArray)(i:Nat)(e:IE),l.Nodup→∀j (h:j<l.length),inI l i e l[j]=some (i+j)
 | [],_,_,_,j,h=>by simp at h
 | k::l,i,e,hn,j,h=>by
  obtain⟨h1,h2⟩:=List.nodup_cons.1 hn;rw[inI]
  cases j with
  | zero =>
   have:∀(l:List ByteArray)(i:Nat)(e:IE)(k:ByteArray),k∉l→inI l i e k=e k:=by
    intro l
    induction l with
    | nil=>intro i e k _;rfl
    | cons a l ih =>
     intro i e k f;rw[inI,ih _ _ _ (fun h=>f (by simp[h]))];unfold VP;rw[ZZ (fun h=>f (by simp[h]))]
   rw[List.getElem_cons_zero,this _ _ _ _ h1];unfold VP;rw[Z0 rfl];rfl
  | succ j =>
   rw[List.getElem_cons_succ,VZ l (i+1) _ h2 j (by simpa using h)];congr 1;omega
def kL(env:Env):PL→Bool
 | .nil=>true
 | .cons k nm n d args a tl=>((decide (k≠1)||(env nm).isSome)&&kL env args)&&kL env tl
def kE(env:Env)(e:PE):Bool:=(decide (e.k≠1)||(env e.nm).isSome)&&kL env e.args
theorem ZfQ{l:PL}(h:1≤l.len):∃k nm n d args a tl,l=.cons k nm n d args a tl:=by
 cases l with
 | nil=>simp[PL.len] at h
 | cons k nm n d args a tl=>exact⟨k,nm,n,d,args,a,tl,rfl⟩
theorem Vz{k n d:Int}{nm:ByteArray}{len:Nat}(h:exE k n d nm len=true)(j:k≠1):1≤len∧(k≠2→len=1):=by
 unfold exE at h;rw[ZZ j] at h;by_cases g:k=2
 ·rw[Z0 g] at h;simp only[ZA,Yi] at h;exact⟨h.1.1.1.2,fun f=>absurd g f⟩
 rw[ZZ g] at h;by_cases f:len=1
 ·exact⟨oq,fun _=>f⟩
 rw[Z0 (.inl f)] at h
 cases h
theorem Kr{env:Env}{k:Int}{nm:ByteArray}{n d a:Int}{args:PL}(v:exE k n d nm args.len=true)(m:(decide (k≠1)||(env nm).isSome)=true)(x:args≠.nil→YS env args≠.unk):Xe env k nm n d a (YS env args)≠.unk:=by
 unfold Xe;by_cases g:k=1
 ·rw[Z0 g]
  cases he:env nm with
  | none=>subst g;rw[he] at m;simp at m
  | some c=>simp
 rw[ZZ g];obtain⟨j,_⟩:=Vz v g;have q:=x (by intro h;rw[h] at j;simp[PL.len] at j)
 cases ht:YS env args with
 | unk=>exact absurd ht q
 | bad a e=>simp
 | ok p f=>simp only;split<;>(try split)<;>simp
theorem E6{env:Env}:∀l:PL,exR l=true→kL env l=true→l≠.nil→YS env l≠.unk:=by
 intro l
 induction l with
 | nil=>intro _ _ h;exact absurd rfl h
 | cons k nm n d args a tl ih1 ih2 =>
  intro j g _;rw[exR,ZA,ZA] at j;rw[kL,ZA,ZA] at g;have m:=Kr (a:=a) j.1.2 g.1.1 (fun h=>ih1 j.1.1 g.1.2 h);rw[YS]
  cases ht:Xe env k nm n d a (YS env args) with
  | unk=>exact absurd ht m
  | ok p f=>simp
  | bad a e=>simp
theorem qo{env:Env}{k:Int}{nm:ByteArray}{n d a:Int}{args:PL}{p f:Int}(m:∀p f,YS env args=.ok p f→vK (Xs env) args=(p,f))(ht:Xe env k nm n d a (YS env args)=.ok p f):eQ (Xs env) k nm n d (vK (Xs env) args)=(p,f):=by
 unfold Xe at ht;unfold eQ;by_cases j:k=1
 ·rw[Z0 j] at ht ⊢;unfold Xs
  cases he:env nm with
  | none=>rw[he] at ht;cases ht
  | some c=>rw[he] at ht;injection ht with h1 g;rw[←h1,←g];rfl
 rw[ZZ j] at ht ⊢
 cases hs:YS env args with
 | unk=>rw[hs] at ht;cases ht
 | bad a e=>rw[hs] at ht;cases ht
 | ok p1 f1 =>
  rw[hs] at ht;rw[m p1 f1 hs];simp only at ht ⊢;by_cases g:k=2
  ·rw[Z0 g] at ht ⊢;injection ht with h3 h4
   rw[h3,h4]
  rw[ZZ g] at ht ⊢;split at ht
  ·injection ht with h3 h4
   rw[h3,h4]
  cases ht
theorem ZaS{env:Env}:∀l:PL,exR l=true→kL env l=true→∀p f,YS env l=.ok p f→vK (Xs env) l=(p,f):=by
 intro l
 induction l with
 | nil=>intro _ _ p f h;cases h
 | cons k nm n d args a tl ih1 ih2 =>
  intro j g p f ht;rw[exR,ZA,ZA] at j;rw[kL,ZA,ZA] at g;have m:=Kr (a:=a) j.1.2 g.1.1 (fun h=>E6 args j.1.1 g.1.2 h);rw[YS] at ht;rw[vK];refine qo (ih1 j.1.1 g.1.2) (a:=a) ?_
  cases hh:Xe env k nm n d a (YS env args) with
  | unk=>exact absurd hh m
  | ok p1 f1=>rw[hh] at ht;exact ht
  | bad a1 e1=>rw[hh] at ht;cases ht
theorem Xf{e:PE}(h:YA e=true):exR e.args=true∧exE e.k e.n e.d e.nm e.args.len=true:=by
 unfold YA at h
 rwa [ZA] at h
theorem J9{env:Env}{e:PE}(h:kE env e=true):(decide (e.k≠1)||(env e.nm).isSome)=true∧kL env e.args=true:=by
 unfold kE at h
 rwa [ZA] at h
theorem KN{env:Env}{e:PE}(hx:YA e=true)(hk:kE env e=true){p f:Int}(ht:YY env e=.ok p f):US (Xs env) e=(p,f) :=
 qo (ZaS e.args (Xf hx).1 (J9 hk).2) ht
theorem E5{env:Env}{e:PE}(hx:YA e=true)(hk:kE env e=true):YY env e≠.unk :=
 Kr (Xf hx).2 (J9 hk).1 (fun h=>E6 e.args (Xf hx).1 (J9 hk).2 h)
theorem qW{env:Env}{e:PE}(D:YA e=true)(C:kE env e=true)(x:e.k≠1)(y:e.k≠2){p f:Int}(ht:YY env e=.ok p f) :
  ∃c,e.args.at 0=some c∧YA c=true∧kE env c=true∧∃p1 f1,YY env c=.ok p1 f1∧clock.YE p1 f1 e.k e.n e.d=(p,f,0):=by
 obtain⟨j,z⟩:=Xf D;obtain⟨E,A⟩:=Vz z x;obtain⟨k,g,n,d,args,a,q⟩:=Gw (A y);obtain⟨_,m⟩:=J9 C;rw[q] at j m;rw[exR,ZA,ZA] at j;rw[kL,ZA,ZA] at m;refine⟨⟨k,g,n,d,args,a⟩,by rw[q];rfl,by unfold YA;rw[ZA];exact j.1,by unfold kE;rw[ZA];exact m.1,?_⟩;unfold YY Xe at ht;rw[ZZ x,q] at ht;have v:YS env (.cons k g n d args a .nil)=YY env ⟨k,g,n,d,args,a⟩:=by
  rw[YS];show(match YY env ⟨k,g,n,d,args,a⟩ with|.unk=>YS env .nil|.ok p f=>.ok p f|.bad a e=>.bad a e)=_
  cases YY env ⟨k,g,n,d,args,a⟩<;>rfl
 rw[v] at ht
 cases hs:YY env ⟨k,g,n,d,args,a⟩ with
 | unk=>rw[hs] at ht;cases ht
 | bad a e=>rw[hs] at ht;cases ht
 | ok p1 f1 =>
  rw[hs] at ht;simp only at ht;rw[ZZ y] at ht;refine⟨p1,f1,rfl,?_⟩;split at ht
  ·rename_i h0
   injection ht with h5 h6
   rw[←h5,←h6,←h0]
  cases ht
theorem ZdM{env:Env}{p f:Int}(A:(p,f)≠(0,0)):∀l:PL,exR l=true→kL env l=true→ckL env (p,f) l=true→∀(w:ByteArray)(i:Nat),∀kd∈Xx l w i,YA kd.1=true∧kE env kd.1=true∧YY env kd.1=.ok p f:=by
 intro l
 induction l with
 | nil=>intro _ _ _ w i kd h;cases h
 | cons k nm n d args a tl ih1 ih2 =>
  intro v q g w i kd h;rw[exR,ZA] at v;rw[kL,ZA] at q;rw[ckL] at g;have m:YA ⟨k,nm,n,d,args,a⟩=true:=v.1;have j:kE env ⟨k,nm,n,d,args,a⟩=true:=q.1;have ht:YY env ⟨k,nm,n,d,args,a⟩=.ok p f∧ckL env (p,f) tl=true:=by
   have x:=E5 m j;show Xe env k nm n d a (YS env args)=.ok p f∧_
   cases hh:Xe env k nm n d a (YS env args) with
   | unk=>exact absurd hh x
   | bad a1 e1=>rw[hh] at g;cases g
   | ok p1 f1 =>
    rw[hh] at g;simp only[ZA,Yi] at g;obtain⟨y,z⟩:=g;injection y with h4 h5
    exact⟨by rw[h4,h5],z⟩
  rcases ZQ.1 h with rfl|h
  ·exact⟨m,j,ht.1⟩
  exact ih2 v.2 q.2 ht.2 w (i+1) kd h
theorem ZcG{p f:Int}(h:clock.YD p f=true):(p,f)≠(0,0):=by
 intro g;injection g with h3 h4
 unfold clock.YD at h;simp only[Yi] at h;omega
theorem zv{env:Env}(F:RtE env){e:PE}(I:YA e=true)(H:kE env e=true)(A:e.k=2)(g:okE env e=true){p f:Int}(ht:YY env e=.ok p f)(w:ByteArray) :
  ∀kd∈Xx e.args w 0,YA kd.1=true∧kE env kd.1=true∧YY env kd.1=.ok p f:=by
 obtain⟨v,C⟩:=Xf I;obtain⟨_,x⟩:=J9 H;obtain⟨E,_⟩:=Vz C oq;obtain⟨k,z,n,d,args,a,J,G⟩:=ZfQ E;unfold okE at g;rw[A] at g;simp only[ne_eq,not_true_eq_false,decide_false,Bool.false_or] at g;have y:=ZcG (VN F ht);unfold YY Xe at ht;rw[ZZ oq] at ht;rw[G] at v x g ht ⊢;rw[YS] at ht;rw[ckA] at g;rw[exR,ZA] at v;rw[kL,ZA] at x;have q:YA ⟨k,z,n,d,args,a⟩=true:=v.1;have m:kE env ⟨k,z,n,d,args,a⟩=true:=x.1;have D:=E5 q m
 cases hh:Xe env k z n d a (YS env args) with
 | unk=>exact absurd hh D
 | bad a1 e1=>rw[hh] at g;cases g
 | ok p1 f1 =>
  rw[hh] at g ht;simp only[Z0 A] at ht;injection ht with h4 h5
  subst h4;subst h5;intro kd j;rcases ZQ.1 j with rfl|j
  ·exact⟨q,m,hh⟩
  exact ZdM y J v.2 x.2 g w 1 kd j
theorem Em:∀(l:PL)(w:ByteArray)(i:Nat),∀kd∈Xx l w i,kd∈YU l w i:=by
 intro l
 induction l with
 | nil=>intro w i kd h;cases h
 | cons k nm n d args a tl ih1 ih2 =>
  intro w i kd h;rw[YU];rcases ZQ.1 h with rfl|h
  ·simp
  simp[ih2 w (i+1) kd h]
theorem ZcU:∀(l:PL)(w:ByteArray)(i:Nat),∀s∈YU l w i,∀t∈YU s.1.args s.2 0,t∈YU l w i:=by
 intro l
 induction l with
 | nil=>intro w i s h;cases h
 | cons k nm n d args a tl ih1 ih2 =>
  intro w i s h t ht;rw[YU] at h ⊢;rcases ZQ.1 h with rfl|h
  ·exact List.mem_cons_of_mem _ (List.mem_append_left _ ht)
  rcases List.mem_append.1 h with h|h
  ·exact List.mem_cons_of_mem _ (List.mem_append_left _ (ih1 _ _ s h t ht))
  exact List.mem_cons_of_mem _ (List.mem_append_right _ (ih2 _ _ s h t ht))
theorem jT{e:PE}{w:ByteArray}:∀s∈YT e w,∀kd∈Xx s.1.args s.2 0,kd∈YT e w:=by
 intro s g kd f;unfold YT at g ⊢;rcases ZQ.1 g with rfl|g
 ·exact List.mem_cons_of_mem _ (Em _ _ _ kd f)
 exact List.mem_cons_of_mem _ (ZcU _ _ _ s g kd (Em _ _ _ kd f))
theorem VK:∀(l:List FL)(i:Nat),∀s∈Xt l i,∀kd∈Xx s.1.args s.2 0,kd∈Xt l i
 | [],_,s,h=>by cases h
 | f::l,i,s,h=>fun kd hkd=>by
  rw[Xt] at h ⊢;rcases List.mem_append.1 h with h|h
  ·exact List.mem_append_left _ (jT s h kd hkd)
  exact List.mem_append_right _ (VK l (i+1) s h kd hkd)
theorem VJ:∀(l:List FL)(i j:Nat)(h:j<l.length),(l[j].e,dg (i+j))∈Xt l i
 | [],_,j,h=>by simp at h
 | f::l,i,j,h=>by
  rw[Xt]
  cases j with
  | zero=>exact List.mem_append_left _ (by unfold YT;simp)
  | succ j =>
   refine List.mem_append_right _ ?_;have:=VJ l (i+1) j (by simpa using h);rw[show i+1+j=i+(j+1) by omega] at this;simpa using this
theorem Zb7{e c:PE}{w:ByteArray}(h:e.args.at 0=some c):(c,w++⟨#[47]⟩++dg 0)∈Xx e.args w 0:=by
 have:=El e.args w 0 0 c h;exact Z8 this
theorem uQ{env:Env}:∀(l:PL)(w:ByteArray)(i:Nat),exR l=true→kL env l=true→(Xn l).all (okE env)=true→∀s∈YU l w i,YA s.1=true∧kE env s.1=true∧okE env s.1=true:=by
 intro l
 induction l with
 | nil=>intro w i _ _ _ s h;cases h
 | cons k nm n d args a tl ih1 ih2 =>
  intro w i q m j s h;rw[exR,ZA] at q;rw[kL,ZA] at m;have g:YA ⟨k,nm,n,d,args,a⟩=true:=q.1;have f:kE env ⟨k,nm,n,d,args,a⟩=true:=m.1;simp only[Xn,List.all_cons,List.all_append,ZA] at j;rw[YU] at h;rcases ZQ.1 h with rfl|h
  ·exact⟨g,f,j.1⟩
  rcases List.mem_append.1 h with h|h
  ·exact ih1 _ _ (Xf g).1 (J9 f).2 j.2.1 s h
  exact ih2 _ _ q.2 m.2 j.2.2 s h
theorem Vh{env:Env}:∀(l:List FL)(i:Nat),(∀f∈l,YA f.e=true∧kE env f.e=true)→XR env l=true→∀s∈Xt l i,YA s.1=true∧kE env s.1=true∧okE env s.1=true
 | [],_,_,_,s,h=>by cases h
 | f::l,i,hx,ho,s,h=>by
  unfold XR at ho;simp only[XI,List.all_cons,List.all_append,ZA] at ho;obtain⟨h1,h2⟩:=hx f (by simp);rw[Xt] at h;rcases List.mem_append.1 h with h|h
  ·unfold YT at h;rcases ZQ.1 h with rfl|h
   ·exact⟨h1,h2,ho.1⟩
   exact uQ _ _ _ (Xf h1).1 (J9 h2).2 ho.2.1 s h
  exact Vh l (i+1) (fun f hf=>hx f (by simp[hf])) (by unfold XR;exact ho.2.2) s h
theorem UF:∀(l:List (Int × Int × Int))(p f p1 f1:Int)(o:Int × Int × Int)(p2 f2:Int),clock.YO p f l=(p1,f1,0)→clock.YE p1 f1 o.1 o.2.1 o.2.2=(p2,f2,0)→clock.YO p f (l++[o])=(p2,f2,0)
 | [],p,f,p1,f1,o,p2,f2,h1,h2=>by
  rw[clock.YO] at h1;injection h1 with h3 h4
  injection h4 with h4 _
  subst h3;subst h4;rw[ZL,clock.YO];simp only[h2,if_true,clock.YO]
 | x::l,p,f,p1,f1,o,p2,f2,h1,h2=>by
  rw[clock.YO] at h1;rw[ZB,clock.YO];by_cases h0:(clock.YE p f x.1 x.2.1 x.2.2).2.2=0
  ·rw[Z0 h0] at h1 ⊢;exact UF l _ _ p1 f1 o p2 f2 h1 h2
  rw[ZZ h0] at h1;injection h1 with _ h3
  injection h3 with _ h3
  exact absurd h3 h0
structure Zdn (p:PG) (env:Env) (xIx fIx iIx:IE) (f:FD):Prop where
 ck:Ug p env
 ok:∀g∈p.flows,YA g.e=true∧kE env g.e=true
 fl:∀nm j,fIx nm=some j→∃h:j<p.flows.length,p.flows[j].nm=nm
 inn:∀nm c,fIx nm=none→env nm=some c→∃i,iIx nm=some i∧f.ins[i]?=some c
 il:f.ins.length=p.ins.length
 xx:∀s∈Xt p.flows 0,s.1.k=2→∃j t,xIx s.2=some j∧f.tasks[j]?=some t∧(t.per,t.ph)=US (Xs env) s.1
theorem Zdz{p:PG}{env:Env}{xIx A iIx:IE}{f:FD}(h:Zdn p env xIx A iIx f):∀(N:Nat)(e:PE)(m:ByteArray)(q:List Op3)(r:Nat × List Op3)(F E:Int),(e,m)∈Xt p.flows 0→YY env e=.ok F E →
  Xr p.flows p.ins.length xIx A iIx N e m q=some r→r.2.length≤20→∃(L:List Op3)(s:Int × Int),r.2=q++L∧QD f (r.1:Int)=some s∧clock.YD s.1 s.2=true∧clock.YO s.1 s.2 L.reverse=(F,E,0):=by
 intro N
 induction N with
 | zero=>intro e m q r F E _ _ g;rw[Xr] at g;cases g
 | succ N ih =>
  intro e m q r F E V ht g O;obtain⟨R,M,Y⟩:=Vh p.flows 0 h.ok h.ck.calls (e,m) V;simp only at R M Y;rw[Xr] at g;by_cases G:20<q.length
  ·rw[Z0 G] at g;injection g with g
   rw[←g] at O;simp only at O;omega
  rw[ZZ G] at g;by_cases J:e.k=2
  ·rw[Z0 J] at g;injection g with g
   subst g;obtain⟨j,t,y,H,v⟩:=h.xx (e,m) V J;simp only at y v ⊢;obtain⟨C,D⟩:=Zz.1 H;refine⟨[],(t.per,t.ph),by simp,?_,?_,?_⟩
   ·rw[y];have:=JW (f:=f) C;rw[h.il,D] at this;simpa using this
   ·rw[KN R M ht] at v;injection v with x z
    simp only[x,z];exact VN h.ck.rt ht
   rw[KN R M ht] at v;injection v with x z
   simp only[x,z];rfl
  rw[ZZ J] at g;by_cases I:e.k=1
  ·rw[ZZ (by simpa using I)] at g;unfold YY Xe at ht;rw[Z0 I] at ht
   cases he:env e.nm with
   | none=>rw[he] at ht;cases ht
   | some c =>
    rw[he] at ht;injection ht with y H
    cases hf:A e.nm with
    | none =>
     rw[hf] at g;injection g with g
     subst g;obtain⟨i,v,C⟩:=h.inn e.nm c hf he;obtain⟨D,x⟩:=Zz.1 C;refine⟨[],c,by simp,?_,h.ck.rt _ _ he,?_⟩
     ·rw[v];have:=ZcW (f:=f) D;rw[x] at this;simpa using this
     rw[←y,←H];rfl
    | some j =>
     rw[hf] at g;simp only at g;obtain⟨v,C⟩:=h.fl _ _ hf;rw[Ze v] at g;simp only at g;obtain⟨X,Z,D,x⟩:=h.ck.flows _ (Zi v);rw[C,he] at x;injection x with x
     have z:=VJ p.flows 0 j v;rw[ZC] at z;refine ih _ _ q r F E z ?_ g O;rw[D,←y,←H,x]
  rw[Z0 I] at g;obtain⟨c,y,H,v,X,f1,C,D⟩:=qW R M I J ht;rw[y] at g;simp only at g;obtain⟨L,s,x,z,T,U⟩:=ih c _ _ r X f1 (VK p.flows 0 (e,m) V _ (Zb7 y)) C g O;refine⟨(e.k,e.n,e.d)::L,s,by rw[x];simp,z,T,?_⟩;rw[List.reverse_cons];exact UF _ _ _ _ _ _ _ _ U D
theorem Zbm{p:PG}{env:Env}{xIx j iIx:IE}{f:FD}(h:Zdn p env xIx j iIx f){e:PE}{g:ByteArray}(D:Xd p.flows p.ins.length xIx j iIx e)(F:(e,g)∈Xt p.flows 0){q m:Int}(ht:YY env e=.ok q m)(x:Kp p xIx j iIx e g=true) :
  ∃s,QD f ((JH p xIx j iIx e g).1:Int)=some s∧(JH p xIx j iIx e g).2.reverse.length≤20∧clock.Gk s.1 s.2 (JH p xIx j iIx e g).2.reverse=(q,m,0):=by
 obtain⟨N,E⟩:=Jb D g;unfold Kp at x;have y:=Yh x;obtain⟨L,s,v,z,A,C⟩:=Zdz h N e g [] _ q m F ht E y;rw[ZL] at v;refine⟨s,z,by rw[List.length_reverse];exact y,?_⟩;unfold clock.Gk;rw[Z0 A,v];exact C
theorem Zb8{l:PL}{w:ByteArray}{i:Nat}(h:l.len=0):Xx l w i=[]:=by
 cases l with
 | nil=>rfl
 | cons k nm n d args a tl=>simp only[PL.len] at h;omega
theorem qz{env:Env}(A:RtE env){e:PE}(q:YA e=true)(y:kE env e=true)(D:okE env e=true){p f:Int}(ht:YY env e=.ok p f)(w:ByteArray):∀kd∈Xx e.args w 0,∃p f,YY env kd.1=.ok p f:=by
 intro kd g;by_cases v:e.k=1
 ·obtain⟨_,j⟩:=Xf q;unfold exE at j;rw[Z0 v] at j;simp only[ZA,Yi] at j;rw[Zb8 j.1.1.2] at g
  cases g
 by_cases x:e.k=2
 ·exact⟨p,f,(zv A q y x D ht w kd g).2.2⟩
 obtain⟨c,m,G,H,E,f1,z,_⟩:=qW q y v x ht;obtain⟨F,j⟩:=Xf q;obtain⟨k,I,n,d,args,a,C⟩:=Gw ((Vz j v).2 x);rw[C] at m g;injection m with m
 rw[Xx] at g;rcases ZQ.1 g with rfl|g
 ·exact⟨E,f1,by rw[m];exact z⟩
 cases g
theorem jU{env:Env}(y:RtE env):∀(l:PL)(w:ByteArray)(i:Nat),exR l=true→kL env l=true→(Xn l).all (okE env)=true→(∀kd∈Xx l w i,∃p f,YY env kd.1=.ok p f)→∀s∈YU l w i,∃p f,YY env s.1=.ok p f:=by
 intro l
 induction l with
 | nil=>intro w i _ _ _ _ s h;cases h
 | cons k nm n d args a tl ih1 ih2 =>
  intro w i x v q g s h;rw[exR,ZA] at x;rw[kL,ZA] at v;have m:YA ⟨k,nm,n,d,args,a⟩=true:=x.1;have j:kE env ⟨k,nm,n,d,args,a⟩=true:=v.1;simp only[Xn,List.all_cons,List.all_append,ZA] at q;rw[Xx] at g;obtain⟨p,f,ht⟩:=g _ (List.mem_cons_self ..);rw[YU] at h;rcases ZQ.1 h with rfl|h
  ·exact⟨p,f,ht⟩
  rcases List.mem_append.1 h with h|h
  ·exact ih1 _ _ (Xf m).1 (J9 j).2 q.2.1 (qz y m j q.1 ht _) s h
  exact ih2 _ _ x.2 v.2 q.2.2 (fun kd h9=>g kd (List.mem_cons_of_mem _ h9)) s h
theorem Ge{env:Env}(hR:RtE env):∀(l:List FL)(i:Nat),(∀f∈l,YA f.e=true∧kE env f.e=true)→XR env l=true→(∀f∈l,FcS env f)→∀s∈Xt l i,∃p f,YY env s.1=.ok p f
 | [],_,_,_,_,s,h=>by cases h
 | f::l,i,hx,ho,hF,s,h=>by
  unfold XR at ho;simp only[XI,List.all_cons,List.all_append,ZA] at ho;obtain⟨h1,h2⟩:=hx f (by simp);obtain⟨p,q,ht,_⟩:=hF f (by simp);rw[Xt] at h;rcases List.mem_append.1 h with h|h
  ·unfold YT at h;rcases ZQ.1 h with rfl|h
   ·exact⟨p,q,ht⟩
   exact jU hR _ _ _ (Xf h1).1 (J9 h2).2 ho.2.1 (qz hR h1 h2 ho.1 ht _) s h
  exact Ge hR l (i+1) (fun g hg=>hx g (by simp[hg])) (by unfold XR;exact ho.2.2) (fun g hg=>hF g (by simp[hg])) s h
theorem zA{p:PG}{xIx fIx iIx:IE}:∀(l:List FL)(i:Nat),Qi p xIx fIx iIx l i=true→∀s∈YM l i,qh p xIx fIx iIx s=true
 | [],_,_,s,h=>by cases h
 | f::l,i,hf,s,h=>by
  rw[Qi,ZA] at hf;unfold Zac at hf;rw[ZA] at hf;rw[YM] at h;rcases List.mem_append.1 h with h|h
  ·exact List.all_eq_true.1 hf.1.2 s h
  exact zA l (i+1) hf.2 s h
theorem qi{p:PG}{xIx fIx iIx:IE}:∀(l:List FL)(i:Nat),Qi p xIx fIx iIx l i=true→∀j (h:j<l.length),Kp p xIx fIx iIx l[j].e (dg (i+j))=true
 | [],_,_,j,h=>by simp at h
 | f::l,i,hf,j,h=>by
  rw[Qi,ZA] at hf;unfold Zac at hf;rw[ZA] at hf
  cases j with
  | zero=>exact hf.1.1
  | succ j =>
   have:=qi l (i+1) hf.2 j (by simpa using h);rw[show i+1+j=i+(j+1) by omega] at this;simpa using this
theorem qj(env':Env):∀(l:List FL)(e:Env)(nm:ByteArray),(VC env' l e nm=some (Jg env' nm)∧∃f∈l,f.nm=nm)∨(VC env' l e nm=e nm∧∀f∈l,f.nm≠nm)
 | [],e,nm=>.inr ⟨rfl,fun f h=>by cases h⟩
 | f::l,e,nm=>by
  rw[VC];rcases qj env' l (upd e f.nm (Jg env' f.nm)) nm with ⟨h1,g,hg,hn⟩|⟨h1,h2⟩
  ·exact .inl ⟨h1,g,by simp[hg],hn⟩
  by_cases h:f.nm=nm
  ·refine .inl ⟨?_,f,by simp,h⟩;rw[h1];unfold upd;rw[Z0 h.symm,h]
  refine .inr ⟨?_,fun g hg=>?_⟩
  ·rw[h1];unfold upd;rw[ZZ (fun h9=>h h9.symm)]
  rcases ZQ.1 hg with rfl|hg
  ·exact h
  exact h2 g hg
theorem qq:∀(l:List IN)(e:Env),(l.map (·.nm)).Nodup→∀i (h:i<l.length),JP l e l[i].nm=some (l[i].per,l[i].ph)
 | [],_,_,i,h=>by simp at h
 | x::l,e,hn,i,h=>by
  rw[List.map_cons,List.nodup_cons] at hn;rw[JP]
  cases i with
  | zero =>
   have:∀(l:List IN)(e:Env)(nm:ByteArray),nm∉l.map (·.nm)→JP l e nm=e nm:=by
    intro l
    induction l with
    | nil=>intro e nm _;rfl
    | cons y l ih =>
     intro e nm h;rw[List.map_cons,ZQ,not_or] at h;rw[JP,ih _ _ h.2];unfold upd;rw[ZZ h.1]
   rw[List.getElem_cons_zero,this _ _ _ hn.1];unfold upd;rw[Z0 rfl]
  | succ i =>
   rw[List.getElem_cons_succ];exact qq l _ hn.2 i (by simpa using h)
theorem ql{j:Env}{g:List FL}{env:Env}(h:GrE j g env):∀nm c,env nm=some c→j nm=some c∨∃f∈g,f.nm=nm:=by
 induction h with
 | base=>intro nm c h;exact .inl h
 | step hg hf hn ht ih =>
  intro nm c h;unfold upd at h;split at h
  ·rename_i h1
   exact .inr ⟨_,hf,h1.symm⟩
  exact ih nm c h
theorem qT{l:List ByteArray}(h:∀i j (hi:i<l.length) (f:j<l.length),l[i]=l[j]→i=j):l.Nodup:=by
 unfold List.Nodup;rw[List.pairwise_iff_getElem];intro i j hi f m g;have:=h i j hi f g;omega
theorem zH{p:PG}(g:Qg p):(p.ins.map (·.nm)).Nodup:=qT (fun i j hi hj h=>by
 have hi2:i<p.ins.length:=by simpa using hi
 have f:j<p.ins.length:=by simpa using hj
 have m:=g.ins i hi2;have q:=g.ins j f;simp only[List.getElem_map] at h;rw[h] at m;omega)
theorem qS{p:PG}(g:Qg p):(p.nodes.map (·.nm)).Nodup:=qT (fun i j hi hj h=>by
 have hi2:i<p.nodes.length:=by simpa using hi
 have f:j<p.nodes.length:=by simpa using hj
 have m:=g.nodes i hi2;have q:=g.nodes j f;simp only[List.getElem_map] at h;rw[h] at m;omega)
theorem kY{p:PG}(hN:Qg p){i:Nat}(h:i<p.ins.length):Xa p.ins p.ins[i].nm=some (p.ins[i].per,p.ins[i].ph):=qq p.ins _ (zH hN) i h
theorem zy{p:PG}{env:Env}(A:Qg p)(z:Ug p env)(nm:ByteArray)(h:0≤YR p nm):(env nm).isSome=true:=by
 unfold YR at h
 cases h1:XM IN.nm nm p.ins 0 with
 | some i =>
  obtain⟨j,_,x,v,q⟩:=QJ _ _ _ _ _ h1;obtain⟨m,f⟩:=Zz.1 v;have g:=z.ext _ _ (kY A m);rw[f,q] at g;rw[g];rfl
 | none =>
  rw[h1] at h
  cases g:XM FL.nm nm p.flows 0 with
  | some i =>
   obtain⟨j,_,x,v,q⟩:=QJ _ _ _ _ _ g;obtain⟨m,f⟩:=Zz.1 v;obtain⟨a,b,_,y⟩:=z.flows _ (Zi m);rw[f,q] at y;rw[y];rfl
  | none=>rw[g] at h;simp at h
theorem Zhd{p:PG}{env:Env}(j:Qg p)(g:Ug p env):∀l:PL,nmL p l=true→kL env l=true:=by
 intro l
 induction l with
 | nil=>intro _;rfl
 | cons k nm n d args a tl ih1 ih2 =>
  intro h;rw[nmL,ZA,ZA] at h;rw[kL,ZA,ZA];refine⟨⟨?_,ih1 h.1.2⟩,ih2 h.2⟩;have f:=h.1.1;unfold nm1 at f;rw[Bool.or_eq_true] at f;rcases f with h2|h2
  ·rw[h2];rfl
  rw[zy j g nm (Yh h2),Bool.or_true]
theorem Zfo{p:PG}{env:Env}(g:Qg p)(m:Ug p env){j:Nat}(h:j<p.flows.length):kE env p.flows[j].e=true:=by
 obtain⟨_,q,v⟩:=g.flows j h;unfold kE;rw[ZA];refine⟨?_,Zhd g m _ (uz _ v)⟩;have f:=Zcs q;unfold nm1 at f;rw[Bool.or_eq_true] at f;rcases f with h4|h4
 ·rw[h4];rfl
 rw[zy g m _ (Yh h4),Bool.or_true]
theorem G4{p:PG}{env:Env}(g:Ug p env):Xs (Kn p env)=Xs env:=by
 funext nm;unfold Xs Kn;rcases qj env p.flows (Xa p.ins) nm with ⟨h1,f,hf,hn⟩|⟨h1,h2⟩
 ·rw[h1];rfl
 rw[h1]
 cases he:env nm with
 | none =>
  cases h0:Xa p.ins nm with
  | none=>rfl
  | some c=>rw[g.ext _ _ h0] at he;cases he
 | some c =>
  rcases ql g.gr nm c he with h3|⟨f,hf,hn⟩
  ·rw[h3]
  exact absurd hn (h2 f hf)
theorem Zhb{p:PG}{env:Env}(y:JG p)(v:Qg p)(q:Ug p env):Zdn p env (xI p) (fI p) (iI p) (Ko p env) where
 ck:=q
 ok:=fun g hg=>by
  obtain⟨j,hj,rfl⟩:=Yk hg;exact⟨(y.flows _ hg).2,Zfo v q hj⟩
 fl:=fun nm j h=>VV h
 inn:=fun nm c hf he=>by
  rcases ql q.gr nm c he with h3|⟨f,hf2,hn⟩
  ·rcases Ks p.ins _ nm (by rw[show JP p.ins (fun _=>none) nm=some c from h3];simp) with ⟨x,hx,hxn⟩|h4
   ·obtain⟨i,hi,rfl⟩:=Yk hx;have h5:=kY v hi;rw[hxn,h3] at h5;have h6:=VZ (p.ins.map (·.nm)) 0 (fun _=>none) (zH v) i (by simpa using hi);rw[List.getElem_map,hxn,ZC] at h6;refine⟨i,h6,?_⟩;show(p.ins.map (fun x=>(x.per,x.ph)))[i]?=some c;rw[List.getElem?_map,Ze hi];exact h5.symm
   exact absurd rfl h4
  have h1:=Kt (p.flows.map (·.nm)) 0 (fun _=>none) nm (Yc.2 ⟨f,hf2,hn⟩);exact absurd hf h1
 il:=by unfold Ko;simp
 xx:=fun s hs hk=>by
  have z:s∈YM p.flows 0:=by rw[Q8];exact List.mem_filter.2 ⟨hs,by unfold isC;exact ZY hk⟩
  obtain⟨j,hj,m⟩:=Yk z;have h6:=VZ ((YM p.flows 0).map Prod.snd) 0 (fun _=>none) (yH p.flows 0) j (by simpa using hj);rw[List.getElem_map,m,ZC] at h6;refine⟨j,Gs (tkR p (xI p) (fI p) (iI p) (nI p) (Kn p env) s),h6,?_,?_⟩
  ·show((YM p.flows 0).map (fun s=>Gs (tkR p (xI p) (fI p) (iI p) (nI p) (Kn p env) s)))[j]?=_;rw[List.getElem?_map,Ze hj,m];rfl
  simp only[Gs,tkR,G4 q]
theorem k8{p:PG}{env:Env}{f:FD}(h:Zdn p env (xI p) (fI p) (iI p) f)(z:∀e:PE,YA e=true→Xd p.flows p.ins.length (xI p) (fI p) (iI p) e){e:PE}{g:ByteArray}(v:(e,g)∈Xt p.flows 0){m j:Int}(ht:YY env e=.ok m j)(A:Kp p (xI p) (fI p) (iI p) e g=true) :
  Xw f ⟨((JH p (xI p) (fI p) (iI p) e g).1:Int),(JH p (xI p) (fI p) (iI p) e g).2.reverse⟩ m j=true:=by
 have C:=(Vh p.flows 0 h.ok h.ck.calls (e,g) v).1;obtain⟨s,x,q,y⟩:=Zbm h (z e C) v ht A;unfold Xw;simp only;rw[x];simp only;rw[y];rw[List.length_reverse] at q;simp[q]
theorem gE{n lo hi:Int}(h:inB n lo hi=true):lo≤n∧n≤hi:=by
 unfold inB at h;simpa using h
theorem ux{p:PG}{env:Env}(L:JG p)(J:Qg p)(v:Ug p env)(aa:(YM p.flows 0).length≤30)(C:Qi p (xI p) (fI p) (iI p) p.flows 0=true):Y5 (Ko p env)=true:=by
 have hF:=Zhb L J v;have hE:=GA L.ok J v;have hT:=Ge v.rt p.flows 0 hF.ok v.calls v.flows;rw[ZcI]
 ·unfold Ko;simpa using aa
 ·refine List.all_eq_true.2 (fun c hc=>?_);obtain⟨x,G,rfl⟩:=Yc.1 hc;exact L.ok.ins x G
 ·refine List.all_eq_true.2 (fun n hn=>?_);obtain⟨x,G,rfl⟩:=Yc.1 hn;exact ZY (gE (L.nodes x G).2.2.2.1)
 ·refine List.all_eq_true.2 (fun t ht=>?_);obtain⟨s,m,rfl⟩:=Yc.1 ht;have al:=m;rw[Q8] at m;obtain⟨z,hk⟩:=List.mem_filter.1 m;have T:s.1.k=2:=by unfold isC at hk;exact Yh hk
  obtain⟨G,U,ho⟩:=Vh p.flows 0 hF.ok v.calls s z;obtain⟨pp,ff,A⟩:=hT s z;have ac:=KN G U A;have F:∃i x,nI p s.1.nm=some i∧p.nodes[i]?=some x∧x.ps.length=s.1.args.len:=by
   have q:nd1 p s.1.k s.1.nm s.1.args.len=true:=by
    have key:∀(l:PL)(w:ByteArray)(i:Nat),nqL p l=true→∀s∈YU l w i,nq1 p s.1.k s.1.nm s.1.args.len=true:=by
     intro l
     induction l with
     | nil=>intro w i _ s h;cases h
     | cons k nm n d args a tl ih1 ih2 =>
      intro w i h s m;rw[nqL,ZA,ZA] at h;rw[YU] at m;rcases ZQ.1 m with rfl|m
      ·exact h.1.1
      rcases List.mem_append.1 m with m|m
      ·exact ih1 _ _ h.1.2 s m
      exact ih2 _ _ h.2 s m
    have Y:∀(l:List FL)(i:Nat),(∀f∈l,nq1 p f.e.k f.e.nm f.e.args.len=true∧nqL p f.e.args=true)→∀s∈Xt l i,nq1 p s.1.k s.1.nm s.1.args.len=true:=by
     intro l
     induction l with
     | nil=>intro i _ s h;cases h
     | cons f l ih =>
      intro i h s m;rw[Xt] at m;rcases List.mem_append.1 m with m|m
      ·unfold YT at m;rcases ZQ.1 m with rfl|m
       ·exact(h f (by simp)).1
       exact key _ _ _ (h f (by simp)).2 s m
      exact ih (i+1) (fun g hg=>h g (by simp[hg])) s m
    have D:=Y p.flows 0 (fun f hf=>by
     obtain⟨j,I,rfl⟩:=Yk hf;exact(J.flows j I).2) s z
    unfold nq1 at D;rw[ZA] at D;exact D.2
   unfold nd1 at q;rw[T] at q;simp only[ne_eq,not_true_eq_false,decide_false,Bool.false_or] at q
   cases D:XM ND.nm s.1.nm p.nodes 0 with
   | none=>rw[D] at q;cases q
   | some i =>
    rw[D] at q;have Z:=Yh q;obtain⟨j,ap,x,H,ao⟩:=QJ _ _ _ _ _ D;obtain rfl:i=j:=oq;rw[H] at Z;injection Z with Z
    obtain⟨I,an⟩:=Zz.1 H;have h6:=VZ (p.nodes.map (·.nm)) 0 (fun _=>none) (qS J) i (by simpa using I);rw[List.getElem_map,an,ao,ZC] at h6;exact⟨i,x,h6,H,Z⟩
  obtain⟨i,x,aj,ak,V⟩:=F;have ab:1≤s.1.args.len:=(Vz (Xf G).2 oq).1;unfold Js;simp only[Gs,tkR,aj,Z7];rw[ZZ oq,ZP];have ai:(Ko p env).nods[i]?=some (ZaW x):=by
   show(p.nodes.map ZaW)[i]?=_;rw[List.getElem?_map,ak];rfl
  rw[ai];simp only[Zo,JQ,ZaW,V,G4 v,ac];simp only[decide_true,Bool.true_and];rw[show decide (s.1.args.len≠0)=true from ZY oq,Bool.true_and];refine List.all_eq_true.2 (fun a ha=>?_);simp only[List.map_map,Yc] at ha;obtain⟨kd,E,rfl⟩:=ha;have O:=zA p.flows 0 C s al;unfold qh at O;have ag:=List.all_eq_true.1 O kd E;obtain⟨_,_,am⟩:=zv v.rt G U T ho A s.2 kd E;exact k8 hF hE (VK p.flows 0 s z kd E) am ag
 refine List.all_eq_true.2 (fun t ht=>?_);obtain⟨o,ho,rfl⟩:=Yc.1 ht;obtain⟨i,hi,rfl⟩:=Yk ho;obtain⟨j,I,y⟩:=uc (J.outs i hi);obtain⟨_,ah⟩:=VV I;obtain⟨a,b,A,M⟩:=v.flows _ (Zi y);rw[ah] at M;have X:=VJ p.flows 0 j y;have R:=qi p.flows 0 C j y;rw[ZC] at X R;unfold KM;rw[ZA];refine⟨ZY (gE (L.outs _ ho)),?_⟩;have af:flE p j=p.flows[j].e:=by unfold flE;rw[Ze y]
 have ae:Xs env p.outs[i].fl=(a,b):=by unfold Xs;rw[M];rfl
 simp only[Zc8,tlR,I,Z7,af,G4 v,ae];exact k8 hF hE X A R
def MdV(x:Ending)(w':World):Prop :=
 x=.returned (.tuple #[.agg #[.slice none 0 0,.slice none 0 0,.slice none 0 0,.slice none 0 0],.bool false])∨∃f nds ai an aT al ci cn ct cl,x=.returned (.tuple #[fv f ai an aT al ci cn ct cl,.bool true])∧FAP w' f ai an aT al∧xJ w' f an nds∧(∀n∈nds,XF n.e=true)∧Y5 f=true
theorem ZfD{p:PG}{base:Nat}{x:Ending}{w':World}(h:ym p base x w'):MdV x w':=by
 rcases ZfC h with h|⟨env,ai,an,aT,al,ci,cn,ct,cl,hx,hf,hs,hr,hN,hC,h30,hfew⟩
 ·exact .inl h
 refine .inr ⟨_,_,ai,an,aT,al,ci,cn,ct,cl,hx,hf,hs,fun n hn=>?_,ux hr hN hC h30 hfew⟩;obtain⟨y,hy,rfl⟩:=Yc.1 hn;exact(hr.nodes y hy).2.2.2.2
end Go.Proofs.YtdgifkjaflfdeaaGreatDoor.syn
