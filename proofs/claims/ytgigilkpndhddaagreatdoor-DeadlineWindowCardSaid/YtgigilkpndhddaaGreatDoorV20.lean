/- Parts of the proof. -/
import Derived.Test.YtgigilkpndhddaaGreatDoorV17
import Derived.Test.YtgigilkpndhddaaGreatDoorV19
set_option linter.all false
set_option maxRecDepth 100000
set_option maxHeartbeats 16000000
namespace Go.Proofs.YtgigilkpndhddaaGreatDoor.syn
open Tryz
open Go.RowKit
theorem Zbn:∀(u:Nat),∀c∈Lib.decDigits u,∃k,k<10∧c=UInt8.ofNat (48+k):=by
 intro u
 induction u using Nat.strongRecOn with
 | _ u ih =>
  intro c f;rw[Lib.decDigits]at f;split at f
  ·rename_i h
   exact⟨u,h,List.mem_singleton.1 f⟩
  rename_i h
  rcases List.mem_append.1 f with f|f
  ·exact ih (u/10) oq c f
  exact⟨u%10,Nat.mod_lt _ (by decide),List.mem_singleton.1 f⟩
theorem zI{a b:Nat}(g:a<10)(hb:b<10)(h:UInt8.ofNat (48+a)=UInt8.ofNat (48+b)):a=b:=by
 have f:=Z3 UInt8.toNat h;simp at f;omega
theorem Zev{u:Nat}{c:UInt8}(h:c∈Lib.decDigits u):c≠47:=by
 obtain⟨k,j,rfl⟩:=Zbn u c h;intro f;have g:=Z3 UInt8.toNat f;simp at g;omega
theorem Zeu(u:Nat):Lib.decDigits u≠[]:=by
 rw[Lib.decDigits];split<;>simp
theorem yO{u:Nat}(h:¬u<10):Lib.decDigits u=Lib.decDigits (u/10)++[UInt8.ofNat (48+u%10)]:=by rw[Lib.decDigits,dif_neg h]
theorem Ze0:∀(u v:Nat),Lib.decDigits u=Lib.decDigits v→u=v:=by
 intro u
 induction u using Nat.strongRecOn with
 | _ u ih =>
  intro v h;by_cases m:u<10
  ·by_cases f:v<10
   ·rw[Lib.decDigits_one m,Lib.decDigits_one f]at h;injection h with h _
    exact zI m f h
   exfalso;rw[Lib.decDigits_one m,yO f]at h;have g:=Z3 List.length h;rw[Zx,List.length_singleton,List.length_singleton]at g;have j:=List.length_pos_iff.2 (Zeu (v/10));omega
  by_cases f:v<10
  ·exfalso;rw[Lib.decDigits_one f,yO m]at h;have g:=Z3 List.length h;rw[Zx,List.length_singleton,List.length_singleton]at g;have j:=List.length_pos_iff.2 (Zeu (u/10));omega
  rw[yO m,yO f]at h;obtain⟨g,j⟩:=List.append_inj' h rfl;injection j with j _
  have q:=ih (u/10) oq (v/10) g;have x:=zI (Nat.mod_lt _ (by decide)) (Nat.mod_lt _ (by decide)) j;omega
def bl(b:ByteArray):List UInt8:=b.data.toList
theorem Zbf(a b:ByteArray):bl (a++b)=bl a++bl b:=by
 unfold bl;simp
theorem Ed(w:ByteArray)(i:Nat):bl (w++⟨#[47]⟩++dg i)=bl w++47::Lib.decDigits i:=by
 rw[Zbf,Zbf,List.append_assoc];rfl
def Rst(r:List UInt8):Prop:=r=[]∨∃r',r=47::r'
theorem Zcp:∀(l1 l2 r s:List UInt8),(∀c∈l1,c≠47)→(∀c∈l2,c≠47)→Rst r→Rst s→l1++r=l2++s→l1=l2∧r=s
 | [],[],r,s,_,_,_,_,h=>⟨rfl,h⟩
 | [],c::l2,r,s,_,h2,hr,_,h=>by
  exfalso;rcases hr with rfl|⟨r',rfl⟩
  ·simp at h
  injection h with h _
  exact h2 c (by simp) h.symm
 | c::l1,[],r,s,h1,_,_,hs,h=>by
  exfalso;rcases hs with rfl|⟨r',rfl⟩
  ·simp at h
  injection h with h _
  exact h1 c (by simp) h
 | c::l1,d::l2,r,s,h1,h2,hr,hs,h=>by
  injection h with ha hb
  obtain⟨h3,h4⟩:=Zcp l1 l2 r s (fun x hx=>h1 x (by simp[hx])) (fun x hx=>h2 x (by simp[hx])) hr hs hb;exact⟨by rw[ha,h3],h4⟩
theorem EJ{a b:Nat}{r s:List UInt8}(j:Rst r)(m:Rst s)(h:Lib.decDigits a++r=Lib.decDigits b++s):a=b∧r=s:=by
 obtain⟨f,g⟩:=Zcp _ _ r s (fun c hc=>Zev hc) (fun c hc=>Zev hc) j m h;exact⟨Ze0 _ _ f,g⟩
theorem Vp:∀(l:PL)(w:ByteArray)(i:Nat),∀s∈YY l w i,∃a rest,i≤a∧Rst rest∧bl s.2=bl w++47::(Lib.decDigits a++rest):=by
 intro l
 induction l with
 | nil=>intro w i s h;cases h
 | cons k nm n d args a tl ih1 ih2 =>
  intro w i s h;simp only[YY,ZR,List.mem_append]at h;rcases h with rfl|h|h
  ·exact⟨i,[],Zc _,.inl rfl,by rw[Ed,List.append_nil]⟩
  ·obtain⟨b,rest,_,_,hb⟩:=ih1 _ _ s h;exact⟨i,47::(Lib.decDigits b++rest),Zc _,.inr ⟨_,rfl⟩,by rw[hb,Ed];simp⟩
  obtain⟨b,rest,j,f,g⟩:=ih2 _ _ s h;exact⟨b,rest,oq,f,g⟩
theorem xv:∀(l:PL)(w:ByteArray)(i:Nat),((YY l w i).map (·.2)).Nodup:=by
 intro l
 induction l with
 | nil=>intro w i;simp[YY]
 | cons k nm n d args a tl ih1 ih2 =>
  intro w i;simp only[YY,List.map_cons,ZU];rw[List.nodup_cons,List.nodup_append];have A:∀x∈(YY args (w++⟨#[47]⟩++dg i) 0).map (·.2),∃b rest,Rst rest∧bl x=bl w++47::(Lib.decDigits i++47::(Lib.decDigits b++rest)):=by
   intro x m;obtain⟨s,v,rfl⟩:=Ye.1 m;obtain⟨b,rest,_,j,f⟩:=Vp _ _ _ s v;exact⟨b,rest,j,by rw[f,Ed];simp⟩
  have C:∀x∈(YY tl w (i+1)).map (·.2),∃b rest,i+1≤b∧Rst rest∧bl x=bl w++47::(Lib.decDigits b++rest):=by
   intro x m;obtain⟨s,v,rfl⟩:=Ye.1 m;exact Vp _ _ _ s v
  refine⟨fun h=>?_,ih1 _ _,ih2 _ _,fun x m y hy h=>?_⟩
  ·rcases List.mem_append.1 h with h|h
   ·obtain⟨b,rest,_,f⟩:=A _ h;rw[Ed]at f;have g:=Z3 List.length f;simp at g
   obtain⟨b,rest,D,j,f⟩:=C _ h;rw[Ed]at f;have g:=List.append_cancel_left f;injection g with _ g
   have q:=EJ (.inl rfl) j (by rw[List.append_nil];exact g);omega
  subst h;obtain⟨b,rest,_,f⟩:=A _ m;obtain⟨c,z,D,j,g⟩:=C _ hy;rw[f]at g;have q:=List.append_cancel_left g;injection q with _ q
  have E:=EJ (.inr ⟨_,rfl⟩) j q;omega
def XF:List FL→Nat→List (PE×ByteArray)
 | [],_=>[]
 | f::l,i=>YX f.e (dg i)++XF l (i+1)
theorem Jj:∀(l:List FL)(i:Nat),YM l i=(XF l i).filter isC
 | [],_=>rfl
 | f::l,i=>by rw[YM,XF,List.filter_append,Jj l (i+1)]
theorem EZ{e:PE}{j:Nat}:∀s∈YX e (dg j),∃rest,Rst rest∧bl s.2=Lib.decDigits j++rest:=by
 intro s f;unfold YX at f;rcases ZR.1 f with rfl|f
 ·exact⟨[],.inl rfl,by rw[List.append_nil];rfl⟩
 obtain⟨a,rest,_,_,h⟩:=Vp _ _ _ s f;exact⟨_,.inr ⟨_,rfl⟩,h⟩
theorem xu(e:PE)(j:Nat):((YX e (dg j)).map (·.2)).Nodup:=by
 unfold YX;rw[List.map_cons,List.nodup_cons];refine⟨fun h=>?_,xv _ _ _⟩;obtain⟨s,m,h⟩:=Ye.1 h;obtain⟨a,rest,_,_,g⟩:=Vp _ _ _ s m;have f:=Z3 (fun b=>(bl b).length) h;simp only[g]at f;simp at f
theorem E0:∀(l:List FL)(i:Nat),∀s∈XF l i,∃a rest,i≤a∧Rst rest∧bl s.2=Lib.decDigits a++rest
 | [],_,s,h=>by cases h
 | f::l,i,s,h=>by
  rcases List.mem_append.1 h with h|h
  ·obtain⟨rest,h1,h2⟩:=EZ s h;exact⟨i,rest,Zc _,h1,h2⟩
  obtain⟨a,rest,h1,h2,h3⟩:=E0 l (i+1) s h;exact⟨a,rest,oq,h2,h3⟩
theorem Ke:∀(l:List FL)(i:Nat),((XF l i).map (·.2)).Nodup
 | [],_=>by simp[XF]
 | f::l,i=>by
  rw[XF,ZU,List.nodup_append];refine⟨xu _ _,Ke l (i+1),fun x hx y hy h=>?_⟩;subst h;obtain⟨s,hs,hsx⟩:=Ye.1 hx;obtain⟨t,ht,htx⟩:=Ye.1 hy;obtain⟨rest,h1,h2⟩:=EZ s hs;obtain⟨a,rest2,h3,h4,h5⟩:=E0 l (i+1) t ht;have h6:bl s.2=bl t.2:=by rw[show s.2=t.2 from hsx.trans htx.symm]
  rw[h2,h5]at h6;have:=EJ h1 h4 h6;omega
theorem yK(l:List FL)(i:Nat):((YM l i).map (·.2)).Nodup:=by
 rw[Jj];exact((List.filter_sublist).map _).nodup (Ke l i)
theorem V5:∀(l:List ByteArray)(i:Nat)(e:IE),l.Nodup→∀j (h:j<l.length),inI l i e l[j]=some (i+j)
 | [],_,_,_,j,h=>by simp at h
 | k::l,i,e,hn,j,h=>by
  obtain⟨h1,h2⟩:=List.nodup_cons.1 hn;rw[inI]
  cases j with
  | zero =>
   have:∀(l:List ByteArray)(i:Nat)(e:IE)(k:ByteArray),k∉l→inI l i e k=e k:=by
    intro l
    induction l with
    | nil=>intro i e k _;rfl
    | cons a l ih =>
     intro i e k f;rw[inI,ih _ _ _ (fun h=>f (by simp[h]))];unfold VT;rw[Z1 (fun h=>f (by simp[h]))]
   rw[List.getElem_cons_zero,this _ _ _ _ h1];unfold VT;rw[Z2 rfl];rfl
  | succ j =>
   rw[List.getElem_cons_succ,V5 l (i+1) _ h2 j (by simpa using h)];congr 1;omega
def kL(env:Env):PL→Bool
 | .nil=>true
 | .cons k nm n d args a tl=>((decide (k≠1)||(env nm).isSome)&&kL env args)&&kL env tl
def kE(env:Env)(e:PE):Bool:=(decide (e.k≠1)||(env e.nm).isSome)&&kL env e.args
theorem Zfl{l:PL}(h:1≤l.len):∃k nm n d args a tl,l=.cons k nm n d args a tl:=by
 cases l with
 | nil=>simp[PL.len]at h
 | cons k nm n d args a tl=>exact⟨k,nm,n,d,args,a,tl,rfl⟩
theorem VB{k n d:Int}{nm:ByteArray}{len:Nat}(h:exE k n d nm len=true)(j:k≠1):1≤len∧(k≠2→len=1):=by
 unfold exE at h;rw[Z1 j]at h;by_cases g:k=2
 ·rw[Z2 g]at h;simp only[ZB,Yk]at h;exact⟨h.1.1.1.2,fun f=>absurd g f⟩
 rw[Z1 g]at h;by_cases f:len=1
 ·exact⟨oq,fun _=>f⟩
 rw[Z2 (.inl f)]at h
 cases h
theorem KE{env:Env}{k:Int}{nm:ByteArray}{n d a:Int}{args:PL}(v:exE k n d nm args.len=true)(m:(decide (k≠1)||(env nm).isSome)=true)(x:args≠.nil→YU env args≠.unk):Xh env k nm n d a (YU env args)≠.unk:=by
 unfold Xh;by_cases g:k=1
 ·rw[Z2 g]
  cases he:env nm with
  | none=>subst g;rw[he]at m;simp at m
  | some c=>simp
 rw[Z1 g];obtain⟨j,_⟩:=VB v g;have q:=x (by intro h;rw[h]at j;simp[PL.len]at j)
 cases ht:YU env args with
 | unk=>exact absurd ht q
 | bad a e=>simp
 | ok p f=>simp only;split<;>(try split)<;>simp
theorem E8{env:Env}:∀l:PL,exR l=true→kL env l=true→l≠.nil→YU env l≠.unk:=by
 intro l
 induction l with
 | nil=>intro _ _ h;exact absurd rfl h
 | cons k nm n d args a tl ih1 ih2 =>
  intro j g _;rw[exR,ZB,ZB]at j;rw[kL,ZB,ZB]at g;have m:=KE (a:=a) j.1.2 g.1.1 (fun h=>ih1 j.1.1 g.1.2 h);rw[YU]
  cases ht:Xh env k nm n d a (YU env args) with
  | unk=>exact absurd ht m
  | ok p f=>simp
  | bad a e=>simp
theorem qp{env:Env}{k:Int}{nm:ByteArray}{n d a:Int}{args:PL}{p f:Int}(m:∀p f,YU env args=.ok p f→vA (XB env) args=(p,f))(ht:Xh env k nm n d a (YU env args)=.ok p f):eG (XB env) k nm n d (vA (XB env) args)=(p,f):=by
 unfold Xh at ht;unfold eG;by_cases j:k=1
 ·rw[Z2 j]at ht ⊢;unfold XB
  cases he:env nm with
  | none=>rw[he]at ht;cases ht
  | some c=>rw[he]at ht;injection ht with h1 g;rw[←h1,←g];rfl
 rw[Z1 j]at ht ⊢
 cases hs:YU env args with
 | unk=>rw[hs]at ht;cases ht
 | bad a e=>rw[hs]at ht;cases ht
 | ok p1 f1 =>
  rw[hs]at ht;rw[m p1 f1 hs];simp only at ht ⊢;by_cases g:k=2
  ·rw[Z2 g]at ht ⊢;injection ht with h3 h4
   rw[h3,h4]
  rw[Z1 g]at ht ⊢;split at ht
  ·injection ht with h3 h4
   rw[h3,h4]
  cases ht
theorem ZaL{env:Env}:∀l:PL,exR l=true→kL env l=true→∀p f,YU env l=.ok p f→vA (XB env) l=(p,f):=by
 intro l
 induction l with
 | nil=>intro _ _ p f h;cases h
 | cons k nm n d args a tl ih1 ih2 =>
  intro j g p f ht;rw[exR,ZB,ZB]at j;rw[kL,ZB,ZB]at g;have m:=KE (a:=a) j.1.2 g.1.1 (fun h=>E8 args j.1.1 g.1.2 h);rw[YU]at ht;rw[vA];refine qp (ih1 j.1.1 g.1.2) (a:=a) ?_
  cases hh:Xh env k nm n d a (YU env args) with
  | unk=>exact absurd hh m
  | ok p1 f1=>rw[hh]at ht;exact ht
  | bad a1 e1=>rw[hh]at ht;cases ht
theorem Xj{e:PE}(h:YE e=true):exR e.args=true∧exE e.k e.n e.d e.nm e.args.len=true:=by
 unfold YE at h
 rwa [ZB]at h
theorem Vk{env:Env}{e:PE}(h:kE env e=true):(decide (e.k≠1)||(env e.nm).isSome)=true∧kL env e.args=true:=by
 unfold kE at h
 rwa [ZB]at h
theorem K4{env:Env}{e:PE}(hx:YE e=true)(hk:kE env e=true){p f:Int}(ht:Y1 env e=.ok p f):UY (XB env) e=(p,f) :=
 qp (ZaL e.args (Xj hx).1 (Vk hk).2) ht
theorem E7{env:Env}{e:PE}(hx:YE e=true)(hk:kE env e=true):Y1 env e≠.unk :=
 KE (Xj hx).2 (Vk hk).1 (fun h=>E8 e.args (Xj hx).1 (Vk hk).2 h)
theorem qS{env:Env}{e:PE}(D:YE e=true)(C:kE env e=true)(x:e.k≠1)(y:e.k≠2){p f:Int}(ht:Y1 env e=.ok p f):
  ∃c,e.args.at 0=some c∧YE c=true∧kE env c=true∧∃p1 f1,Y1 env c=.ok p1 f1∧clock.YB p1 f1 e.k e.n e.d=(p,f,0):=by
 obtain⟨j,z⟩:=Xj D;obtain⟨E,A⟩:=VB z x;obtain⟨k,g,n,d,args,a,q⟩:=Gw (A y);obtain⟨_,m⟩:=Vk C;rw[q]at j m;rw[exR,ZB,ZB]at j;rw[kL,ZB,ZB]at m;refine⟨⟨k,g,n,d,args,a⟩,by rw[q];rfl,by unfold YE;rw[ZB];exact j.1,by unfold kE;rw[ZB];exact m.1,?_⟩;unfold Y1 Xh at ht;rw[Z1 x,q]at ht;have v:YU env (.cons k g n d args a .nil)=Y1 env ⟨k,g,n,d,args,a⟩:=by
  rw[YU];show(match Y1 env ⟨k,g,n,d,args,a⟩ with|.unk=>YU env .nil|.ok p f=>.ok p f|.bad a e=>.bad a e)=_
  cases Y1 env ⟨k,g,n,d,args,a⟩<;>rfl
 rw[v]at ht
 cases hs:Y1 env ⟨k,g,n,d,args,a⟩ with
 | unk=>rw[hs]at ht;cases ht
 | bad a e=>rw[hs]at ht;cases ht
 | ok p1 f1 =>
  rw[hs]at ht;simp only at ht;rw[Z1 y]at ht;refine⟨p1,f1,rfl,?_⟩;split at ht
  ·rename_i h0
   injection ht with h5 h6
   rw[←h5,←h6,←h0]
  cases ht
theorem Zdu{env:Env}{p f:Int}(A:(p,f)≠(0,0)):∀l:PL,exR l=true→kL env l=true→ckL env (p,f) l=true→∀(w:ByteArray)(i:Nat),∀kd∈XI l w i,YE kd.1=true∧kE env kd.1=true∧Y1 env kd.1=.ok p f:=by
 intro l
 induction l with
 | nil=>intro _ _ _ w i kd h;cases h
 | cons k nm n d args a tl ih1 ih2 =>
  intro v q g w i kd h;rw[exR,ZB]at v;rw[kL,ZB]at q;rw[ckL]at g;have m:YE ⟨k,nm,n,d,args,a⟩=true:=v.1;have j:kE env ⟨k,nm,n,d,args,a⟩=true:=q.1;have ht:Y1 env ⟨k,nm,n,d,args,a⟩=.ok p f∧ckL env (p,f) tl=true:=by
   have x:=E7 m j;show Xh env k nm n d a (YU env args)=.ok p f∧_
   cases hh:Xh env k nm n d a (YU env args) with
   | unk=>exact absurd hh x
   | bad a1 e1=>rw[hh]at g;cases g
   | ok p1 f1 =>
    rw[hh]at g;simp only[ZB,Yk]at g;obtain⟨y,z⟩:=g;injection y with h4 h5
    exact⟨by rw[h4,h5],z⟩
  rcases ZR.1 h with rfl|h
  ·exact⟨m,j,ht.1⟩
  exact ih2 v.2 q.2 ht.2 w (i+1) kd h
theorem Zcy{p f:Int}(h:clock.YF p f=true):(p,f)≠(0,0):=by
 intro g;injection g with h3 h4
 unfold clock.YF at h;simp only[Yk]at h;omega
theorem zD{env:Env}(F:RtE env){e:PE}(I:YE e=true)(H:kE env e=true)(A:e.k=2)(g:okE env e=true){p f:Int}(ht:Y1 env e=.ok p f)(w:ByteArray):
  ∀kd∈XI e.args w 0,YE kd.1=true∧kE env kd.1=true∧Y1 env kd.1=.ok p f:=by
 obtain⟨v,C⟩:=Xj I;obtain⟨_,x⟩:=Vk H;obtain⟨E,_⟩:=VB C oq;obtain⟨k,z,n,d,args,a,J,G⟩:=Zfl E;unfold okE at g;rw[A]at g;simp only[ne_eq,not_true_eq_false,decide_false,Bool.false_or]at g;have y:=Zcy (VQ F ht);unfold Y1 Xh at ht;rw[Z1 oq]at ht;rw[G]at v x g ht ⊢;rw[YU]at ht;rw[ckA]at g;rw[exR,ZB]at v;rw[kL,ZB]at x;have q:YE ⟨k,z,n,d,args,a⟩=true:=v.1;have m:kE env ⟨k,z,n,d,args,a⟩=true:=x.1;have D:=E7 q m
 cases hh:Xh env k z n d a (YU env args) with
 | unk=>exact absurd hh D
 | bad a1 e1=>rw[hh]at g;cases g
 | ok p1 f1 =>
  rw[hh]at g ht;simp only[Z2 A]at ht;injection ht with h4 h5
  subst h4;subst h5;intro kd j;rcases ZR.1 j with rfl|j
  ·exact⟨q,m,hh⟩
  exact Zdu y J v.2 x.2 g w 1 kd j
theorem Ex:∀(l:PL)(w:ByteArray)(i:Nat),∀kd∈XI l w i,kd∈YY l w i:=by
 intro l
 induction l with
 | nil=>intro w i kd h;cases h
 | cons k nm n d args a tl ih1 ih2 =>
  intro w i kd h;rw[YY];rcases ZR.1 h with rfl|h
  ·simp
  simp[ih2 w (i+1) kd h]
theorem ZcO:∀(l:PL)(w:ByteArray)(i:Nat),∀s∈YY l w i,∀t∈YY s.1.args s.2 0,t∈YY l w i:=by
 intro l
 induction l with
 | nil=>intro w i s h;cases h
 | cons k nm n d args a tl ih1 ih2 =>
  intro w i s h t ht;rw[YY]at h ⊢;rcases ZR.1 h with rfl|h
  ·exact List.mem_cons_of_mem _ (List.mem_append_left _ ht)
  rcases List.mem_append.1 h with h|h
  ·exact List.mem_cons_of_mem _ (List.mem_append_left _ (ih1 _ _ s h t ht))
  exact List.mem_cons_of_mem _ (List.mem_append_right _ (ih2 _ _ s h t ht))
theorem jS{e:PE}{w:ByteArray}:∀s∈YX e w,∀kd∈XI s.1.args s.2 0,kd∈YX e w:=by
 intro s g kd f;unfold YX at g ⊢;rcases ZR.1 g with rfl|g
 ·exact List.mem_cons_of_mem _ (Ex _ _ _ kd f)
 exact List.mem_cons_of_mem _ (ZcO _ _ _ s g kd (Ex _ _ _ kd f))
theorem VN:∀(l:List FL)(i:Nat),∀s∈XF l i,∀kd∈XI s.1.args s.2 0,kd∈XF l i
 | [],_,s,h=>by cases h
 | f::l,i,s,h=>fun kd hkd=>by
  rw[XF]at h ⊢;rcases List.mem_append.1 h with h|h
  ·exact List.mem_append_left _ (jS s h kd hkd)
  exact List.mem_append_right _ (VN l (i+1) s h kd hkd)
theorem VM:∀(l:List FL)(i j:Nat)(h:j<l.length),(l[j].e,dg (i+j))∈XF l i
 | [],_,j,h=>by simp at h
 | f::l,i,j,h=>by
  rw[XF]
  cases j with
  | zero=>exact List.mem_append_left _ (by unfold YX;simp)
  | succ j =>
   refine List.mem_append_right _ ?_;have:=VM l (i+1) j (by simpa using h);rw[show i+1+j=i+(j+1) by omega]at this;simpa using this
theorem ZbR{e c:PE}{w:ByteArray}(h:e.args.at 0=some c):(c,w++⟨#[47]⟩++dg 0)∈XI e.args w 0:=by
 have:=Ew e.args w 0 0 c h;exact Ya this
theorem uH{env:Env}:∀(l:PL)(w:ByteArray)(i:Nat),exR l=true→kL env l=true→(Xu l).all (okE env)=true→∀s∈YY l w i,YE s.1=true∧kE env s.1=true∧okE env s.1=true:=by
 intro l
 induction l with
 | nil=>intro w i _ _ _ s h;cases h
 | cons k nm n d args a tl ih1 ih2 =>
  intro w i q m j s h;rw[exR,ZB]at q;rw[kL,ZB]at m;have g:YE ⟨k,nm,n,d,args,a⟩=true:=q.1;have f:kE env ⟨k,nm,n,d,args,a⟩=true:=m.1;simp only[Xu,List.all_cons,List.all_append,ZB]at j;rw[YY]at h;rcases ZR.1 h with rfl|h
  ·exact⟨g,f,j.1⟩
  rcases List.mem_append.1 h with h|h
  ·exact ih1 _ _ (Xj g).1 (Vk f).2 j.2.1 s h
  exact ih2 _ _ q.2 m.2 j.2.2 s h
theorem Vo{env:Env}:∀(l:List FL)(i:Nat),(∀f∈l,YE f.e=true∧kE env f.e=true)→X0 env l=true→∀s∈XF l i,YE s.1=true∧kE env s.1=true∧okE env s.1=true
 | [],_,_,_,s,h=>by cases h
 | f::l,i,hx,ho,s,h=>by
  unfold X0 at ho;simp only[XU,List.all_cons,List.all_append,ZB]at ho;obtain⟨h1,h2⟩:=hx f (by simp);rw[XF]at h;rcases List.mem_append.1 h with h|h
  ·unfold YX at h;rcases ZR.1 h with rfl|h
   ·exact⟨h1,h2,ho.1⟩
   exact uH _ _ _ (Xj h1).1 (Vk h2).2 ho.2.1 s h
  exact Vo l (i+1) (fun f hf=>hx f (by simp[hf])) (by unfold X0;exact ho.2.2) s h
theorem UN:∀(l:List (Int×Int×Int))(p f p1 f1:Int)(o:Int×Int×Int)(p2 f2:Int),clock.YO p f l=(p1,f1,0)→clock.YB p1 f1 o.1 o.2.1 o.2.2=(p2,f2,0)→clock.YO p f (l++[o])=(p2,f2,0)
 | [],p,f,p1,f1,o,p2,f2,h1,h2=>by
  rw[clock.YO]at h1;injection h1 with h3 h4
  injection h4 with h4 _
  subst h3;subst h4;rw[ZM,clock.YO];simp only[h2,if_true,clock.YO]
 | x::l,p,f,p1,f1,o,p2,f2,h1,h2=>by
  rw[clock.YO]at h1;rw[ZC,clock.YO];by_cases h0:(clock.YB p f x.1 x.2.1 x.2.2).2.2=0
  ·rw[Z2 h0]at h1 ⊢;exact UN l _ _ p1 f1 o p2 f2 h1 h2
  rw[Z1 h0]at h1;injection h1 with _ h3
  injection h3 with _ h3
  exact absurd h3 h0
structure Zda (p:PG) (env:Env) (xIx fIx iIx:IE) (f:FD):Prop where
 ck:UI p env
 ok:∀g∈p.flows,YE g.e=true∧kE env g.e=true
 fl:∀nm j,fIx nm=some j→∃h:j<p.flows.length,p.flows[j].nm=nm
 inn:∀nm c,fIx nm=none→env nm=some c→∃i,iIx nm=some i∧f.ins[i]?=some c
 il:f.ins.length=p.ins.length
 xx:∀s∈XF p.flows 0,s.1.k=2→∃j t,xIx s.2=some j∧f.tasks[j]?=some t∧(t.per,t.ph)=UY (XB env) s.1
theorem Zdk{p:PG}{env:Env}{xIx z iIx:IE}{f:FD}(h:Zda p env xIx z iIx f):∀(N:Nat)(e:PE)(m:ByteArray)(ops:List Op3)(r:Nat×List Op3)(E D:Int),(e,m)∈XF p.flows 0→Y1 env e=.ok E D →
  XL p.flows p.ins.length xIx z iIx N e m ops=some r→r.2.length≤20→∃(L:List Op3)(s:Int×Int),r.2=ops++L∧XR f (r.1:Int)=some s∧clock.YF s.1 s.2=true∧clock.YO s.1 s.2 L.reverse=(E,D,0):=by
 intro N
 induction N with
 | zero=>intro e m ops r E D _ _ g;rw[XL]at g;cases g
 | succ N ih =>
  intro e m ops r E D U ht g M;obtain⟨O,J,X⟩:=Vo p.flows 0 h.ok h.ck.calls (e,m) U;simp only at O J X;rw[XL]at g;by_cases F:20<ops.length
  ·rw[Z2 F]at g;injection g with g
   rw[←g]at M;simp only at M;omega
  rw[Z1 F]at g;by_cases I:e.k=2
  ·rw[Z2 I]at g;injection g with g
   subst g;obtain⟨j,t,x,G,q⟩:=h.xx (e,m) U I;simp only at x q ⊢;obtain⟨A,C⟩:=ZA.1 G;refine⟨[],(t.per,t.ph),by simp,?_,?_,?_⟩
   ·rw[x];have:=Kf (f:=f) A;rw[h.il,C]at this;simpa using this
   ·rw[K4 O J ht]at q;injection q with v y
    simp only[v,y];exact VQ h.ck.rt ht
   rw[K4 O J ht]at q;injection q with v y
   simp only[v,y];rfl
  rw[Z1 I]at g;by_cases H:e.k=1
  ·rw[Z1 (by simpa using H)]at g;unfold Y1 Xh at ht;rw[Z2 H]at ht
   cases he:env e.nm with
   | none=>rw[he]at ht;cases ht
   | some c =>
    rw[he]at ht;injection ht with x G
    cases hf:z e.nm with
    | none =>
     rw[hf]at g;injection g with g
     subst g;obtain⟨i,q,A⟩:=h.inn e.nm c hf he;obtain⟨C,v⟩:=ZA.1 A;refine⟨[],c,by simp,?_,h.ck.rt _ _ he,?_⟩
     ·rw[q];have:=ZcR (f:=f) C;rw[v]at this;simpa using this
     rw[←x,←G];rfl
    | some j =>
     rw[hf]at g;simp only at g;obtain⟨q,A⟩:=h.fl _ _ hf;rw[Ze q]at g;simp only at g;obtain⟨V,Y,C,v⟩:=h.ck.flows _ (Zi q);rw[A,he]at v;injection v with v
     have y:=VM p.flows 0 j q;rw[ZD]at y;refine ih _ _ ops r E D y ?_ g M;rw[C,←x,←G,v]
  rw[Z2 H]at g;obtain⟨c,x,G,q,V,f1,A,C⟩:=qS O J H I ht;rw[x]at g;simp only at g;obtain⟨L,s,v,y,R,T⟩:=ih c _ _ r V f1 (VN p.flows 0 (e,m) U _ (ZbR x)) A g M;refine⟨(e.k,e.n,e.d)::L,s,by rw[v];simp,y,R,?_⟩;rw[List.reverse_cons];exact UN _ _ _ _ _ _ _ _ T C
theorem Za6{p:PG}{env:Env}{xIx j iIx:IE}{f:FD}(h:Zda p env xIx j iIx f){e:PE}{g:ByteArray}(D:Xe p.flows p.ins.length xIx j iIx e)(F:(e,g)∈XF p.flows 0){q m:Int}(ht:Y1 env e=.ok q m)(x:Kz p xIx j iIx e g=true):
  ∃s,XR f ((JQ p xIx j iIx e g).1:Int)=some s∧(JQ p xIx j iIx e g).2.reverse.length≤20∧clock.Ur s.1 s.2 (JQ p xIx j iIx e g).2.reverse=(q,m,0):=by
 obtain⟨N,E⟩:=JY D g;unfold Kz at x;have y:=Yj x;obtain⟨L,s,v,z,A,C⟩:=Zdk h N e g [] _ q m F ht E y;rw[ZM]at v;refine⟨s,z,by rw[List.length_reverse];exact y,?_⟩;unfold clock.Ur;rw[Z2 A,v];exact C
theorem ZbT{l:PL}{w:ByteArray}{i:Nat}(h:l.len=0):XI l w i=[]:=by
 cases l with
 | nil=>rfl
 | cons k nm n d args a tl=>simp only[PL.len]at h;omega
theorem qA{env:Env}(A:RtE env){e:PE}(q:YE e=true)(y:kE env e=true)(D:okE env e=true){p f:Int}(ht:Y1 env e=.ok p f)(w:ByteArray):∀kd∈XI e.args w 0,∃p f,Y1 env kd.1=.ok p f:=by
 intro kd g;by_cases v:e.k=1
 ·obtain⟨_,j⟩:=Xj q;unfold exE at j;rw[Z2 v]at j;simp only[ZB,Yk]at j;rw[ZbT j.1.1.2]at g
  cases g
 by_cases x:e.k=2
 ·exact⟨p,f,(zD A q y x D ht w kd g).2.2⟩
 obtain⟨c,m,G,H,E,f1,z,_⟩:=qS q y v x ht;obtain⟨F,j⟩:=Xj q;obtain⟨k,I,n,d,args,a,C⟩:=Gw ((VB j v).2 x);rw[C]at m g;injection m with m
 rw[XI]at g;rcases ZR.1 g with rfl|g
 ·exact⟨E,f1,by rw[m];exact z⟩
 cases g
theorem jT{env:Env}(y:RtE env):∀(l:PL)(w:ByteArray)(i:Nat),exR l=true→kL env l=true→(Xu l).all (okE env)=true→(∀kd∈XI l w i,∃p f,Y1 env kd.1=.ok p f)→∀s∈YY l w i,∃p f,Y1 env s.1=.ok p f:=by
 intro l
 induction l with
 | nil=>intro w i _ _ _ _ s h;cases h
 | cons k nm n d args a tl ih1 ih2 =>
  intro w i x v q g s h;rw[exR,ZB]at x;rw[kL,ZB]at v;have m:YE ⟨k,nm,n,d,args,a⟩=true:=x.1;have j:kE env ⟨k,nm,n,d,args,a⟩=true:=v.1;simp only[Xu,List.all_cons,List.all_append,ZB]at q;rw[XI]at g;obtain⟨p,f,ht⟩:=g _ (List.mem_cons_self ..);rw[YY]at h;rcases ZR.1 h with rfl|h
  ·exact⟨p,f,ht⟩
  rcases List.mem_append.1 h with h|h
  ·exact ih1 _ _ (Xj m).1 (Vk j).2 q.2.1 (qA y m j q.1 ht _) s h
  exact ih2 _ _ x.2 v.2 q.2.2 (fun kd h9=>g kd (List.mem_cons_of_mem _ h9)) s h
theorem Gl{env:Env}(hR:RtE env):∀(l:List FL)(i:Nat),(∀f∈l,YE f.e=true∧kE env f.e=true)→X0 env l=true→(∀f∈l,FcS env f)→∀s∈XF l i,∃p f,Y1 env s.1=.ok p f
 | [],_,_,_,_,s,h=>by cases h
 | f::l,i,hx,ho,hF,s,h=>by
  unfold X0 at ho;simp only[XU,List.all_cons,List.all_append,ZB]at ho;obtain⟨h1,h2⟩:=hx f (by simp);obtain⟨p,q,ht,_⟩:=hF f (by simp);rw[XF]at h;rcases List.mem_append.1 h with h|h
  ·unfold YX at h;rcases ZR.1 h with rfl|h
   ·exact⟨p,q,ht⟩
   exact jT hR _ _ _ (Xj h1).1 (Vk h2).2 ho.2.1 (qA hR h1 h2 ho.1 ht _) s h
  exact Gl hR l (i+1) (fun g hg=>hx g (by simp[hg])) (by unfold X0;exact ho.2.2) (fun g hg=>hF g (by simp[hg])) s h
theorem zL{p:PG}{xIx fIx iIx:IE}:∀(l:List FL)(i:Nat),Qy p xIx fIx iIx l i=true→∀s∈YM l i,qd p xIx fIx iIx s=true
 | [],_,_,s,h=>by cases h
 | f::l,i,hf,s,h=>by
  rw[Qy,ZB]at hf;unfold e7 at hf;rw[ZB]at hf;rw[YM]at h;rcases List.mem_append.1 h with h|h
  ·exact List.all_eq_true.1 hf.1.2 s h
  exact zL l (i+1) hf.2 s h
theorem qe{p:PG}{xIx fIx iIx:IE}:∀(l:List FL)(i:Nat),Qy p xIx fIx iIx l i=true→∀j (h:j<l.length),Kz p xIx fIx iIx l[j].e (dg (i+j))=true
 | [],_,_,j,h=>by simp at h
 | f::l,i,hf,j,h=>by
  rw[Qy,ZB]at hf;unfold e7 at hf;rw[ZB]at hf
  cases j with
  | zero=>exact hf.1.1
  | succ j =>
   have:=qe l (i+1) hf.2 j (by simpa using h);rw[show i+1+j=i+(j+1) by omega]at this;simpa using this
theorem qh(env':Env):∀(l:List FL)(e:Env)(nm:ByteArray),(VE env' l e nm=some (Jv env' nm)∧∃f∈l,f.nm=nm)∨(VE env' l e nm=e nm∧∀f∈l,f.nm≠nm)
 | [],e,nm=>.inr ⟨rfl,fun f h=>by cases h⟩
 | f::l,e,nm=>by
  rw[VE];rcases qh env' l (upd e f.nm (Jv env' f.nm)) nm with ⟨h1,g,hg,hn⟩|⟨h1,h2⟩
  ·exact .inl ⟨h1,g,by simp[hg],hn⟩
  by_cases h:f.nm=nm
  ·refine .inl ⟨?_,f,by simp,h⟩;rw[h1];unfold upd;rw[Z2 h.symm,h]
  refine .inr ⟨?_,fun g hg=>?_⟩
  ·rw[h1];unfold upd;rw[Z1 (fun h9=>h h9.symm)]
  rcases ZR.1 hg with rfl|hg
  ·exact h
  exact h2 g hg
theorem qs:∀(l:List IN)(e:Env),(l.map (·.nm)).Nodup→∀i (h:i<l.length),J4 l e l[i].nm=some (l[i].per,l[i].ph)
 | [],_,_,i,h=>by simp at h
 | x::l,e,hn,i,h=>by
  rw[List.map_cons,List.nodup_cons]at hn;rw[J4]
  cases i with
  | zero =>
   have:∀(l:List IN)(e:Env)(nm:ByteArray),nm∉l.map (·.nm)→J4 l e nm=e nm:=by
    intro l
    induction l with
    | nil=>intro e nm _;rfl
    | cons y l ih =>
     intro e nm h;rw[List.map_cons,ZR,not_or]at h;rw[J4,ih _ _ h.2];unfold upd;rw[Z1 h.1]
   rw[List.getElem_cons_zero,this _ _ _ hn.1];unfold upd;rw[Z2 rfl]
  | succ i =>
   rw[List.getElem_cons_succ];exact qs l _ hn.2 i (by simpa using h)
theorem ql{j:Env}{g:List FL}{env:Env}(h:GrE j g env):∀nm c,env nm=some c→j nm=some c∨∃f∈g,f.nm=nm:=by
 induction h with
 | base=>intro nm c h;exact .inl h
 | step hg hf hn ht ih =>
  intro nm c h;unfold upd at h;split at h
  ·rename_i h1
   exact .inr ⟨_,hf,h1.symm⟩
  exact ih nm c h
theorem qO{l:List ByteArray}(h:∀i j (hi:i<l.length) (f:j<l.length),l[i]=l[j]→i=j):l.Nodup:=by
 unfold List.Nodup;rw[List.pairwise_iff_getElem];intro i j hi f m g;have:=h i j hi f g;omega
open Go.RowKit Go.Shelf
theorem flat_get{α:Type}{size:Nat}:∀(f:List (List α))(i j:Nat),(∀c∈f,c.length=size)→∀h:i<f.length,j<size→f.flatten[i*size+j]?=f[i][j]?
 | [],i,j,_,h,_=>absurd h (Yl _)
 | c::f,0,j,hl,_,hj=>by
  have h1:c.length=size:=hl c (by simp);rw[List.flatten_cons,Nat.zero_mul,ZD,List.getElem?_append_left oq];rfl
 | c::f,i+1,j,hl,h,hj=>by
  have h1:c.length=size:=hl c (by simp);have e:(i+1)*size+j=c.length+(i*size+j):=by rw[h1,Nat.succ_mul];omega
  rw[List.flatten_cons,e,List.getElem?_append_right oq,Nat.add_sub_cancel_left];rw[flat_get f i j (fun c' hc=>hl c' (by simp[hc])) (by simpa using h) hj];rfl
theorem Xt.row{α β:Type}{Pe:World→List Value→α→Prop}{P:World→Nat→Nat→β→Prop}{e:TypeId}{size:Nat}{w:World}{base:Nat}{v:Value}{l:List α}(F:α→β)(h:Xt Pe e size w base v l)
  (C:∀(g o:Nat)(c:List Value)(x:α),g<w.heap.size→x∈l→c.length=size→Pe w c x→(∀j,j<size→w.cell? ⟨g,o+j,none⟩=c[j]?)→P w g o (F x)):
  ∃ad cap,v=.slice ad l.length cap∧Row P size w (l.map F) ad:=by
 obtain⟨q,E,z,y,A⟩:=h;rcases z.2 with ⟨rfl,h0⟩|⟨g,cap,cur,rfl,hbg,hg,hnc,hcm,hcs,htk⟩
 ·obtain rfl:l=[]:=Yd h0;exact⟨none,0,rfl,.inl rfl⟩
 refine⟨_,_,rfl,?_⟩;by_cases D:l=[]
 ·exact .inl (by rw[D];rfl)
 refine .inr ⟨g,0,rfl,Zb hg,fun i hi=>?_⟩;have f:i<l.length:=by simpa using hi
 have m:i<q.length:=oq;rw[List.getElem_map];refine C g _ q[i] l[i] (Zb hg) (Zi f) (y _ (Zi m)) (A i f m) (fun j hj=>?_);rw[←flat_get q i j y m hj,←htk,Yo (by
  have:(i+1)*size≤l.length*size:=Nat.mul_le_mul_right _ f;rw[Nat.succ_mul]at this;omega),Array.getElem?_toList,ZD]
 exact UT hg _
theorem ye:∀l:List Op3,QB l=(l.map opL).flatten
 | []=>rfl
 | o::l=>by
  rw[List.map_cons,List.flatten_cons,←ye l];rfl
theorem k8{w:World}{base:Nat}{v:Value}{ops:List Op3}(h:w.ownsRow base 156 3 v ops.length (QB ops)):∃ad cap,v=.slice ad ops.length cap∧Row OpR 3 w ops ad:=by
 have f:Xt (fun _ c (x:Op3)=>c=opL x) 156 3 w base v ops:=⟨ops.map opL,by simp,by rw[←ye];exact h,fun c hc=>by obtain⟨x,_,rfl⟩:=Ye.1 hc;rfl,fun i hi hi'=>by rw[List.getElem_map]⟩;have:=f.row (P:=OpR) (fun x=>x) (fun g o c x hg hx hc hPe hcell=>by
  subst hPe;exact⟨hcell 0 oq,hcell 1 oq,hcell 2 oq⟩)
 rwa [List.map_id']at this
theorem Zdw{w:World}{base:Nat}{v:Value}{l:List (Int×Int)}(h:Xt xH 62 2 w base v l):∃ad cap,v=.slice ad l.length cap∧Row Zc8 2 w l ad:=by
 have:=h.row (P:=Zc8) (fun x=>x) (fun g o c x hg hx hc f hcell=>by
  have f:c=[.int .i64 x.1,.int .i64 x.2]:=f;subst f;exact⟨hcell 0 oq,hcell 1 oq⟩)
 rwa [List.map_id']at this
def Zej(a:Nat×List Op3):AD:=⟨(a.1:Int),a.2⟩
def zc(t:TK):TD:=⟨t.node,t.per,t.ph,t.args.map Zej⟩
def Zc0(t:TL):LD:=⟨t.per,t.ph,⟨(t.src:Int),t.ops⟩,t.dl⟩
def ZaN(x:ND):NB:=⟨x.bud,x.ps.length⟩
theorem Zdl{w:World}{base:Nat}{v:Value}{l:List (Nat×List Op3)}(h:Xt (Um base) 69 2 w base v l):∃ad cap,v=.slice ad l.length cap∧Row xG 2 w (l.map Zej) ad :=
 h.row (P:=xG) Zej (fun g o c x hg hx hc hPe hcell=>by
  obtain⟨u,rfl,ho⟩:=hPe;obtain⟨ad2,cap2,rfl,hr⟩:=k8 ho;exact⟨hcell 0 oq,ad2,cap2,hcell 1 oq,hr⟩)
theorem ZcX{w:World}{base:Nat}{v:Value}{l:List TK}(h:Xt (QX base) 65 4 w base v l):∃ad cap,v=.slice ad l.length cap∧Row gS 4 w (l.map zc) ad :=
 h.row (P:=gS) zc (fun g o c x hg hx hc hPe hcell=>by
  obtain⟨u,rfl,ho⟩:=hPe;obtain⟨ad2,cap2,rfl,hr⟩:=Zdl ho;exact⟨hcell 0 oq,hcell 1 oq,hcell 2 oq,ad2,cap2,by rw[show(zc x).args.length=x.args.length by simp[zc]];exact hcell 3 oq,hr⟩)
theorem ZcZ{w:World}{base:Nat}{v:Value}{l:List TL}(h:Xt (Je base) 71 5 w base v l):∃ad cap,v=.slice ad l.length cap∧Row Zdf 5 w (l.map Zc0) ad :=
 h.row (P:=Zdf) Zc0 (fun g o c x hg hx hc hPe hcell=>by
  obtain⟨u,rfl,ho⟩:=hPe;obtain⟨ad2,cap2,rfl,hr⟩:=k8 ho;exact⟨hcell 0 oq,hcell 1 oq,hcell 2 oq,hcell 4 oq,ad2,cap2,hcell 3 oq,hr⟩)
theorem Zcg{w:World}{base:Nat}{v:Value}{l:List ND}(h:Xt UK 90 10 w base v l):∃ad cap,v=.slice ad l.length cap∧Row NdR 10 w (l.map ZaN) ad :=
 h.row (P:=NdR) ZaN (fun g o c x hg hx hc hPe hcell=>by
  obtain⟨pa,pc,ad,cap,rfl,_⟩:=hPe;exact⟨_,_,_,_,_,_,_,_,_,_,_,_,hcell 0 oq,hcell 1 oq,hcell 2 oq,hcell 3 oq,hcell 4 oq,hcell 5 oq,hcell 6 oq,hcell 7 oq,hcell 8 oq,hcell 9 oq⟩)
theorem Ko{flows:List FL}{nI:Nat}{xIx fIx iIx:IE}:∀(N:Nat)(e:PE)(way:ByteArray)(ops:List Op3)(r:Nat×List Op3),ops.length≤21→XL flows nI xIx fIx iIx N e way ops=some r→r.2.length≤21
 | 0,e,way,ops,r,hl,h=>by cases h
 | N+1,e,way,ops,r,hl,h=>by
  unfold XL at h;split at h
  ·cases h;exact hl
  rename_i h20
  split at h
  ·cases h;exact hl
  split at h
  ·split at h
   ·exact Ko N _ _ _ r (by rw[Zx,Zp,Zw];omega) h
   cases h
  split at h
  ·split at h
   ·exact Ko N _ _ _ r hl h
   cases h
  cases h;exact hl
theorem Kq{flows:List FL}{nI:Nat}{xIx fIx iIx:IE}(hx:∀k j,xIx k=some j→j≤1000)(hi:∀k j,iIx k=some j→j≤1000)(hn:nI≤1000):∀(N:Nat)(e:PE)(way:ByteArray)(ops:List Op3)(r:Nat×List Op3),XL flows nI xIx fIx iIx N e way ops=some r→r.1≤2000
 | 0,e,way,ops,r,h=>by cases h
 | N+1,e,way,ops,r,h=>by
  unfold XL at h;split at h
  ·cases h;exact Zk _
  split at h
  ·cases h
   show nI+(xIx way).getD 0≤2000
   cases hq:xIx way with
   | none=>simp;omega
   | some j=>have:=hx _ _ hq;simp;omega
  split at h
  ·split at h
   ·exact Kq hx hi hn N _ _ _ r h
   cases h
  split at h
  ·split at h
   ·exact Kq hx hi hn N _ _ _ r h
   cases h
  cases h
  show(iIx e.nm).getD 0≤2000
  cases hq:iIx e.nm with
  | none=>simp
  | some j=>have:=hi _ _ hq;simp;omega
theorem ZcP:∀(l:PL)(g:ByteArray)(i:Nat),exR l=true→∀s∈YY l g i,YE s.1=true∧s.1.args.sz+1≤l.sz:=by
 intro l
 induction l with
 | nil=>intro g i h s f;simp[YY]at f
 | cons k nm n d args a tl ih1 ih2 =>
  intro g i h s f;have m:=yT (.cons k nm n d args a tl) 0 ⟨k,nm,n,d,args,a⟩ h rfl;have q:exR args=true:=by
   have:=m;unfold YE at this;rw[ZB]at this;exact this.1
  have v:exR tl=true:=by
   rw[exR,ZB]at h;exact h.2
  simp only[YY,ZR,List.mem_append]at f;rw[show(PL.cons k nm n d args a tl).sz=args.sz+1+tl.sz from rfl];rcases f with rfl|f|f
  ·exact⟨m,by show args.sz+1≤_;omega⟩
  ·obtain⟨j,x⟩:=ih1 _ _ q s f;exact⟨j,oq⟩
  obtain⟨j,x⟩:=ih2 _ _ v s f;exact⟨j,oq⟩
theorem ZaG{e:PE}{j:ByteArray}(h:YE e=true):∀s∈YX e j,YE s.1=true∧s.1.args.sz+1≤e.sz:=by
 intro s f;unfold YX at f;rcases ZR.1 f with rfl|f
 ·exact⟨h,Zc _⟩
 have g:=h;unfold YE at g;rw[ZB]at g;obtain⟨m,q⟩:=ZcP _ _ _ g.1 s f;exact⟨m,by unfold PE.sz;omega⟩
theorem zF:∀(l:List FL)(i:Nat),(∀f∈l,f.e.sz≤100∧YE f.e=true)→∀s∈YM l i,YE s.1=true∧s.1.args.sz+1≤100∧s.1.k=2
 | [],i,h,s,hs=>by simp[YM]at hs
 | f::l,i,h,s,hs=>by
  unfold YM at hs;rcases List.mem_append.1 hs with hs|hs
  ·obtain⟨h1,h2⟩:=List.mem_filter.1 hs;obtain⟨h3,h4⟩:=ZaG (h f (by simp)).2 s h1;have:=(h f (by simp)).1;exact⟨h3,oq,by simpa [isC] using h2⟩
  exact zF l (i+1) (fun f' hf=>h f' (by simp[hf])) s hs
theorem ZbS:∀(l:PL)(f:ByteArray)(i:Nat),exR l=true→∀k∈XI l f i,YE k.1=true:=by
 intro l
 induction l with
 | nil=>intro f i h k q;simp[XI]at q
 | cons k nm n d args a tl ih1 ih2 =>
  intro f i h s g;have j:=yT (.cons k nm n d args a tl) 0 ⟨k,nm,n,d,args,a⟩ h rfl;have m:exR tl=true:=by
   rw[exR,ZB]at h;exact h.2
  simp only[XI,ZR]at g;rcases g with rfl|g
  ·exact j
  exact ih2 _ _ m s g
noncomputable def zk(p:PG)(env:Env):FD :=
 ⟨p.ins.map (fun x=>(x.per,x.ph)),p.nodes.map ZaN,(YM p.flows 0).map (fun s=>zc (tkR p (xI p) (fI p) (iI p) (nI p) (Ky p env) s)),p.outs.map (fun o=>Zc0 (tlR p (xI p) (fI p) (iI p) (Ky p env) o))⟩
theorem kG{p:PG}(v:∀e:PE,YE e=true→Xe p.flows p.ins.length (xI p) (fI p) (iI p) e)(q:(YM p.flows 0).length≤30)(g:p.ins.length≤1000){e:PE}(x:YE e=true)(f:ByteArray):
  (JQ p (xI p) (fI p) (iI p) e f).2.length≤21∧(JQ p (xI p) (fI p) (iI p) e f).1≤2000:=by
 obtain⟨N,m⟩:=JY (v e x) f;exact⟨Ko N _ _ _ _ (by simp) m,Kq (yX _ _ _ 1000 (by rw[Zo];omega) (fun k j h=>by cases h)) (yX _ _ _ 1000 (by rw[Zo];omega) (fun k j h=>by cases h)) g N _ _ _ _ m⟩
theorem ZdJ{p:PG}{env:Env}{base:Nat}{w:World}{v:Value}(h:Un p env base w v)(f:JX p)(z:∀e:PE,YE e=true→Xe p.flows p.ins.length (xI p) (fI p) (iI p) e)(g:(YM p.flows 0).length≤30)
  (q:∀o∈p.outs,∃j,fI p o.fl=some j∧j<p.flows.length):
  ∃ai an aT al ci cn ct cl,v=fv (zk p env) ai an aT al ci cn ct cl∧FAP w (zk p env) ai an aT al:=by
 obtain⟨vI,vN,vT,vL,rfl,R,T,U,V⟩:=h;obtain⟨ai,ci,rfl,M⟩:=Zdw R;obtain⟨an,cn,rfl,O⟩:=Zcg T;obtain⟨aT,ct,rfl,C⟩:=ZcX U;obtain⟨al,cl,rfl,D⟩:=ZcZ V;have Z:=f.lens;rw[List.map_map]at C D;refine⟨ai,an,aT,al,ci,cn,ct,cl,by unfold fv zk;simp only[Zo],M,O,C,D,by unfold zk;simp only[Zo];omega,?_,?_⟩
 ·intro t ht;obtain⟨s,J,rfl⟩:=Ye.1 ht;obtain⟨x,X,_⟩:=zF p.flows 0 f.flows s J;have Y:=QR s.1.args;have G:exR s.1.args=true:=by
   unfold YE at x;rw[ZB]at x;exact x.1
  refine⟨by simp[zc,tkR,J6];omega,fun a ha=>?_⟩;simp only[zc,tkR,List.map_map,Ye]at ha;obtain⟨A,y,rfl⟩:=ha;obtain⟨E,F⟩:=kG z g oq (ZbS _ _ _ G A y) A.2;simp only[Function.comp,Zej,List.length_reverse,I64];omega
 intro t ht;obtain⟨o,I,rfl⟩:=Ye.1 ht;obtain⟨j,H,m⟩:=q o I;have L:YE (flE p ((fI p o.fl).getD 0))=true:=by
  rw[H];unfold flE;rw[Z9,Ze m];exact(f.flows _ (Zi m)).2
 obtain⟨E,F⟩:=kG z g oq L (dg ((fI p o.fl).getD 0));simp only[Zc0,tlR,List.length_reverse,I64];omega
theorem zT{p:PG}(g:Qt p):(p.ins.map (·.nm)).Nodup:=qO (fun i j hi hj h=>by
 have hi2:i<p.ins.length:=by simpa using hi
 have f:j<p.ins.length:=by simpa using hj
 have m:=g.ins i hi2;have q:=g.ins j f;simp only[List.getElem_map]at h;rw[h]at m;omega)
theorem qN{p:PG}(g:Qt p):(p.nodes.map (·.nm)).Nodup:=qO (fun i j hi hj h=>by
 have hi2:i<p.nodes.length:=by simpa using hi
 have f:j<p.nodes.length:=by simpa using hj
 have m:=g.nodes i hi2;have q:=g.nodes j f;simp only[List.getElem_map]at h;rw[h]at m;omega)
theorem kP{p:PG}(hN:Qt p){i:Nat}(h:i<p.ins.length):Xc p.ins p.ins[i].nm=some (p.ins[i].per,p.ins[i].ph):=qs p.ins _ (zT hN) i h
theorem zJ{p:PG}{env:Env}(A:Qt p)(z:UI p env)(nm:ByteArray)(h:0≤YS p nm):(env nm).isSome=true:=by
 unfold YS at h
 cases h1:XX IN.nm nm p.ins 0 with
 | some i =>
  obtain⟨j,_,x,v,q⟩:=QP _ _ _ _ _ h1;obtain⟨m,f⟩:=ZA.1 v;have g:=z.ext _ _ (kP A m);rw[f,q]at g;rw[g];rfl
 | none =>
  rw[h1]at h
  cases g:XX FL.nm nm p.flows 0 with
  | some i =>
   obtain⟨j,_,x,v,q⟩:=QP _ _ _ _ _ g;obtain⟨m,f⟩:=ZA.1 v;obtain⟨a,b,_,y⟩:=z.flows _ (Zi m);rw[f,q]at y;rw[y];rfl
  | none=>rw[g]at h;simp at h
theorem Zgz{p:PG}{env:Env}(j:Qt p)(g:UI p env):∀l:PL,nmL p l=true→kL env l=true:=by
 intro l
 induction l with
 | nil=>intro _;rfl
 | cons k nm n d args a tl ih1 ih2 =>
  intro h;rw[nmL,ZB,ZB]at h;rw[kL,ZB,ZB];refine⟨⟨?_,ih1 h.1.2⟩,ih2 h.2⟩;have f:=h.1.1;unfold nm1 at f;rw[Bool.or_eq_true]at f;rcases f with h2|h2
  ·rw[h2];rfl
  rw[zJ j g nm (Yj h2),Bool.or_true]
theorem Ze4{p:PG}{env:Env}(g:Qt p)(m:UI p env){j:Nat}(h:j<p.flows.length):kE env p.flows[j].e=true:=by
 obtain⟨_,q,v⟩:=g.flows j h;unfold kE;rw[ZB];refine⟨?_,Zgz g m _ (un _ v)⟩;have f:=Zch q;unfold nm1 at f;rw[Bool.or_eq_true]at f;rcases f with h4|h4
 ·rw[h4];rfl
 rw[zJ g m _ (Yj h4),Bool.or_true]
theorem Eg{p:PG}{env:Env}(g:UI p env):XB (Ky p env)=XB env:=by
 funext nm;unfold XB Ky;rcases qh env p.flows (Xc p.ins) nm with ⟨h1,f,hf,hn⟩|⟨h1,h2⟩
 ·rw[h1];rfl
 rw[h1]
 cases he:env nm with
 | none =>
  cases h0:Xc p.ins nm with
  | none=>rfl
  | some c=>rw[g.ext _ _ h0]at he;cases he
 | some c =>
  rcases ql g.gr nm c he with h3|⟨f,hf,hn⟩
  ·rw[h3]
  exact absurd hn (h2 f hf)
theorem Zgy{p:PG}{env:Env}(y:Ve p)(v:Qt p)(q:UI p env):Zda p env (xI p) (fI p) (iI p) (zk p env) where
 ck:=q
 ok:=fun g hg=>by
  obtain⟨j,hj,rfl⟩:=Ym hg;exact⟨(y.flows _ hg).2,Ze4 v q hj⟩
 fl:=fun nm j h=>V4 h
 inn:=fun nm c hf he=>by
  rcases ql q.gr nm c he with h3|⟨f,hf2,hn⟩
  ·rcases KH p.ins _ nm (by rw[show J4 p.ins (fun _=>none) nm=some c from h3];simp) with ⟨x,hx,hxn⟩|h4
   ·obtain⟨i,hi,rfl⟩:=Ym hx;have h5:=kP v hi;rw[hxn,h3]at h5;have h6:=V5 (p.ins.map (·.nm)) 0 (fun _=>none) (zT v) i (by simpa using hi);rw[List.getElem_map,hxn,ZD]at h6;refine⟨i,h6,?_⟩;show(p.ins.map (fun x=>(x.per,x.ph)))[i]?=some c;rw[List.getElem?_map,Ze hi];exact h5.symm
   exact absurd rfl h4
  have h1:=KI (p.flows.map (·.nm)) 0 (fun _=>none) nm (Ye.2 ⟨f,hf2,hn⟩);exact absurd hf h1
 il:=by unfold zk;simp
 xx:=fun s hs hk=>by
  have z:s∈YM p.flows 0:=by rw[Jj];exact List.mem_filter.2 ⟨hs,by unfold isC;exact Z0 hk⟩
  obtain⟨j,hj,m⟩:=Ym z;have h6:=V5 ((YM p.flows 0).map Prod.snd) 0 (fun _=>none) (yK p.flows 0) j (by simpa using hj);rw[List.getElem_map,m,ZD]at h6;refine⟨j,zc (tkR p (xI p) (fI p) (iI p) (nI p) (Ky p env) s),h6,?_,?_⟩
  ·show((YM p.flows 0).map (fun s=>zc (tkR p (xI p) (fI p) (iI p) (nI p) (Ky p env) s)))[j]?=_;rw[List.getElem?_map,Ze hj,m];rfl
  simp only[zc,tkR,Eg q]
theorem kR{p:PG}{env:Env}{f:FD}(h:Zda p env (xI p) (fI p) (iI p) f)(z:∀e:PE,YE e=true→Xe p.flows p.ins.length (xI p) (fI p) (iI p) e){e:PE}{g:ByteArray}(v:(e,g)∈XF p.flows 0){m j:Int}(ht:Y1 env e=.ok m j)(A:Kz p (xI p) (fI p) (iI p) e g=true):
  X2 f ⟨((JQ p (xI p) (fI p) (iI p) e g).1:Int),(JQ p (xI p) (fI p) (iI p) e g).2.reverse⟩ m j=true:=by
 have C:=(Vo p.flows 0 h.ok h.ck.calls (e,g) v).1;obtain⟨s,x,q,y⟩:=Za6 h (z e C) v ht A;unfold X2;simp only;rw[x];simp only;rw[y];rw[List.length_reverse]at q;simp[q]
theorem kU{n lo hi:Int}(h:inB n lo hi=true):lo≤n∧n≤hi:=by
 unfold inB at h;simpa using h
theorem ui{p:PG}{env:Env}(L:Ve p)(J:Qt p)(v:UI p env)(aa:(YM p.flows 0).length≤30)(C:Qy p (xI p) (fI p) (iI p) p.flows 0=true):Xp (zk p env)=true:=by
 have hF:=Zgy L J v;have hE:=GD L.ok J v;have hT:=Gl v.rt p.flows 0 hF.ok v.calls v.flows;rw[ZcD]
 ·unfold zk;simpa using aa
 ·refine List.all_eq_true.2 (fun c hc=>?_);obtain⟨x,G,rfl⟩:=Ye.1 hc;exact L.ok.ins x G
 ·refine List.all_eq_true.2 (fun n hn=>?_);obtain⟨x,G,rfl⟩:=Ye.1 hn;exact Z0 (kU (L.nodes x G).2.2.2.1)
 ·refine List.all_eq_true.2 (fun t ht=>?_);obtain⟨s,m,rfl⟩:=Ye.1 ht;have al:=m;rw[Jj]at m;obtain⟨z,hk⟩:=List.mem_filter.1 m;have T:s.1.k=2:=by unfold isC at hk;exact Yj hk
  obtain⟨G,U,ho⟩:=Vo p.flows 0 hF.ok v.calls s z;obtain⟨pp,ff,A⟩:=hT s z;have ac:=K4 G U A;have F:∃i x,nI p s.1.nm=some i∧p.nodes[i]?=some x∧x.ps.length=s.1.args.len:=by
   have q:nd1 p s.1.k s.1.nm s.1.args.len=true:=by
    have key:∀(l:PL)(w:ByteArray)(i:Nat),nqL p l=true→∀s∈YY l w i,nq1 p s.1.k s.1.nm s.1.args.len=true:=by
     intro l
     induction l with
     | nil=>intro w i _ s h;cases h
     | cons k nm n d args a tl ih1 ih2 =>
      intro w i h s m;rw[nqL,ZB,ZB]at h;rw[YY]at m;rcases ZR.1 m with rfl|m
      ·exact h.1.1
      rcases List.mem_append.1 m with m|m
      ·exact ih1 _ _ h.1.2 s m
      exact ih2 _ _ h.2 s m
    have Y:∀(l:List FL)(i:Nat),(∀f∈l,nq1 p f.e.k f.e.nm f.e.args.len=true∧nqL p f.e.args=true)→∀s∈XF l i,nq1 p s.1.k s.1.nm s.1.args.len=true:=by
     intro l
     induction l with
     | nil=>intro i _ s h;cases h
     | cons f l ih =>
      intro i h s m;rw[XF]at m;rcases List.mem_append.1 m with m|m
      ·unfold YX at m;rcases ZR.1 m with rfl|m
       ·exact(h f (by simp)).1
       exact key _ _ _ (h f (by simp)).2 s m
      exact ih (i+1) (fun g hg=>h g (by simp[hg])) s m
    have D:=Y p.flows 0 (fun f hf=>by
     obtain⟨j,I,rfl⟩:=Ym hf;exact(J.flows j I).2) s z
    unfold nq1 at D;rw[ZB]at D;exact D.2
   unfold nd1 at q;rw[T]at q;simp only[ne_eq,not_true_eq_false,decide_false,Bool.false_or]at q
   cases D:XX ND.nm s.1.nm p.nodes 0 with
   | none=>rw[D]at q;cases q
   | some i =>
    rw[D]at q;have Z:=Yj q;obtain⟨j,ap,x,H,ao⟩:=QP _ _ _ _ _ D;obtain rfl:i=j:=oq;rw[H]at Z;injection Z with Z
    obtain⟨I,an⟩:=ZA.1 H;have h6:=V5 (p.nodes.map (·.nm)) 0 (fun _=>none) (qN J) i (by simpa using I);rw[List.getElem_map,an,ao,ZD]at h6;exact⟨i,x,h6,H,Z⟩
  obtain⟨i,x,aj,ak,V⟩:=F;have ab:1≤s.1.args.len:=(VB (Xj G).2 oq).1;unfold JE;simp only[zc,tkR,aj,Z9];rw[Z1 oq,ZQ];have ai:(zk p env).nods[i]?=some (ZaN x):=by
   show(p.nodes.map ZaN)[i]?=_;rw[List.getElem?_map,ak];rfl
  rw[ai];simp only[Zo,J6,ZaN,V,Eg v,ac];simp only[decide_true,Bool.true_and];rw[show decide (s.1.args.len≠0)=true from Z0 oq,Bool.true_and];refine List.all_eq_true.2 (fun a ha=>?_);simp only[List.map_map,Ye]at ha;obtain⟨kd,E,rfl⟩:=ha;have O:=zL p.flows 0 C s al;unfold qd at O;have ag:=List.all_eq_true.1 O kd E;obtain⟨_,_,am⟩:=zD v.rt G U T ho A s.2 kd E;exact kR hF hE (VN p.flows 0 s z kd E) am ag
 refine List.all_eq_true.2 (fun t ht=>?_);obtain⟨o,ho,rfl⟩:=Ye.1 ht;obtain⟨i,hi,rfl⟩:=Ym ho;obtain⟨j,I,y⟩:=vP (J.outs i hi);obtain⟨_,ah⟩:=V4 I;obtain⟨a,b,A,M⟩:=v.flows _ (Zi y);rw[ah]at M;have X:=VM p.flows 0 j y;have R:=qe p.flows 0 C j y;rw[ZD]at X R;unfold K2;rw[ZB];refine⟨Z0 (kU (L.outs _ ho)),?_⟩;have af:flE p j=p.flows[j].e:=by unfold flE;rw[Ze y]
 have ae:XB env p.outs[i].fl=(a,b):=by unfold XB;rw[M];rfl
 simp only[Zc0,tlR,I,Z9,af,Eg v,ae];exact kR hF hE X A R
end Go.Proofs.YtgigilkpndhddaaGreatDoor.syn
