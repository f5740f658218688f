/- Parts of the proof. -/
import Derived.Test.YtdgifkjaflfdeaaGreatDoorX31
set_option linter.all false
set_option maxRecDepth 100000
set_option maxHeartbeats 16000000
namespace Go.Proofs.YtdgifkjaflfdeaaGreatDoor.syn
open Tryz
open Go.RowKit
variable {a b u j i:Nat}{e:PE}{l args:PL}{k n d f m:Int}{nm w g:ByteArray}{env:Env}{p:PG}{xIx iIx:IE}
theorem ZbQ:∀(u:Nat),∀c∈Lib.decDigits u,∃k,k<10/\c=UInt8.ofNat (48+k):=by
 intro u
 induction u using Nat.strongRecOn with
 | _ u ih =>
  intro c f;rw[Lib.decDigits] at f;split at f
  .rename_i h
   exact⟨u,h,List.mem_singleton.1 f⟩
  rename_i h
  rcases List.mem_append.1 f with f|f
  .exact ih (u/10) oq c f
  exact⟨u%10,Nat.mod_lt _ (by decide),List.mem_singleton.1 f⟩
theorem zP(g:a<10)(hb:b<10)(h:UInt8.ofNat (48+a)=UInt8.ofNat (48+b)):a=b:=by
 have f:=Z4 UInt8.toNat h;simp at f;omega
theorem Zfc{c:UInt8}(h:c∈Lib.decDigits u):c≠47:=by
 obtain⟨k,j,rfl⟩:=ZbQ u c h;intro f;have g:=Z4 UInt8.toNat f;simp at g;omega
theorem Zfb(u:Nat):Lib.decDigits u≠[]:=by
 rw[Lib.decDigits];split<;>simp
theorem yQ(h:¬u<10):Lib.decDigits u=Lib.decDigits (u/10)++[UInt8.ofNat (48+u%10)]:=by rw[Lib.decDigits,dif_neg h]
theorem ZfM:∀(u v:Nat),Lib.decDigits u=Lib.decDigits v->u=v:=by
 intro u
 induction u using Nat.strongRecOn with
 | _ u ih =>
  intro v h;by_cases m:u<10
  .by_cases f:v<10
   .rw[Lib.decDigits_one m,Lib.decDigits_one f] at h;injection h with h _
    exact zP m f h
   exfalso;rw[Lib.decDigits_one m,yQ f] at h;have g:=Z4 List.length h;rw[Zy,List.length_singleton,List.length_singleton] at g;have j:=List.length_pos_iff.2 (Zfb (v/10));omega
  by_cases f:v<10
  .exfalso;rw[Lib.decDigits_one f,yQ m] at h;have g:=Z4 List.length h;rw[Zy,List.length_singleton,List.length_singleton] at g;have j:=List.length_pos_iff.2 (Zfb (u/10));omega
  rw[yQ m,yQ f] at h;obtain⟨g,j⟩:=List.append_inj' h rfl;injection j with j _
  have q:=ih (u/10) oq (v/10) g;have x:=zP (Nat.mod_lt _ (by decide)) (Nat.mod_lt _ (by decide)) j;omega
def bl(b:ByteArray):List UInt8:=b.data.toList
theorem ZbH(a b:ByteArray):bl (a++b)=bl a++bl b:=by
 unfold bl;simp
theorem Ek(w:ByteArray)(i:Nat):bl (w++⟨#[47]⟩++dg i)=bl w++47::Lib.decDigits i:=by
 rw[ZbH,ZbH,List.append_assoc];rfl
def Rst(r:List UInt8):Prop:=r=[]\/∃r',r=47::r'
theorem ZcY:∀(l1 l2 r s:List UInt8),(∀c∈l1,c≠47)->(∀c∈l2,c≠47)->Rst r->Rst s->l1++r=l2++s->l1=l2/\r=s
 | [],[],r,s,_,_,_,_,h=>⟨rfl,h⟩
 | [],c::l2,r,s,_,h2,hr,_,h=>by
  exfalso;rcases hr with rfl|⟨r',rfl⟩
  .simp at h
  injection h with h _
  exact h2 c (by simp) h.symm
 | c::l1,[],r,s,h1,_,_,hs,h=>by
  exfalso;rcases hs with rfl|⟨r',rfl⟩
  .simp at h
  injection h with h _
  exact h1 c (by simp) h
 | c::l1,d::l2,r,s,h1,h2,hr,hs,h=>by
  injection h with ha hb
  obtain⟨h3,h4⟩:=ZcY l1 l2 r s (fun x hx=>h1 x (by simp[hx])) (fun x hx=>h2 x (by simp[hx])) hr hs hb;exact⟨by rw[ha,h3],h4⟩
theorem ES{r s:List UInt8}(j:Rst r)(m:Rst s)(h:Lib.decDigits a++r=Lib.decDigits b++s):a=b/\r=s:=by
 obtain⟨f,g⟩:=ZcY _ _ r s (fun c hc=>Zfc hc) (fun c hc=>Zfc hc) j m h;exact⟨ZfM _ _ f,g⟩
theorem Vq:∀(l:PL)(w:ByteArray)(i:Nat),∀s∈YW l w i,∃a rest,i<=a/\Rst rest/\bl s.2=bl w++47::(Lib.decDigits a++rest):=by
 intro l
 induction l with
 | nil=>intro w i s h;cases h
 | cons k nm n d args a tl ih1 ih2 =>
  intro w i s h;simp only[YW,ZS,List.mem_append] at h;rcases h with rfl|h|h
  .exact⟨i,[],Zc _,.inl rfl,by rw[Ek,List.append_nil]⟩
  .obtain⟨b,rest,_,_,hb⟩:=ih1 _ _ s h;exact⟨i,47::(Lib.decDigits b++rest),Zc _,.inr ⟨_,rfl⟩,by rw[hb,Ek];simp⟩
  obtain⟨b,rest,j,f,g⟩:=ih2 _ _ s h;exact⟨b,rest,oq,f,g⟩
theorem xE:∀(l:PL)(w:ByteArray)(i:Nat),((YW l w i).map (·.2)).Nodup:=by
 intro l
 induction l with
 | nil=>intro w i;simp[YW]
 | cons k nm n d args a tl ih1 ih2 =>
  intro w i;simp only[YW,List.map_cons,ZV];rw[List.nodup_cons,List.nodup_append];have A:∀x∈(YW args (w++⟨#[47]⟩++dg i) 0).map (·.2),∃b rest,Rst rest/\bl x=bl w++47::(Lib.decDigits i++47::(Lib.decDigits b++rest)):=by
   intro x m;obtain⟨s,v,rfl⟩:=Yf.1 m;obtain⟨b,rest,_,j,f⟩:=Vq _ _ _ s v;exact⟨b,rest,j,by rw[f,Ek];simp⟩
  have C:∀x∈(YW tl w (i+1)).map (·.2),∃b rest,i+1<=b/\Rst rest/\bl x=bl w++47::(Lib.decDigits b++rest):=by
   intro x m;obtain⟨s,v,rfl⟩:=Yf.1 m;exact Vq _ _ _ s v
  refine⟨fun h=>?_,ih1 _ _,ih2 _ _,fun x m y hy h=>?_⟩
  .rcases List.mem_append.1 h with h|h
   .obtain⟨b,rest,_,f⟩:=A _ h;rw[Ek] at f;have g:=Z4 List.length f;simp at g
   obtain⟨b,rest,D,j,f⟩:=C _ h;rw[Ek] at f;have g:=List.append_cancel_left f;injection g with _ g
   have q:=ES (.inl rfl) j (by rw[List.append_nil];exact g);omega
  subst h;obtain⟨b,rest,_,f⟩:=A _ m;obtain⟨c,z,D,j,g⟩:=C _ hy;rw[f] at g;have q:=List.append_cancel_left g;injection q with _ q
  have E:=ES (.inr ⟨_,rfl⟩) j q;omega
def Xx:List FL->Nat->List (PE × ByteArray)
 | [],_=>[]
 | f::l,i=>YV f.e (dg i)++Xx l (i+1)
theorem Jg:∀(l:List FL)(i:Nat),YN l i=(Xx l i).filter isC
 | [],_=>rfl
 | f::l,i=>by rw[YN,Xx,List.filter_append,Jg l (i+1)]
theorem E8:∀s∈YV e (dg j),∃rest,Rst rest/\bl s.2=Lib.decDigits j++rest:=by
 intro s f;unfold YV at f;rcases ZS.1 f with rfl|f
 .exact⟨[],.inl rfl,by rw[List.append_nil];rfl⟩
 obtain⟨a,rest,_,_,h⟩:=Vq _ _ _ s f;exact⟨_,.inr ⟨_,rfl⟩,h⟩
theorem xD(e:PE)(j:Nat):((YV e (dg j)).map (·.2)).Nodup:=by
 unfold YV;rw[List.map_cons,List.nodup_cons];refine⟨fun h=>?_,xE _ _ _⟩;obtain⟨s,m,h⟩:=Yf.1 h;obtain⟨a,rest,_,_,g⟩:=Vq _ _ _ s m;have f:=Z4 (fun b=>(bl b).length) h;simp only[g] at f;simp at f
theorem E9:∀(l:List FL)(i:Nat),∀s∈Xx l i,∃a rest,i<=a/\Rst rest/\bl s.2=Lib.decDigits a++rest
 | [],_,s,h=>by cases h
 | f::l,i,s,h=>by
  rcases List.mem_append.1 h with h|h
  .obtain⟨rest,h1,h2⟩:=E8 s h;exact⟨i,rest,Zc _,h1,h2⟩
  obtain⟨a,rest,h1,h2,h3⟩:=E9 l (i+1) s h;exact⟨a,rest,oq,h2,h3⟩
theorem Kd:∀(l:List FL)(i:Nat),((Xx l i).map (·.2)).Nodup
 | [],_=>by simp[Xx]
 | f::l,i=>by
  rw[Xx,ZV,List.nodup_append];refine⟨xD _ _,Kd l (i+1),fun x hx y hy h=>?_⟩;subst h;obtain⟨s,hs,hsx⟩:=Yf.1 hx;obtain⟨t,ht,htx⟩:=Yf.1 hy;obtain⟨rest,h1,h2⟩:=E8 s hs;obtain⟨a,rest2,h3,h4,h5⟩:=E9 l (i+1) t ht;have h6:bl s.2=bl t.2:=by rw[show s.2=t.2 from hsx.trans htx.symm]
  rw[h2,h5] at h6;have:=ES h1 h4 h6;omega
theorem yM(l:List FL)(i:Nat):((YN l i).map (·.2)).Nodup:=by
 rw[Jg];exact((List.filter_sublist).map _).nodup (Kd l i)
theorem V2:∀(l:List ByteArray)(i:Nat)(e:IE),l.Nodup->∀j (h:j<l.length),inI l i e l[j]=some (i+j)
 | [],_,_,_,j,h=>by simp at h
 | k::l,i,e,hn,j,h=>by
  obtain⟨h1,h2⟩:=List.nodup_cons.1 hn;rw[inI]
  cases j with
  | zero =>
   have:∀(l:List ByteArray)(i:Nat)(e:IE)(k:ByteArray),k∉l->inI l i e k=e k:=by
    intro l
    induction l with
    | nil=>intro i e k _;rfl
    | cons a l ih =>
     intro i e k f;rw[inI,ih _ _ _ (fun h=>f (by simp[h]))];unfold VV;rw[Z2 (fun h=>f (by simp[h]))]
   rw[List.getElem_cons_zero,this _ _ _ _ h1];unfold VV;rw[Z3 rfl];rfl
  | succ j =>
   rw[Zt,V2 l (i+1) _ h2 j (by simpa using h)];congr 1;omega
def kL(env:Env):PL->Bool
 | .nil=>true
 | .cons k nm n d args a tl=>((decide (k≠1)||(env nm).isSome)&&kL env args)&&kL env tl
def kE(env:Env)(e:PE):Bool:=(decide (e.k≠1)||(env e.nm).isSome)&&kL env e.args
theorem Zga(h:1<=l.len):∃k nm n d args a tl,l=.cons k nm n d args a tl:=by
 cases l with
 | nil=>simp[PL.len] at h
 | cons k nm n d args a tl=>exact⟨k,nm,n,d,args,a,tl,rfl⟩
theorem VA{len:Nat}(h:exE k n d nm len=true)(j:k≠1):1<=len/\(k≠2->len=1):=by
 unfold exE at h;rw[Z2 j] at h;by_cases g:k=2
 .rw[Z3 g] at h;simp only[ZC,Yl] at h;exact⟨h.1.1.1.2,fun f=>absurd g f⟩
 rw[Z2 g] at h;by_cases f:len=1
 .exact⟨oq,fun _=>f⟩
 rw[Z3 (.inl f)] at h
 cases h
theorem Kx{n d a:Int}(v:exE k n d nm args.len=true)(m:(decide (k≠1)||(env nm).isSome)=true)(x:args≠.nil->YU env args≠.unk):Xg env k nm n d a (YU env args)≠.unk:=by
 unfold Xg;by_cases g:k=1
 .rw[Z3 g]
  cases he:env nm with
  | none=>subst g;rw[he] at m;simp at m
  | some c=>simp
 rw[Z2 g];obtain⟨j,_⟩:=VA v g;have q:=x (by intro h;rw[h] at j;simp[PL.len] at j)
 cases ht:YU env args with
 | unk=>exact absurd ht q
 | bad a e=>simp
 | ok p f=>simp only;split<;>(try split)<;>simp
theorem zi:∀l:PL,exR l=true->kL env l=true->l≠.nil->YU env l≠.unk:=by
 intro l
 induction l with
 | nil=>intro _ _ h;exact absurd rfl h
 | cons k nm n d args a tl ih1 ih2 =>
  intro j g _;rw[exR,ZC,ZC] at j;rw[kL,ZC,ZC] at g;have m:=Kx (a:=a) j.1.2 g.1.1 (fun h=>ih1 j.1.1 g.1.2 h);rw[YU]
  cases ht:Xg env k nm n d a (YU env args) with
  | unk=>exact absurd ht m
  | ok p f=>simp
  | bad a e=>simp
theorem qA{n d a:Int}{p f:Int}(m:∀p f,YU env args=.ok p f->vO (Xt env) args=(p,f))(ht:Xg env k nm n d a (YU env args)=.ok p f):e9 (Xt env) k nm n d (vO (Xt env) args)=(p,f):=by
 unfold Xg at ht;unfold e9;by_cases j:k=1
 .rw[Z3 j] at ht ⊢;unfold Xt
  cases he:env nm with
  | none=>rw[he] at ht;cases ht
  | some c=>rw[he] at ht;injection ht with h1 g;rw[<-h1,<-g];rfl
 rw[Z2 j] at ht ⊢
 cases hs:YU env args with
 | unk=>rw[hs] at ht;cases ht
 | bad a e=>rw[hs] at ht;cases ht
 | ok p1 f1 =>
  rw[hs] at ht;rw[m p1 f1 hs];simp only at ht ⊢;by_cases g:k=2
  .rw[Z3 g] at ht ⊢;injection ht with h3 h4
   rw[h3,h4]
  rw[Z2 g] at ht ⊢;split at ht
  .injection ht with h3 h4
   rw[h3,h4]
  cases ht
theorem Zba:∀l:PL,exR l=true->kL env l=true->∀p f,YU env l=.ok p f->vO (Xt env) l=(p,f):=by
 intro l
 induction l with
 | nil=>intro _ _ p f h;cases h
 | cons k nm n d args a tl ih1 ih2 =>
  intro j g p f ht;rw[exR,ZC,ZC] at j;rw[kL,ZC,ZC] at g;have m:=Kx (a:=a) j.1.2 g.1.1 (fun h=>zi args j.1.1 g.1.2 h);rw[YU] at ht;rw[vO];refine qA (ih1 j.1.1 g.1.2) (a:=a) ?_
  cases hh:Xg env k nm n d a (YU env args) with
  | unk=>exact absurd hh m
  | ok p1 f1=>rw[hh] at ht;exact ht
  | bad a1 e1=>rw[hh] at ht;cases ht
theorem Xh(h:YF e=true):exR e.args=true/\exE e.k e.n e.d e.nm e.args.len=true:=by
 unfold YF at h
 rwa [ZC] at h
theorem Vj(h:kE env e=true):(decide (e.k≠1)||(env e.nm).isSome)=true/\kL env e.args=true:=by
 unfold kE at h
 rwa [ZC] at h
theorem K2(hx:YF e=true)(hk:kE env e=true){p f:Int}(ht:YY env e=.ok p f):UV (Xt env) e=(p,f) :=
 qA (Zba e.args (Xh hx).1 (Vj hk).2) ht
theorem zh(hx:YF e=true)(hk:kE env e=true):YY env e≠.unk :=
 Kx (Xh hx).2 (Vj hk).1 (fun h=>zi e.args (Xh hx).1 (Vj hk).2 h)
theorem jA(D:YF e=true)(C:kE env e=true)(x:e.k≠1)(y:e.k≠2){p f:Int}(ht:YY env e=.ok p f) :
  ∃c,e.args.at 0=some c/\YF c=true/\kE env c=true/\∃p1 f1,YY env c=.ok p1 f1/\clock.YD p1 f1 e.k e.n e.d=(p,f,0):=by
 obtain⟨j,z⟩:=Xh D;obtain⟨E,A⟩:=VA z x;obtain⟨k,g,n,d,args,a,q⟩:=GA (A y);obtain⟨_,m⟩:=Vj C;rw[q] at j m;rw[exR,ZC,ZC] at j;rw[kL,ZC,ZC] at m;refine⟨⟨k,g,n,d,args,a⟩,by rw[q];rfl,by unfold YF;rw[ZC];exact j.1,by unfold kE;rw[ZC];exact m.1,?_⟩;unfold YY Xg at ht;rw[Z2 x,q] at ht;have v:YU env (.cons k g n d args a .nil)=YY env ⟨k,g,n,d,args,a⟩:=by
  rw[YU];show(match YY env ⟨k,g,n,d,args,a⟩ with|.unk=>YU env .nil|.ok p f=>.ok p f|.bad a e=>.bad a e)=_
  cases YY env ⟨k,g,n,d,args,a⟩<;>rfl
 rw[v] at ht
 cases hs:YY env ⟨k,g,n,d,args,a⟩ with
 | unk=>rw[hs] at ht;cases ht
 | bad a e=>rw[hs] at ht;cases ht
 | ok p1 f1 =>
  rw[hs] at ht;simp only at ht;rw[Z2 y] at ht;refine⟨p1,f1,rfl,?_⟩;split at ht
  .rename_i h0
   injection ht with h5 h6
   rw[<-h5,<-h6,<-h0]
  cases ht
theorem Zd9{p f:Int}(A:(p,f)≠(0,0)):∀l:PL,exR l=true->kL env l=true->ckL env (p,f) l=true->∀(w:ByteArray)(i:Nat),∀kd∈XC l w i,YF kd.1=true/\kE env kd.1=true/\YY env kd.1=.ok p f:=by
 intro l
 induction l with
 | nil=>intro _ _ _ w i kd h;cases h
 | cons k nm n d args a tl ih1 ih2 =>
  intro v q g w i kd h;rw[exR,ZC] at v;rw[kL,ZC] at q;rw[ckL] at g;have m:YF ⟨k,nm,n,d,args,a⟩=true:=v.1;have j:kE env ⟨k,nm,n,d,args,a⟩=true:=q.1;have ht:YY env ⟨k,nm,n,d,args,a⟩=.ok p f/\ckL env (p,f) tl=true:=by
   have x:=zh m j;show Xg env k nm n d a (YU env args)=.ok p f/\_
   cases hh:Xg env k nm n d a (YU env args) with
   | unk=>exact absurd hh x
   | bad a1 e1=>rw[hh] at g;cases g
   | ok p1 f1 =>
    rw[hh] at g;simp only[ZC,Yl] at g;obtain⟨y,z⟩:=g;injection y with h4 h5
    exact⟨by rw[h4,h5],z⟩
  rcases ZS.1 h with rfl|h
  .exact⟨m,j,ht.1⟩
  exact ih2 v.2 q.2 ht.2 w (i+1) kd h
theorem Zc9{p f:Int}(h:clock.YG p f=true):(p,f)≠(0,0):=by
 intro g;injection g with h3 h4
 unfold clock.YG at h;simp only[Yl] at h;omega
theorem zL(F:RtE env)(I:YF e=true)(H:kE env e=true)(A:e.k=2)(g:okE env e=true){p f:Int}(ht:YY env e=.ok p f)(w:ByteArray) :
  ∀kd∈XC e.args w 0,YF kd.1=true/\kE env kd.1=true/\YY env kd.1=.ok p f:=by
 obtain⟨v,C⟩:=Xh I;obtain⟨_,x⟩:=Vj H;obtain⟨E,_⟩:=VA C oq;obtain⟨k,z,n,d,args,a,J,G⟩:=Zga E;unfold okE at g;rw[A] at g;simp only[ne_eq,not_true_eq_false,decide_false,Bool.false_or] at g;have y:=Zc9 (VU F ht);unfold YY Xg at ht;rw[Z2 oq] at ht;rw[G] at v x g ht ⊢;rw[YU] at ht;rw[ckA] at g;rw[exR,ZC] at v;rw[kL,ZC] at x;have q:YF ⟨k,z,n,d,args,a⟩=true:=v.1;have m:kE env ⟨k,z,n,d,args,a⟩=true:=x.1;have D:=zh q m
 cases hh:Xg env k z n d a (YU env args) with
 | unk=>exact absurd hh D
 | bad a1 e1=>rw[hh] at g;cases g
 | ok p1 f1 =>
  rw[hh] at g ht;simp only[Z3 A] at ht;injection ht with h4 h5
  subst h4;subst h5;intro kd j;rcases ZS.1 j with rfl|j
  .exact⟨q,m,hh⟩
  exact Zd9 y J v.2 x.2 g w 1 kd j
theorem EG:∀(l:PL)(w:ByteArray)(i:Nat),∀kd∈XC l w i,kd∈YW l w i:=by
 intro l
 induction l with
 | nil=>intro w i kd h;cases h
 | cons k nm n d args a tl ih1 ih2 =>
  intro w i kd h;rw[YW];rcases ZS.1 h with rfl|h
  .simp
  simp[ih2 w (i+1) kd h]
theorem Zdr:∀(l:PL)(w:ByteArray)(i:Nat),∀s∈YW l w i,∀t∈YW s.1.args s.2 0,t∈YW l w i:=by
 intro l
 induction l with
 | nil=>intro w i s h;cases h
 | cons k nm n d args a tl ih1 ih2 =>
  intro w i s h t ht;rw[YW] at h ⊢;rcases ZS.1 h with rfl|h
  .exact List.mem_cons_of_mem _ (List.mem_append_left _ ht)
  rcases List.mem_append.1 h with h|h
  .exact List.mem_cons_of_mem _ (List.mem_append_left _ (ih1 _ _ s h t ht))
  exact List.mem_cons_of_mem _ (List.mem_append_right _ (ih2 _ _ s h t ht))
theorem j6:∀s∈YV e w,∀kd∈XC s.1.args s.2 0,kd∈YV e w:=by
 intro s g kd f;unfold YV at g ⊢;rcases ZS.1 g with rfl|g
 .exact List.mem_cons_of_mem _ (EG _ _ _ kd f)
 exact List.mem_cons_of_mem _ (Zdr _ _ _ s g kd (EG _ _ _ kd f))
theorem VQ:∀(l:List FL)(i:Nat),∀s∈Xx l i,∀kd∈XC s.1.args s.2 0,kd∈Xx l i
 | [],_,s,h=>by cases h
 | f::l,i,s,h=>fun kd hkd=>by
  rw[Xx] at h ⊢;rcases List.mem_append.1 h with h|h
  .exact List.mem_append_left _ (j6 s h kd hkd)
  exact List.mem_append_right _ (VQ l (i+1) s h kd hkd)
theorem VP:∀(l:List FL)(i j:Nat)(h:j<l.length),(l[j].e,dg (i+j))∈Xx l i
 | [],_,j,h=>by simp at h
 | f::l,i,j,h=>by
  rw[Xx]
  cases j with
  | zero=>exact List.mem_append_left _ (by unfold YV;simp)
  | succ j =>
   refine List.mem_append_right _ ?_;have:=VP l (i+1) j (by simpa using h);rw[show i+1+j=i+(j+1) by omega] at this;simpa using this
theorem Zcp{e c:PE}(h:e.args.at 0=some c):(c,w++⟨#[47]⟩++dg 0)∈XC e.args w 0:=by
 have:=EF e.args w 0 0 c h;exact Yb this
theorem uV:∀(l:PL)(w:ByteArray)(i:Nat),exR l=true->kL env l=true->(XU l).all (okE env)=true->∀s∈YW l w i,YF s.1=true/\kE env s.1=true/\okE env s.1=true:=by
 intro l
 induction l with
 | nil=>intro w i _ _ _ s h;cases h
 | cons k nm n d args a tl ih1 ih2 =>
  intro w i q m j s h;rw[exR,ZC] at q;rw[kL,ZC] at m;have g:YF ⟨k,nm,n,d,args,a⟩=true:=q.1;have f:kE env ⟨k,nm,n,d,args,a⟩=true:=m.1;simp only[XU,List.all_cons,List.all_append,ZC] at j;rw[YW] at h;rcases ZS.1 h with rfl|h
  .exact⟨g,f,j.1⟩
  rcases List.mem_append.1 h with h|h
  .exact ih1 _ _ (Xh g).1 (Vj f).2 j.2.1 s h
  exact ih2 _ _ q.2 m.2 j.2.2 s h
theorem Vp{env:Env}:∀(l:List FL)(i:Nat),(∀f∈l,YF f.e=true/\kE env f.e=true)->XY env l=true->∀s∈Xx l i,YF s.1=true/\kE env s.1=true/\okE env s.1=true
 | [],_,_,_,s,h=>by cases h
 | f::l,i,hx,ho,s,h=>by
  unfold XY at ho;simp only[XO,List.all_cons,List.all_append,ZC] at ho;obtain⟨h1,h2⟩:=hx f (by simp);rw[Xx] at h;rcases List.mem_append.1 h with h|h
  .unfold YV at h;rcases ZS.1 h with rfl|h
   .exact⟨h1,h2,ho.1⟩
   exact uV _ _ _ (Xh h1).1 (Vj h2).2 ho.2.1 s h
  exact Vp l (i+1) (fun f hf=>hx f (by simp[hf])) (by unfold XY;exact ho.2.2) s h
theorem UI:∀(l:List (Int × Int × Int))(p f p1 f1:Int)(o:Int × Int × Int)(p2 f2:Int),clock.YL p f l=(p1,f1,0)->clock.YD p1 f1 o.1 o.2.1 o.2.2=(p2,f2,0)->clock.YL p f (l++[o])=(p2,f2,0)
 | [],p,f,p1,f1,o,p2,f2,h1,h2=>by
  rw[clock.YL] at h1;injection h1 with h3 h4
  injection h4 with h4 _
  subst h3;subst h4;rw[ZN,clock.YL];simp only[h2,if_true,clock.YL]
 | x::l,p,f,p1,f1,o,p2,f2,h1,h2=>by
  rw[clock.YL] at h1;rw[ZD,clock.YL];by_cases h0:(clock.YD p f x.1 x.2.1 x.2.2).2.2=0
  .rw[Z3 h0] at h1 ⊢;exact UI l _ _ p1 f1 o p2 f2 h1 h2
  rw[Z2 h0] at h1;injection h1 with _ h3
  injection h3 with _ h3
  exact absurd h3 h0
structure ZdN (p:PG) (env:Env) (xIx fIx iIx:IE) (f:FD):Prop where
 ck:UE p env
 ok:∀g∈p.flows,YF g.e=true/\kE env g.e=true
 fl:∀nm j,fIx nm=some j->∃h:j<p.flows.length,p.flows[j].nm=nm
 inn:∀nm c,fIx nm=none->env nm=some c->∃i,iIx nm=some i/\f.ins[i]?=some c
 il:f.ins.length=p.ins.length
 xx:∀s∈Xx p.flows 0,s.1.k=2->∃j t,xIx s.2=some j/\f.tasks[j]?=some t/\(t.per,t.ph)=UV (Xt env) s.1
theorem ZdZ{xIx A iIx:IE}{f:FD}(h:ZdN p env xIx A iIx f):∀(N:Nat)(e:PE)(m:ByteArray)(q:List Op3)(r:Nat × List Op3)(F E:Int),(e,m)∈Xx p.flows 0->YY env e=.ok F E ->
  XG p.flows p.ins.length xIx A iIx N e m q=some r->r.2.length<=20->∃(L:List Op3)(s:Int × Int),r.2=q++L/\XV f (r.1:Int)=some s/\clock.YG s.1 s.2=true/\clock.YL s.1 s.2 L.reverse=(F,E,0):=by
 intro N
 induction N with
 | zero=>intro e m q r F E _ _ g;rw[XG] at g;cases g
 | succ N ih =>
  intro e m q r F E V ht g O;obtain⟨R,M,Y⟩:=Vp p.flows 0 h.ok h.ck.calls (e,m) V;simp only at R M Y;rw[XG] at g;by_cases G:20<q.length
  .rw[Z3 G] at g;injection g with g
   rw[<-g] at O;simp only at O;omega
  rw[Z2 G] at g;by_cases J:e.k=2
  .rw[Z3 J] at g;injection g with g
   subst g;obtain⟨j,t,y,H,v⟩:=h.xx (e,m) V J;simp only at y v ⊢;obtain⟨C,D⟩:=ZB.1 H;refine⟨[],(t.per,t.ph),by simp,?_,?_,?_⟩
   .rw[y];have:=Ke (f:=f) C;rw[h.il,D] at this;simpa using this
   .rw[K2 R M ht] at v;injection v with x z
    simp only[x,z];exact VU h.ck.rt ht
   rw[K2 R M ht] at v;injection v with x z
   simp only[x,z];rfl
  rw[Z2 J] at g;by_cases I:e.k=1
  .rw[Z2 (by simpa using I)] at g;unfold YY Xg at ht;rw[Z3 I] at ht
   cases he:env e.nm with
   | none=>rw[he] at ht;cases ht
   | some c =>
    rw[he] at ht;injection ht with y H
    cases hf:A e.nm with
    | none =>
     rw[hf] at g;injection g with g
     subst g;obtain⟨i,v,C⟩:=h.inn e.nm c hf he;obtain⟨D,x⟩:=ZB.1 C;refine⟨[],c,by simp,?_,h.ck.rt _ _ he,?_⟩
     .rw[v];have:=Zdt (f:=f) D;rw[x] at this;simpa using this
     rw[<-y,<-H];rfl
    | some j =>
     rw[hf] at g;simp only at g;obtain⟨v,C⟩:=h.fl _ _ hf;rw[Ze v] at g;simp only at g;obtain⟨X,Z,D,x⟩:=h.ck.flows _ (Zi v);rw[C,he] at x;injection x with x
     have z:=VP p.flows 0 j v;rw[ZE] at z;refine ih _ _ q r F E z ?_ g O;rw[D,<-y,<-H,x]
  rw[Z3 I] at g;obtain⟨c,y,H,v,X,f1,C,D⟩:=jA R M I J ht;rw[y] at g;simp only at g;obtain⟨L,s,x,z,T,U⟩:=ih c _ _ r X f1 (VQ p.flows 0 (e,m) V _ (Zcp y)) C g O;refine⟨(e.k,e.n,e.d)::L,s,by rw[x];simp,z,T,?_⟩;rw[List.reverse_cons];exact UI _ _ _ _ _ _ _ _ U D
theorem Zby{xIx j iIx:IE}{f:FD}(h:ZdN p env xIx j iIx f)(D:Xe p.flows p.ins.length xIx j iIx e)(F:(e,g)∈Xx p.flows 0){q m:Int}(ht:YY env e=.ok q m)(x:Kv p xIx j iIx e g=true) :
  ∃s,XV f ((JO p xIx j iIx e g).1:Int)=some s/\(JO p xIx j iIx e g).2.reverse.length<=20/\clock.V9 s.1 s.2 (JO p xIx j iIx e g).2.reverse=(q,m,0):=by
 obtain⟨N,E⟩:=JZ D g;unfold Kv at x;have y:=Yk x;obtain⟨L,s,v,z,A,C⟩:=ZdZ h N e g [] _ q m F ht E y;rw[ZN] at v;refine⟨s,z,by rw[List.length_reverse];exact y,?_⟩;unfold clock.V9;rw[Z3 A,v];exact C
theorem Zcr(h:l.len=0):XC l w i=[]:=by
 cases l with
 | nil=>rfl
 | cons k nm n d args a tl=>simp only[PL.len] at h;omega
theorem qK(A:RtE env)(q:YF e=true)(y:kE env e=true)(D:okE env e=true){p f:Int}(ht:YY env e=.ok p f)(w:ByteArray):∀kd∈XC e.args w 0,∃p f,YY env kd.1=.ok p f:=by
 intro kd g;by_cases v:e.k=1
 .obtain⟨_,j⟩:=Xh q;unfold exE at j;rw[Z3 v] at j;simp only[ZC,Yl] at j;rw[Zcr j.1.1.2] at g
  cases g
 by_cases x:e.k=2
 .exact⟨p,f,(zL A q y x D ht w kd g).2.2⟩
 obtain⟨c,m,G,H,E,f1,z,_⟩:=jA q y v x ht;obtain⟨F,j⟩:=Xh q;obtain⟨k,I,n,d,args,a,C⟩:=GA ((VA j v).2 x);rw[C] at m g;injection m with m
 rw[XC] at g;rcases ZS.1 g with rfl|g
 .exact⟨E,f1,by rw[m];exact z⟩
 cases g
theorem j7(y:RtE env):∀(l:PL)(w:ByteArray)(i:Nat),exR l=true->kL env l=true->(XU l).all (okE env)=true->(∀kd∈XC l w i,∃p f,YY env kd.1=.ok p f)->∀s∈YW l w i,∃p f,YY env s.1=.ok p f:=by
 intro l
 induction l with
 | nil=>intro w i _ _ _ _ s h;cases h
 | cons k nm n d args a tl ih1 ih2 =>
  intro w i x v q g s h;rw[exR,ZC] at x;rw[kL,ZC] at v;have m:YF ⟨k,nm,n,d,args,a⟩=true:=x.1;have j:kE env ⟨k,nm,n,d,args,a⟩=true:=v.1;simp only[XU,List.all_cons,List.all_append,ZC] at q;rw[XC] at g;obtain⟨p,f,ht⟩:=g _ (List.mem_cons_self ..);rw[YW] at h;rcases ZS.1 h with rfl|h
  .exact⟨p,f,ht⟩
  rcases List.mem_append.1 h with h|h
  .exact ih1 _ _ (Xh m).1 (Vj j).2 q.2.1 (qK y m j q.1 ht _) s h
  exact ih2 _ _ x.2 v.2 q.2.2 (fun kd h9=>g kd (List.mem_cons_of_mem _ h9)) s h
theorem Gn{env:Env}(hR:RtE env):∀(l:List FL)(i:Nat),(∀f∈l,YF f.e=true/\kE env f.e=true)->XY env l=true->(∀f∈l,FcS env f)->∀s∈Xx l i,∃p f,YY env s.1=.ok p f
 | [],_,_,_,_,s,h=>by cases h
 | f::l,i,hx,ho,hF,s,h=>by
  unfold XY at ho;simp only[XO,List.all_cons,List.all_append,ZC] at ho;obtain⟨h1,h2⟩:=hx f (by simp);obtain⟨p,q,ht,_⟩:=hF f (by simp);rw[Xx] at h;rcases List.mem_append.1 h with h|h
  .unfold YV at h;rcases ZS.1 h with rfl|h
   .exact⟨p,q,ht⟩
   exact j7 hR _ _ _ (Xh h1).1 (Vj h2).2 ho.2.1 (qK hR h1 h2 ho.1 ht _) s h
  exact Gn hR l (i+1) (fun g hg=>hx g (by simp[hg])) (by unfold XY;exact ho.2.2) (fun g hg=>hF g (by simp[hg])) s h
theorem zS{p:PG}{xIx fIx iIx:IE}:∀(l:List FL)(i:Nat),Qv p xIx fIx iIx l i=true->∀s∈YN l i,qo p xIx fIx iIx s=true
 | [],_,_,s,h=>by cases h
 | f::l,i,hf,s,h=>by
  rw[Qv,ZC] at hf;unfold Zan at hf;rw[ZC] at hf;rw[YN] at h;rcases List.mem_append.1 h with h|h
  .exact List.all_eq_true.1 hf.1.2 s h
  exact zS l (i+1) hf.2 s h
theorem qp{p:PG}{xIx fIx iIx:IE}:∀(l:List FL)(i:Nat),Qv p xIx fIx iIx l i=true->∀j (h:j<l.length),Kv p xIx fIx iIx l[j].e (dg (i+j))=true
 | [],_,_,j,h=>by simp at h
 | f::l,i,hf,j,h=>by
  rw[Qv,ZC] at hf;unfold Zan at hf;rw[ZC] at hf
  cases j with
  | zero=>exact hf.1.1
  | succ j =>
   have:=qp l (i+1) hf.2 j (by simpa using h);rw[show i+1+j=i+(j+1) by omega] at this;simpa using this
theorem qs(env':Env):∀(l:List FL)(e:Env)(nm:ByteArray),(VE env' l e nm=some (Jo env' nm)/\∃f∈l,f.nm=nm)\/(VE env' l e nm=e nm/\∀f∈l,f.nm≠nm)
 | [],e,nm=>.inr ⟨rfl,fun f h=>by cases h⟩
 | f::l,e,nm=>by
  rw[VE];rcases qs env' l (upd e f.nm (Jo env' f.nm)) nm with ⟨h1,g,hg,hn⟩|⟨h1,h2⟩
  .exact .inl ⟨h1,g,by simp[hg],hn⟩
  by_cases h:f.nm=nm
  .refine .inl ⟨?_,f,by simp,h⟩;rw[h1];unfold upd;rw[Z3 h.symm,h]
  refine .inr ⟨?_,fun g hg=>?_⟩
  .rw[h1];unfold upd;rw[Z2 (fun h9=>h h9.symm)]
  rcases ZS.1 hg with rfl|hg
  .exact h
  exact h2 g hg
theorem qD:∀(l:List IN)(e:Env),(l.map (·.nm)).Nodup->∀i (h:i<l.length),J5 l e l[i].nm=some (l[i].per,l[i].ph)
 | [],_,_,i,h=>by simp at h
 | x::l,e,hn,i,h=>by
  rw[List.map_cons,List.nodup_cons] at hn;rw[J5]
  cases i with
  | zero =>
   have:∀(l:List IN)(e:Env)(nm:ByteArray),nm∉l.map (·.nm)->J5 l e nm=e nm:=by
    intro l
    induction l with
    | nil=>intro e nm _;rfl
    | cons y l ih =>
     intro e nm h;rw[List.map_cons,ZS,not_or] at h;rw[J5,ih _ _ h.2];unfold upd;rw[Z2 h.1]
   rw[List.getElem_cons_zero,this _ _ _ hn.1];unfold upd;rw[Z3 rfl]
  | succ i =>
   rw[Zt];exact qD l _ hn.2 i (by simpa using h)
theorem qx{j:Env}{g:List FL}(h:GrE j g env):∀nm c,env nm=some c->j nm=some c\/∃f∈g,f.nm=nm:=by
 induction h with
 | base=>intro nm c h;exact .inl h
 | step hg hf hn ht ih =>
  intro nm c h;unfold upd at h;split at h
  .rename_i h1
   exact .inr ⟨_,hf,h1.symm⟩
  exact ih nm c h
theorem qW{l:List ByteArray}(h:∀i j (hi:i<l.length) (f:j<l.length),l[i]=l[j]->i=j):l.Nodup:=by
 unfold List.Nodup;rw[List.pairwise_iff_getElem];intro i j hi f m g;have:=h i j hi f g;omega
theorem zY(g:Qp p):(p.ins.map (·.nm)).Nodup:=qW (fun i j hi hj h=>by
 have hi2:i<p.ins.length:=by simpa using hi
 have f:j<p.ins.length:=by simpa using hj
 have m:=g.ins i hi2;have q:=g.ins j f;simp only[List.getElem_map] at h;rw[h] at m;omega)
theorem qV(g:Qp p):(p.nodes.map (·.nm)).Nodup:=qW (fun i j hi hj h=>by
 have hi2:i<p.nodes.length:=by simpa using hi
 have f:j<p.nodes.length:=by simpa using hj
 have m:=g.nodes i hi2;have q:=g.nodes j f;simp only[List.getElem_map] at h;rw[h] at m;omega)
theorem gE(hN:Qp p)(h:i<p.ins.length):Xb p.ins p.ins[i].nm=some (p.ins[i].per,p.ins[i].ph):=qD p.ins _ (zY hN) i h
theorem zQ(A:Qp p)(z:UE p env)(nm:ByteArray)(h:0<=YS p nm):(env nm).isSome=true:=by
 unfold YS at h
 cases h1:XS IN.nm nm p.ins 0 with
 | some i =>
  obtain⟨j,_,x,v,q⟩:=QL _ _ _ _ _ h1;obtain⟨m,f⟩:=ZB.1 v;have g:=z.ext _ _ (gE A m);rw[f,q] at g;rw[g];rfl
 | none =>
  rw[h1] at h
  cases g:XS FL.nm nm p.flows 0 with
  | some i =>
   obtain⟨j,_,x,v,q⟩:=QL _ _ _ _ _ g;obtain⟨m,f⟩:=ZB.1 v;obtain⟨a,b,_,y⟩:=z.flows _ (Zi m);rw[f,q] at y;rw[y];rfl
  | none=>rw[g] at h;simp at h
theorem Zhq(j:Qp p)(g:UE p env):∀l:PL,nmL p l=true->kL env l=true:=by
 intro l
 induction l with
 | nil=>intro _;rfl
 | cons k nm n d args a tl ih1 ih2 =>
  intro h;rw[nmL,ZC,ZC] at h;rw[kL,ZC,ZC];refine⟨⟨?_,ih1 h.1.2⟩,ih2 h.2⟩;have f:=h.1.1;unfold nm1 at f;rw[Bool.or_eq_true] at f;rcases f with h2|h2
  .rw[h2];rfl
  rw[zQ j g nm (Yk h2),Bool.or_true]
theorem ZfQ(g:Qp p)(m:UE p env)(h:j<p.flows.length):kE env p.flows[j].e=true:=by
 obtain⟨_,q,v⟩:=g.flows j h;unfold kE;rw[ZC];refine⟨?_,Zhq g m _ (uA _ v)⟩;have f:=ZcR q;unfold nm1 at f;rw[Bool.or_eq_true] at f;rcases f with h4|h4
 .rw[h4];rfl
 rw[zQ g m _ (Yk h4),Bool.or_true]
theorem En(g:UE p env):Xt (Ku p env)=Xt env:=by
 funext nm;unfold Xt Ku;rcases qs env p.flows (Xb p.ins) nm with ⟨h1,f,hf,hn⟩|⟨h1,h2⟩
 .rw[h1];rfl
 rw[h1]
 cases he:env nm with
 | none =>
  cases h0:Xb p.ins nm with
  | none=>rfl
  | some c=>rw[g.ext _ _ h0] at he;cases he
 | some c =>
  rcases qx g.gr nm c he with h3|⟨f,hf,hn⟩
  .rw[h3]
  exact absurd hn (h2 f hf)
theorem Zhp(y:Vf p)(v:Qp p)(q:UE p env):ZdN p env (xI p) (fI p) (iI p) (zr p env) where
 ck:=q
 ok:=fun g hg=>by
  obtain⟨j,hj,rfl⟩:=Yn hg;exact⟨(y.flows _ hg).2,ZfQ v q hj⟩
 fl:=fun nm j h=>V1 h
 inn:=fun nm c hf he=>by
  rcases qx q.gr nm c he with h3|⟨f,hf2,hn⟩
  .rcases Ky p.ins _ nm (by rw[show J5 p.ins (fun _=>none) nm=some c from h3];simp) with ⟨x,hx,hxn⟩|h4
   .obtain⟨i,hi,rfl⟩:=Yn hx;have h5:=gE v hi;rw[hxn,h3] at h5;have h6:=V2 (p.ins.map (·.nm)) 0 (fun _=>none) (zY v) i (by simpa using hi);rw[List.getElem_map,hxn,ZE] at h6;refine⟨i,h6,?_⟩;show(p.ins.map (fun x=>(x.per,x.ph)))[i]?=some c;rw[List.getElem?_map,Ze hi];exact h5.symm
   exact absurd rfl h4
  have h1:=Kz (p.flows.map (·.nm)) 0 (fun _=>none) nm (Yf.2 ⟨f,hf2,hn⟩);exact absurd hf h1
 il:=by unfold zr;simp
 xx:=fun s hs hk=>by
  have z:s∈YN p.flows 0:=by rw[Jg];exact List.mem_filter.2 ⟨hs,by unfold isC;exact Z1 hk⟩
  obtain⟨j,hj,m⟩:=Yn z;have h6:=V2 ((YN p.flows 0).map Prod.snd) 0 (fun _=>none) (yM p.flows 0) j (by simpa using hj);rw[List.getElem_map,m,ZE] at h6;refine⟨j,zl (tkR p (xI p) (fI p) (iI p) (nI p) (Ku p env) s),h6,?_,?_⟩
  .show((YN p.flows 0).map (fun s=>zl (tkR p (xI p) (fI p) (iI p) (nI p) (Ku p env) s)))[j]?=_;rw[List.getElem?_map,Ze hj,m];rfl
  simp only[zl,tkR,En q]
theorem gG{f:FD}(h:ZdN p env (xI p) (fI p) (iI p) f)(z:∀e:PE,YF e=true->Xe p.flows p.ins.length (xI p) (fI p) (iI p) e)(v:(e,g)∈Xx p.flows 0){m j:Int}(ht:YY env e=.ok m j)(A:Kv p (xI p) (fI p) (iI p) e g=true) :
  XM f ⟨((JO p (xI p) (fI p) (iI p) e g).1:Int),(JO p (xI p) (fI p) (iI p) e g).2.reverse⟩ m j=true:=by
 have C:=(Vp p.flows 0 h.ok h.ck.calls (e,g) v).1;obtain⟨s,x,q,y⟩:=Zby h (z e C) v ht A;unfold XM;simp only;rw[x];simp only;rw[y];rw[List.length_reverse] at q;simp[q]
theorem gK{n lo hi:Int}(h:inB n lo hi=true):lo<=n/\n<=hi:=by
 unfold inB at h;simpa using h
theorem ux(L:Vf p)(J:Qp p)(v:UE p env)(aa:(YN p.flows 0).length<=30)(C:Qv p (xI p) (fI p) (iI p) p.flows 0=true):Xd (zr p env)=true:=by
 have hF:=Zhp L J v;have hE:=GH L.ok J v;have hT:=Gn v.rt p.flows 0 hF.ok v.calls v.flows;rw[Zdg]
 .unfold zr;simpa using aa
 .refine List.all_eq_true.2 (fun c hc=>?_);obtain⟨x,G,rfl⟩:=Yf.1 hc;exact L.ok.ins x G
 .refine List.all_eq_true.2 (fun n hn=>?_);obtain⟨x,G,rfl⟩:=Yf.1 hn;exact Z1 (gK (L.nodes x G).2.2.2.1)
 .refine List.all_eq_true.2 (fun t ht=>?_);obtain⟨s,m,rfl⟩:=Yf.1 ht;have al:=m;rw[Jg] at m;obtain⟨z,hk⟩:=List.mem_filter.1 m;have T:s.1.k=2:=by unfold isC at hk;exact Yk hk
  obtain⟨G,U,ho⟩:=Vp p.flows 0 hF.ok v.calls s z;obtain⟨pp,ff,A⟩:=hT s z;have ac:=K2 G U A;have F:∃i x,nI p s.1.nm=some i/\p.nodes[i]?=some x/\x.ps.length=s.1.args.len:=by
   have q:nd1 p s.1.k s.1.nm s.1.args.len=true:=by
    have key:∀(l:PL)(w:ByteArray)(i:Nat),nqL p l=true->∀s∈YW l w i,nq1 p s.1.k s.1.nm s.1.args.len=true:=by
     intro l
     induction l with
     | nil=>intro w i _ s h;cases h
     | cons k nm n d args a tl ih1 ih2 =>
      intro w i h s m;rw[nqL,ZC,ZC] at h;rw[YW] at m;rcases ZS.1 m with rfl|m
      .exact h.1.1
      rcases List.mem_append.1 m with m|m
      .exact ih1 _ _ h.1.2 s m
      exact ih2 _ _ h.2 s m
    have Y:∀(l:List FL)(i:Nat),(∀f∈l,nq1 p f.e.k f.e.nm f.e.args.len=true/\nqL p f.e.args=true)->∀s∈Xx l i,nq1 p s.1.k s.1.nm s.1.args.len=true:=by
     intro l
     induction l with
     | nil=>intro i _ s h;cases h
     | cons f l ih =>
      intro i h s m;rw[Xx] at m;rcases List.mem_append.1 m with m|m
      .unfold YV at m;rcases ZS.1 m with rfl|m
       .exact(h f (by simp)).1
       exact key _ _ _ (h f (by simp)).2 s m
      exact ih (i+1) (fun g hg=>h g (by simp[hg])) s m
    have D:=Y p.flows 0 (fun f hf=>by
     obtain⟨j,I,rfl⟩:=Yn hf;exact(J.flows j I).2) s z
    unfold nq1 at D;rw[ZC] at D;exact D.2
   unfold nd1 at q;rw[T] at q;simp only[ne_eq,not_true_eq_false,decide_false,Bool.false_or] at q
   cases D:XS ND.nm s.1.nm p.nodes 0 with
   | none=>rw[D] at q;cases q
   | some i =>
    rw[D] at q;have Z:=Yk q;obtain⟨j,ap,x,H,ao⟩:=QL _ _ _ _ _ D;obtain rfl:i=j:=oq;rw[H] at Z;injection Z with Z
    obtain⟨I,an⟩:=ZB.1 H;have h6:=V2 (p.nodes.map (·.nm)) 0 (fun _=>none) (qV J) i (by simpa using I);rw[List.getElem_map,an,ao,ZE] at h6;exact⟨i,x,h6,H,Z⟩
  obtain⟨i,x,aj,ak,V⟩:=F;have ab:1<=s.1.args.len:=(VA (Xh G).2 oq).1;unfold Jv;simp only[zl,tkR,aj,Ya];rw[Z2 oq,ZR];have ai:(zr p env).nods[i]?=some (Zbc x):=by
   show(p.nodes.map Zbc)[i]?=_;rw[List.getElem?_map,ak];rfl
  rw[ai];simp only[Zo,J6,Zbc,V,En v,ac];simp only[decide_true,Bool.true_and];rw[show decide (s.1.args.len≠0)=true from Z1 oq,Bool.true_and];refine List.all_eq_true.2 (fun a ha=>?_);simp only[List.map_map,Yf] at ha;obtain⟨kd,E,rfl⟩:=ha;have O:=zS p.flows 0 C s al;unfold qo at O;have ag:=List.all_eq_true.1 O kd E;obtain⟨_,_,am⟩:=zL v.rt G U T ho A s.2 kd E;exact gG hF hE (VQ p.flows 0 s z kd E) am ag
 refine List.all_eq_true.2 (fun t ht=>?_);obtain⟨o,ho,rfl⟩:=Yf.1 ht;obtain⟨i,hi,rfl⟩:=Yn ho;obtain⟨j,I,y⟩:=uc (J.outs i hi);obtain⟨_,ah⟩:=V1 I;obtain⟨a,b,A,M⟩:=v.flows _ (Zi y);rw[ah] at M;have X:=VP p.flows 0 j y;have R:=qp p.flows 0 C j y;rw[ZE] at X R;unfold K1;rw[ZC];refine⟨Z1 (gK (L.outs _ ho)),?_⟩;have af:flE p j=p.flows[j].e:=by unfold flE;rw[Ze y]
 have ae:Xt env p.outs[i].fl=(a,b):=by unfold Xt;rw[M];rfl
 simp only[ZdC,tlR,I,Ya,af,En v,ae];exact gG hF hE X A R
