/- Parts of the proof. -/
import Derived.Test.YtdgifkjaflfdeaaGreatDoorJ33
set_option linter.all false
set_option maxRecDepth 100000
set_option maxHeartbeats 16000000
namespace Go.Proofs.YtdgifkjaflfdeaaGreatDoor.syn
open Tryz
open Go.RowKit
variable {a b u j i:Nat}{e:PE}{l args:PL}{k n d f m:Int}{nm w g:ByteArray}{env:Env}{p:PG}{xIx iIx:IE}
theorem Zcl:∀(u:Nat),∀c∈Lib.decDigits u,∃k,k<10/\c=UInt8.ofNat (48+k):=by
 intro u
 induction u using Nat.strongRecOn with
 | _ u ih =>
  intro c f;rw[Lib.decDigits] at f;split at f
  .rename_i h
   exact⟨u,h,List.mem_singleton.1 f⟩
  rename_i h
  rcases List.mem_append.1 f with f|f
  .exact ih (u/10) oq c f
  exact⟨u%10,Nat.mod_lt _ (by decide),List.mem_singleton.1 f⟩
theorem yn(g:a<10)(hb:b<10)(h:UInt8.ofNat (48+a)=UInt8.ofNat (48+b)):a=b:=by
 have f:=Z2 UInt8.toNat h;simp at f;omega
theorem ZfC{c:UInt8}(h:c∈Lib.decDigits u):c≠47:=by
 obtain⟨k,j,rfl⟩:=Zcl u c h;intro f;have g:=Z2 UInt8.toNat f;simp at g;omega
theorem ZfB(u:Nat):Lib.decDigits u≠[]:=by
 rw[Lib.decDigits];split<;>simp
theorem xA(h:¬u<10):Lib.decDigits u=Lib.decDigits (u/10)++[UInt8.ofNat (48+u%10)]:=by rw[Lib.decDigits,dif_neg h]
theorem Zf8:∀(u v:Nat),Lib.decDigits u=Lib.decDigits v->u=v:=by
 intro u
 induction u using Nat.strongRecOn with
 | _ u ih =>
  intro v h;by_cases m:u<10
  .by_cases f:v<10
   .rw[Lib.decDigits_one m,Lib.decDigits_one f] at h;injection h with h _
    exact yn m f h
   exfalso;rw[Lib.decDigits_one m,xA f] at h;have g:=Z2 List.length h;rw[Zx,List.length_singleton,List.length_singleton] at g;have j:=List.length_pos_iff.2 (ZfB (v/10));omega
  by_cases f:v<10
  .exfalso;rw[Lib.decDigits_one f,xA m] at h;have g:=Z2 List.length h;rw[Zx,List.length_singleton,List.length_singleton] at g;have j:=List.length_pos_iff.2 (ZfB (u/10));omega
  rw[xA m,xA f] at h;obtain⟨g,j⟩:=List.append_inj' h rfl;injection j with j _
  have q:=ih (u/10) oq (v/10) g;have x:=yn (Nat.mod_lt _ (by decide)) (Nat.mod_lt _ (by decide)) j;omega
def bl(b:ByteArray):List UInt8:=b.data.toList
theorem Zce(a b:ByteArray):bl (a++b)=bl a++bl b:=by
 unfold bl;simp
theorem Ez(w:ByteArray)(i:Nat):bl (w++⟨#[47]⟩++dg i)=bl w++47::Lib.decDigits i:=by
 rw[Zce,Zce,List.append_assoc];rfl
def Rst(r:List UInt8):Prop:=r=[]\/∃r',r=47::r'
theorem Zdz:∀(l1 l2 r s:List UInt8),(∀c∈l1,c≠47)->(∀c∈l2,c≠47)->Rst r->Rst s->l1++r=l2++s->l1=l2/\r=s
 | [],[],r,s,_,_,_,_,h=>⟨rfl,h⟩
 | [],c::l2,r,s,_,h2,hr,_,h=>by
  exfalso;rcases hr with rfl|⟨r',rfl⟩
  .simp at h
  injection h with h _
  exact h2 c (by simp) h.symm
 | c::l1,[],r,s,h1,_,_,hs,h=>by
  exfalso;rcases hs with rfl|⟨r',rfl⟩
  .simp at h
  injection h with h _
  exact h1 c (by simp) h
 | c::l1,d::l2,r,s,h1,h2,hr,hs,h=>by
  injection h with ha hb
  obtain⟨h3,h4⟩:=Zdz l1 l2 r s (fun x hx=>h1 x (by simp[hx])) (fun x hx=>h2 x (by simp[hx])) hr hs hb;exact⟨by rw[ha,h3],h4⟩
theorem E6{r s:List UInt8}(j:Rst r)(m:Rst s)(h:Lib.decDigits a++r=Lib.decDigits b++s):a=b/\r=s:=by
 obtain⟨f,g⟩:=Zdz _ _ r s (fun c hc=>ZfC hc) (fun c hc=>ZfC hc) j m h;exact⟨Zf8 _ _ f,g⟩
theorem Vw:∀(l:PL)(w:ByteArray)(i:Nat),∀s∈YY l w i,∃a rest,i<=a/\Rst rest/\bl s.2=bl w++47::(Lib.decDigits a++rest):=by
 intro l
 induction l with
 | nil=>intro w i s h;cases h
 | cons k nm n d args a tl ih1 ih2 =>
  intro w i s h;simp only[YY,ZR,List.mem_append] at h;rcases h with rfl|h|h
  .exact⟨i,[],Zc _,.inl rfl,by rw[Ez,List.append_nil]⟩
  .obtain⟨b,rest,_,_,hb⟩:=ih1 _ _ s h;exact⟨i,47::(Lib.decDigits b++rest),Zc _,.inr ⟨_,rfl⟩,by rw[hb,Ez];simp⟩
  obtain⟨b,rest,j,f,g⟩:=ih2 _ _ s h;exact⟨b,rest,oq,f,g⟩
theorem xZ:∀(l:PL)(w:ByteArray)(i:Nat),((YY l w i).map (·.2)).Nodup:=by
 intro l
 induction l with
 | nil=>intro w i;simp[YY]
 | cons k nm n d args a tl ih1 ih2 =>
  intro w i;simp only[YY,List.map_cons,ZU];rw[List.nodup_cons,List.nodup_append];have A:∀x∈(YY args (w++⟨#[47]⟩++dg i) 0).map (·.2),∃b rest,Rst rest/\bl x=bl w++47::(Lib.decDigits i++47::(Lib.decDigits b++rest)):=by
   intro x m;obtain⟨s,v,rfl⟩:=Yd.1 m;obtain⟨b,rest,_,j,f⟩:=Vw _ _ _ s v;exact⟨b,rest,j,by rw[f,Ez];simp⟩
  have C:∀x∈(YY tl w (i+1)).map (·.2),∃b rest,i+1<=b/\Rst rest/\bl x=bl w++47::(Lib.decDigits b++rest):=by
   intro x m;obtain⟨s,v,rfl⟩:=Yd.1 m;exact Vw _ _ _ s v
  refine⟨fun h=>?_,ih1 _ _,ih2 _ _,fun x m y hy h=>?_⟩
  .rcases List.mem_append.1 h with h|h
   .obtain⟨b,rest,_,f⟩:=A _ h;rw[Ez] at f;have g:=Z2 List.length f;simp at g
   obtain⟨b,rest,D,j,f⟩:=C _ h;rw[Ez] at f;have g:=List.append_cancel_left f;injection g with _ g
   have q:=E6 (.inl rfl) j (by rw[List.append_nil];exact g);omega
  subst h;obtain⟨b,rest,_,f⟩:=A _ m;obtain⟨c,z,D,j,g⟩:=C _ hy;rw[f] at g;have q:=List.append_cancel_left g;injection q with _ q
  have E:=E6 (.inr ⟨_,rfl⟩) j q;omega
def XF:List FL->Nat->List (PE × ByteArray)
 | [],_=>[]
 | f::l,i=>YX f.e (dg i)++XF l (i+1)
theorem Jm:∀(l:List FL)(i:Nat),YP l i=(XF l i).filter isC
 | [],_=>rfl
 | f::l,i=>by rw[YP,XF,List.filter_append,Jm l (i+1)]
theorem zv:∀s∈YX e (dg j),∃rest,Rst rest/\bl s.2=Lib.decDigits j++rest:=by
 intro s f;unfold YX at f;rcases ZR.1 f with rfl|f
 .exact⟨[],.inl rfl,by rw[List.append_nil];rfl⟩
 obtain⟨a,rest,_,_,h⟩:=Vw _ _ _ s f;exact⟨_,.inr ⟨_,rfl⟩,h⟩
theorem xY(e:PE)(j:Nat):((YX e (dg j)).map (·.2)).Nodup:=by
 unfold YX;rw[List.map_cons,List.nodup_cons];refine⟨fun h=>?_,xZ _ _ _⟩;obtain⟨s,m,h⟩:=Yd.1 h;obtain⟨a,rest,_,_,g⟩:=Vw _ _ _ s m;have f:=Z2 (fun b=>(bl b).length) h;simp only[g] at f;simp at f
theorem zw:∀(l:List FL)(i:Nat),∀s∈XF l i,∃a rest,i<=a/\Rst rest/\bl s.2=Lib.decDigits a++rest
 | [],_,s,h=>by cases h
 | f::l,i,s,h=>by
  rcases List.mem_append.1 h with h|h
  .obtain⟨rest,h1,h2⟩:=zv s h;exact⟨i,rest,Zc _,h1,h2⟩
  obtain⟨a,rest,h1,h2,h3⟩:=zw l (i+1) s h;exact⟨a,rest,oq,h2,h3⟩
theorem Kv:∀(l:List FL)(i:Nat),((XF l i).map (·.2)).Nodup
 | [],_=>by simp[XF]
 | f::l,i=>by
  rw[XF,ZU,List.nodup_append];refine⟨xY _ _,Kv l (i+1),fun x hx y hy h=>?_⟩;subst h;obtain⟨s,hs,hsx⟩:=Yd.1 hx;obtain⟨t,ht,htx⟩:=Yd.1 hy;obtain⟨rest,h1,h2⟩:=zv s hs;obtain⟨a,rest2,h3,h4,h5⟩:=zw l (i+1) t ht;have h6:bl s.2=bl t.2:=by rw[show s.2=t.2 from hsx.trans htx.symm]
  rw[h2,h5] at h6;have:=E6 h1 h4 h6;omega
theorem xu(l:List FL)(i:Nat):((YP l i).map (·.2)).Nodup:=by
 rw[Jm];exact((List.filter_sublist).map _).nodup (Kv l i)
theorem Ud:∀(l:List ByteArray)(i:Nat)(e:IE),l.Nodup->∀j (h:j<l.length),inI l i e l[j]=some (i+j)
 | [],_,_,_,j,h=>by simp at h
 | k::l,i,e,hn,j,h=>by
  obtain⟨h1,h2⟩:=List.nodup_cons.1 hn;rw[inI]
  cases j with
  | zero =>
   have:∀(l:List ByteArray)(i:Nat)(e:IE)(k:ByteArray),k∉l->inI l i e k=e k:=by
    intro l
    induction l with
    | nil=>intro i e k _;rfl
    | cons a l ih =>
     intro i e k f;rw[inI,ih _ _ _ (fun h=>f (by simp[h]))];unfold V5;rw[Z0 (fun h=>f (by simp[h]))]
   rw[List.getElem_cons_zero,this _ _ _ _ h1];unfold V5;rw[Z1 rfl];rfl
  | succ j =>
   rw[List.getElem_cons_succ,Ud l (i+1) _ h2 j (by simpa using h)];congr 1;omega
def kL(env:Env):PL->Bool
 | .nil=>true
 | .cons k nm n d args a tl=>((decide (k≠1)||(env nm).isSome)&&kL env args)&&kL env tl
def kE(env:Env)(e:PE):Bool:=(decide (e.k≠1)||(env e.nm).isSome)&&kL env e.args
theorem Zgw(h:1<=l.len):∃k nm n d args a tl,l=.cons k nm n d args a tl:=by
 cases l with
 | nil=>simp[PL.len] at h
 | cons k nm n d args a tl=>exact⟨k,nm,n,d,args,a,tl,rfl⟩
theorem VM{len:Nat}(h:exE k n d nm len=true)(j:k≠1):1<=len/\(k≠2->len=1):=by
 unfold exE at h;rw[Z0 j] at h;by_cases g:k=2
 .rw[Z1 g] at h;simp only[ZB,Yj] at h;exact⟨h.1.1.1.2,fun f=>absurd g f⟩
 rw[Z0 g] at h;by_cases f:len=1
 .exact⟨oq,fun _=>f⟩
 rw[Z1 (.inl f)] at h
 cases h
theorem K5{n d a:Int}(v:exE k n d nm args.len=true)(m:(decide (k≠1)||(env nm).isSome)=true)(x:args≠.nil->YW env args≠.unk):Xl env k nm n d a (YW env args)≠.unk:=by
 unfold Xl;by_cases g:k=1
 .rw[Z1 g]
  cases he:env nm with
  | none=>subst g;rw[he] at m;simp at m
  | some c=>simp
 rw[Z0 g];obtain⟨j,_⟩:=VM v g;have q:=x (by intro h;rw[h] at j;simp[PL.len] at j)
 cases ht:YW env args with
 | unk=>exact absurd ht q
 | bad a e=>simp
 | ok p f=>simp only;split<;>(try split)<;>simp
theorem zG:∀l:PL,exR l=true->kL env l=true->l≠.nil->YW env l≠.unk:=by
 intro l
 induction l with
 | nil=>intro _ _ h;exact absurd rfl h
 | cons k nm n d args a tl ih1 ih2 =>
  intro j g _;rw[exR,ZB,ZB] at j;rw[kL,ZB,ZB] at g;have m:=K5 (a:=a) j.1.2 g.1.1 (fun h=>ih1 j.1.1 g.1.2 h);rw[YW]
  cases ht:Xl env k nm n d a (YW env args) with
  | unk=>exact absurd ht m
  | ok p f=>simp
  | bad a e=>simp
theorem qT{n d a:Int}{p f:Int}(m:∀p f,YW env args=.ok p f->uB (XD env) args=(p,f))(ht:Xl env k nm n d a (YW env args)=.ok p f):ZaJ (XD env) k nm n d (uB (XD env) args)=(p,f):=by
 unfold Xl at ht;unfold ZaJ;by_cases j:k=1
 .rw[Z1 j] at ht ⊢;unfold XD
  cases he:env nm with
  | none=>rw[he] at ht;cases ht
  | some c=>rw[he] at ht;injection ht with h1 g;rw[<-h1,<-g];rfl
 rw[Z0 j] at ht ⊢
 cases hs:YW env args with
 | unk=>rw[hs] at ht;cases ht
 | bad a e=>rw[hs] at ht;cases ht
 | ok p1 f1 =>
  rw[hs] at ht;rw[m p1 f1 hs];simp only at ht ⊢;by_cases g:k=2
  .rw[Z1 g] at ht ⊢;injection ht with h3 h4
   rw[h3,h4]
  rw[Z0 g] at ht ⊢;split at ht
  .injection ht with h3 h4
   rw[h3,h4]
  cases ht
theorem ZbH:∀l:PL,exR l=true->kL env l=true->∀p f,YW env l=.ok p f->uB (XD env) l=(p,f):=by
 intro l
 induction l with
 | nil=>intro _ _ p f h;cases h
 | cons k nm n d args a tl ih1 ih2 =>
  intro j g p f ht;rw[exR,ZB,ZB] at j;rw[kL,ZB,ZB] at g;have m:=K5 (a:=a) j.1.2 g.1.1 (fun h=>zG args j.1.1 g.1.2 h);rw[YW] at ht;rw[uB];refine qT (ih1 j.1.1 g.1.2) (a:=a) ?_
  cases hh:Xl env k nm n d a (YW env args) with
  | unk=>exact absurd hh m
  | ok p1 f1=>rw[hh] at ht;exact ht
  | bad a1 e1=>rw[hh] at ht;cases ht
theorem Xm(h:YE e=true):exR e.args=true/\exE e.k e.n e.d e.nm e.args.len=true:=by
 unfold YE at h
 rwa [ZB] at h
theorem Vq(h:kE env e=true):(decide (e.k≠1)||(env e.nm).isSome)=true/\kL env e.args=true:=by
 unfold kE at h
 rwa [ZB] at h
theorem Gl(hx:YE e=true)(hk:kE env e=true){p f:Int}(ht:Y0 env e=.ok p f):U9 (XD env) e=(p,f) :=
 qT (ZbH e.args (Xm hx).1 (Vq hk).2) ht
theorem zF(hx:YE e=true)(hk:kE env e=true):Y0 env e≠.unk :=
 K5 (Xm hx).2 (Vq hk).1 (fun h=>zG e.args (Xm hx).1 (Vq hk).2 h)
theorem vb(D:YE e=true)(C:kE env e=true)(x:e.k≠1)(y:e.k≠2){p f:Int}(ht:Y0 env e=.ok p f) :
  ∃c,e.args.at 0=some c/\YE c=true/\kE env c=true/\∃p1 f1,Y0 env c=.ok p1 f1/\clock.YG p1 f1 e.k e.n e.d=(p,f,0):=by
 obtain⟨j,z⟩:=Xm D;obtain⟨E,A⟩:=VM z x;obtain⟨k,g,n,d,args,a,q⟩:=GV (A y);obtain⟨_,m⟩:=Vq C;rw[q] at j m;rw[exR,ZB,ZB] at j;rw[kL,ZB,ZB] at m;refine⟨⟨k,g,n,d,args,a⟩,by rw[q];rfl,by unfold YE;rw[ZB];exact j.1,by unfold kE;rw[ZB];exact m.1,?_⟩;unfold Y0 Xl at ht;rw[Z0 x,q] at ht;have v:YW env (.cons k g n d args a .nil)=Y0 env ⟨k,g,n,d,args,a⟩:=by
  rw[YW];show(match Y0 env ⟨k,g,n,d,args,a⟩ with|.unk=>YW env .nil|.ok p f=>.ok p f|.bad a e=>.bad a e)=_
  cases Y0 env ⟨k,g,n,d,args,a⟩<;>rfl
 rw[v] at ht
 cases hs:Y0 env ⟨k,g,n,d,args,a⟩ with
 | unk=>rw[hs] at ht;cases ht
 | bad a e=>rw[hs] at ht;cases ht
 | ok p1 f1 =>
  rw[hs] at ht;simp only at ht;rw[Z0 y] at ht;refine⟨p1,f1,rfl,?_⟩;split at ht
  .rename_i h0
   injection ht with h5 h6
   rw[<-h5,<-h6,<-h0]
  cases ht
theorem ZeG{p f:Int}(A:(p,f)≠(0,0)):∀l:PL,exR l=true->kL env l=true->ckL env (p,f) l=true->∀(w:ByteArray)(i:Nat),∀kd∈XI l w i,YE kd.1=true/\kE env kd.1=true/\Y0 env kd.1=.ok p f:=by
 intro l
 induction l with
 | nil=>intro _ _ _ w i kd h;cases h
 | cons k nm n d args a tl ih1 ih2 =>
  intro v q g w i kd h;rw[exR,ZB] at v;rw[kL,ZB] at q;rw[ckL] at g;have m:YE ⟨k,nm,n,d,args,a⟩=true:=v.1;have j:kE env ⟨k,nm,n,d,args,a⟩=true:=q.1;have ht:Y0 env ⟨k,nm,n,d,args,a⟩=.ok p f/\ckL env (p,f) tl=true:=by
   have x:=zF m j;show Xl env k nm n d a (YW env args)=.ok p f/\_
   cases hh:Xl env k nm n d a (YW env args) with
   | unk=>exact absurd hh x
   | bad a1 e1=>rw[hh] at g;cases g
   | ok p1 f1 =>
    rw[hh] at g;simp only[ZB,Yj] at g;obtain⟨y,z⟩:=g;injection y with h4 h5
    exact⟨by rw[h4,h5],z⟩
  rcases ZR.1 h with rfl|h
  .exact⟨m,j,ht.1⟩
  exact ih2 v.2 q.2 ht.2 w (i+1) kd h
theorem ZdF{p f:Int}(h:clock.YH p f=true):(p,f)≠(0,0):=by
 intro g;injection g with h3 h4
 unfold clock.YH at h;simp only[Yj] at h;omega
theorem yk(F:RtE env)(I:YE e=true)(H:kE env e=true)(A:e.k=2)(g:okE env e=true){p f:Int}(ht:Y0 env e=.ok p f)(w:ByteArray) :
  ∀kd∈XI e.args w 0,YE kd.1=true/\kE env kd.1=true/\Y0 env kd.1=.ok p f:=by
 obtain⟨v,C⟩:=Xm I;obtain⟨_,x⟩:=Vq H;obtain⟨E,_⟩:=VM C oq;obtain⟨k,z,n,d,args,a,J,G⟩:=Zgw E;unfold okE at g;rw[A] at g;simp only[ne_eq,not_true_eq_false,decide_false,Bool.false_or] at g;have y:=ZdF (V4 F ht);unfold Y0 Xl at ht;rw[Z0 oq] at ht;rw[G] at v x g ht ⊢;rw[YW] at ht;rw[ckA] at g;rw[exR,ZB] at v;rw[kL,ZB] at x;have q:YE ⟨k,z,n,d,args,a⟩=true:=v.1;have m:kE env ⟨k,z,n,d,args,a⟩=true:=x.1;have D:=zF q m
 cases hh:Xl env k z n d a (YW env args) with
 | unk=>exact absurd hh D
 | bad a1 e1=>rw[hh] at g;cases g
 | ok p1 f1 =>
  rw[hh] at g ht;simp only[Z1 A] at ht;injection ht with h4 h5
  subst h4;subst h5;intro kd j;rcases ZR.1 j with rfl|j
  .exact⟨q,m,hh⟩
  exact ZeG y J v.2 x.2 g w 1 kd j
theorem ET:∀(l:PL)(w:ByteArray)(i:Nat),∀kd∈XI l w i,kd∈YY l w i:=by
 intro l
 induction l with
 | nil=>intro w i kd h;cases h
 | cons k nm n d args a tl ih1 ih2 =>
  intro w i kd h;rw[YY];rcases ZR.1 h with rfl|h
  .simp
  simp[ih2 w (i+1) kd h]
theorem ZdW:∀(l:PL)(w:ByteArray)(i:Nat),∀s∈YY l w i,∀t∈YY s.1.args s.2 0,t∈YY l w i:=by
 intro l
 induction l with
 | nil=>intro w i s h;cases h
 | cons k nm n d args a tl ih1 ih2 =>
  intro w i s h t ht;rw[YY] at h ⊢;rcases ZR.1 h with rfl|h
  .exact List.mem_cons_of_mem _ (List.mem_append_left _ ht)
  rcases List.mem_append.1 h with h|h
  .exact List.mem_cons_of_mem _ (List.mem_append_left _ (ih1 _ _ s h t ht))
  exact List.mem_cons_of_mem _ (List.mem_append_right _ (ih2 _ _ s h t ht))
theorem vH:∀s∈YX e w,∀kd∈XI s.1.args s.2 0,kd∈YX e w:=by
 intro s g kd f;unfold YX at g ⊢;rcases ZR.1 g with rfl|g
 .exact List.mem_cons_of_mem _ (ET _ _ _ kd f)
 exact List.mem_cons_of_mem _ (ZdW _ _ _ s g kd (ET _ _ _ kd f))
theorem V1:∀(l:List FL)(i:Nat),∀s∈XF l i,∀kd∈XI s.1.args s.2 0,kd∈XF l i
 | [],_,s,h=>by cases h
 | f::l,i,s,h=>fun kd hkd=>by
  rw[XF] at h ⊢;rcases List.mem_append.1 h with h|h
  .exact List.mem_append_left _ (vH s h kd hkd)
  exact List.mem_append_right _ (V1 l (i+1) s h kd hkd)
theorem V0:∀(l:List FL)(i j:Nat)(h:j<l.length),(l[j].e,dg (i+j))∈XF l i
 | [],_,j,h=>by simp at h
 | f::l,i,j,h=>by
  rw[XF]
  cases j with
  | zero=>exact List.mem_append_left _ (by unfold YX;simp)
  | succ j =>
   refine List.mem_append_right _ ?_;have:=V0 l (i+1) j (by simpa using h);rw[show i+1+j=i+(j+1) by omega] at this;simpa using this
theorem ZcV{e c:PE}(h:e.args.at 0=some c):(c,w++⟨#[47]⟩++dg 0)∈XI e.args w 0:=by
 have:=ES e.args w 0 0 c h;exact Z9 this
theorem gD:∀(l:PL)(w:ByteArray)(i:Nat),exR l=true->kL env l=true->(Xy l).all (okE env)=true->∀s∈YY l w i,YE s.1=true/\kE env s.1=true/\okE env s.1=true:=by
 intro l
 induction l with
 | nil=>intro w i _ _ _ s h;cases h
 | cons k nm n d args a tl ih1 ih2 =>
  intro w i q m j s h;rw[exR,ZB] at q;rw[kL,ZB] at m;have g:YE ⟨k,nm,n,d,args,a⟩=true:=q.1;have f:kE env ⟨k,nm,n,d,args,a⟩=true:=m.1;simp only[Xy,List.all_cons,List.all_append,ZB] at j;rw[YY] at h;rcases ZR.1 h with rfl|h
  .exact⟨g,f,j.1⟩
  rcases List.mem_append.1 h with h|h
  .exact ih1 _ _ (Xm g).1 (Vq f).2 j.2.1 s h
  exact ih2 _ _ q.2 m.2 j.2.2 s h
theorem Vv{env:Env}:∀(l:List FL)(i:Nat),(∀f∈l,YE f.e=true/\kE env f.e=true)->XZ env l=true->∀s∈XF l i,YE s.1=true/\kE env s.1=true/\okE env s.1=true
 | [],_,_,_,s,h=>by cases h
 | f::l,i,hx,ho,s,h=>by
  unfold XZ at ho;simp only[XS,List.all_cons,List.all_append,ZB] at ho;obtain⟨h1,h2⟩:=hx f (by simp);rw[XF] at h;rcases List.mem_append.1 h with h|h
  .unfold YX at h;rcases ZR.1 h with rfl|h
   .exact⟨h1,h2,ho.1⟩
   exact gD _ _ _ (Xm h1).1 (Vq h2).2 ho.2.1 s h
  exact Vv l (i+1) (fun f hf=>hx f (by simp[hf])) (by unfold XZ;exact ho.2.2) s h
theorem UX:∀(l:List (Int × Int × Int))(p f p1 f1:Int)(o:Int × Int × Int)(p2 f2:Int),clock.YO p f l=(p1,f1,0)->clock.YG p1 f1 o.1 o.2.1 o.2.2=(p2,f2,0)->clock.YO p f (l++[o])=(p2,f2,0)
 | [],p,f,p1,f1,o,p2,f2,h1,h2=>by
  rw[clock.YO] at h1;injection h1 with h3 h4
  injection h4 with h4 _
  subst h3;subst h4;rw[ZM,clock.YO];simp only[h2,if_true,clock.YO]
 | x::l,p,f,p1,f1,o,p2,f2,h1,h2=>by
  rw[clock.YO] at h1;rw[ZC,clock.YO];by_cases h0:(clock.YG p f x.1 x.2.1 x.2.2).2.2=0
  .rw[Z1 h0] at h1 ⊢;exact UX l _ _ p1 f1 o p2 f2 h1 h2
  rw[Z0 h0] at h1;injection h1 with _ h3
  injection h3 with _ h3
  exact absurd h3 h0
structure Zeg (p:PG) (env:Env) (xIx fIx iIx:IE) (f:FD):Prop where
 ck:UR p env
 ok:∀g∈p.flows,YE g.e=true/\kE env g.e=true
 fl:∀nm j,fIx nm=some j->∃h:j<p.flows.length,p.flows[j].nm=nm
 inn:∀nm c,fIx nm=none->env nm=some c->∃i,iIx nm=some i/\f.ins[i]?=some c
 il:f.ins.length=p.ins.length
 xx:∀s∈XF p.flows 0,s.1.k=2->∃j t,xIx s.2=some j/\f.tasks[j]?=some t/\(t.per,t.ph)=U9 (XD env) s.1
theorem Zev{xIx A iIx:IE}{f:FD}(h:Zeg p env xIx A iIx f):∀(N:Nat)(e:PE)(m:ByteArray)(q:List Op3)(r:Nat × List Op3)(F E:Int),(e,m)∈XF p.flows 0->Y0 env e=.ok F E ->
  XL p.flows p.ins.length xIx A iIx N e m q=some r->r.2.length<=20->∃(L:List Op3)(s:Int × Int),r.2=q++L/\Jj f (r.1:Int)=some s/\clock.YH s.1 s.2=true/\clock.YO s.1 s.2 L.reverse=(F,E,0):=by
 intro N
 induction N with
 | zero=>intro e m q r F E _ _ g;rw[XL] at g;cases g
 | succ N ih =>
  intro e m q r F E V ht g O;obtain⟨R,M,Y⟩:=Vv p.flows 0 h.ok h.ck.calls (e,m) V;simp only at R M Y;rw[XL] at g;by_cases G:20<q.length
  .rw[Z1 G] at g;injection g with g
   rw[<-g] at O;simp only at O;omega
  rw[Z0 G] at g;by_cases J:e.k=2
  .rw[Z1 J] at g;injection g with g
   subst g;obtain⟨j,t,y,H,v⟩:=h.xx (e,m) V J;simp only at y v ⊢;obtain⟨C,D⟩:=ZA.1 H;refine⟨[],(t.per,t.ph),by simp,?_,?_,?_⟩
   .rw[y];have:=V2 (f:=f) C;rw[h.il,D] at this;simpa using this
   .rw[Gl R M ht] at v;injection v with x z
    simp only[x,z];exact V4 h.ck.rt ht
   rw[Gl R M ht] at v;injection v with x z
   simp only[x,z];rfl
  rw[Z0 J] at g;by_cases I:e.k=1
  .rw[Z0 (by simpa using I)] at g;unfold Y0 Xl at ht;rw[Z1 I] at ht
   cases he:env e.nm with
   | none=>rw[he] at ht;cases ht
   | some c =>
    rw[he] at ht;injection ht with y H
    cases hf:A e.nm with
    | none =>
     rw[hf] at g;injection g with g
     subst g;obtain⟨i,v,C⟩:=h.inn e.nm c hf he;obtain⟨D,x⟩:=ZA.1 C;refine⟨[],c,by simp,?_,h.ck.rt _ _ he,?_⟩
     .rw[v];have:=ZdY (f:=f) D;rw[x] at this;simpa using this
     rw[<-y,<-H];rfl
    | some j =>
     rw[hf] at g;simp only at g;obtain⟨v,C⟩:=h.fl _ _ hf;rw[Ze v] at g;simp only at g;obtain⟨X,Z,D,x⟩:=h.ck.flows _ (Zi v);rw[C,he] at x;injection x with x
     have z:=V0 p.flows 0 j v;rw[ZD] at z;refine ih _ _ q r F E z ?_ g O;rw[D,<-y,<-H,x]
  rw[Z1 I] at g;obtain⟨c,y,H,v,X,f1,C,D⟩:=vb R M I J ht;rw[y] at g;simp only at g;obtain⟨L,s,x,z,T,U⟩:=ih c _ _ r X f1 (V1 p.flows 0 (e,m) V _ (ZcV y)) C g O;refine⟨(e.k,e.n,e.d)::L,s,by rw[x];simp,z,T,?_⟩;rw[List.reverse_cons];exact UX _ _ _ _ _ _ _ _ U D
theorem Zb5{xIx j iIx:IE}{f:FD}(h:Zeg p env xIx j iIx f)(D:Xi p.flows p.ins.length xIx j iIx e)(F:(e,g)∈XF p.flows 0){q m:Int}(ht:Y0 env e=.ok q m)(x:K2 p xIx j iIx e g=true) :
  ∃s,Jj f ((JW p xIx j iIx e g).1:Int)=some s/\(JW p xIx j iIx e g).2.reverse.length<=20/\clock.KJ s.1 s.2 (JW p xIx j iIx e g).2.reverse=(q,m,0):=by
 obtain⟨N,E⟩:=J3 D g;unfold K2 at x;have y:=Yi x;obtain⟨L,s,v,z,A,C⟩:=Zev h N e g [] _ q m F ht E y;rw[ZM] at v;refine⟨s,z,by rw[List.length_reverse];exact y,?_⟩;unfold clock.KJ;rw[Z1 A,v];exact C
theorem ZcX(h:l.len=0):XI l w i=[]:=by
 cases l with
 | nil=>rfl
 | cons k nm n d args a tl=>simp only[PL.len] at h;omega
theorem jE(A:RtE env)(q:YE e=true)(y:kE env e=true)(D:okE env e=true){p f:Int}(ht:Y0 env e=.ok p f)(w:ByteArray):∀kd∈XI e.args w 0,∃p f,Y0 env kd.1=.ok p f:=by
 intro kd g;by_cases v:e.k=1
 .obtain⟨_,j⟩:=Xm q;unfold exE at j;rw[Z1 v] at j;simp only[ZB,Yj] at j;rw[ZcX j.1.1.2] at g
  cases g
 by_cases x:e.k=2
 .exact⟨p,f,(yk A q y x D ht w kd g).2.2⟩
 obtain⟨c,m,G,H,E,f1,z,_⟩:=vb q y v x ht;obtain⟨F,j⟩:=Xm q;obtain⟨k,I,n,d,args,a,C⟩:=GV ((VM j v).2 x);rw[C] at m g;injection m with m
 rw[XI] at g;rcases ZR.1 g with rfl|g
 .exact⟨E,f1,by rw[m];exact z⟩
 cases g
theorem vJ(y:RtE env):∀(l:PL)(w:ByteArray)(i:Nat),exR l=true->kL env l=true->(Xy l).all (okE env)=true->(∀kd∈XI l w i,∃p f,Y0 env kd.1=.ok p f)->∀s∈YY l w i,∃p f,Y0 env s.1=.ok p f:=by
 intro l
 induction l with
 | nil=>intro w i _ _ _ _ s h;cases h
 | cons k nm n d args a tl ih1 ih2 =>
  intro w i x v q g s h;rw[exR,ZB] at x;rw[kL,ZB] at v;have m:YE ⟨k,nm,n,d,args,a⟩=true:=x.1;have j:kE env ⟨k,nm,n,d,args,a⟩=true:=v.1;simp only[Xy,List.all_cons,List.all_append,ZB] at q;rw[XI] at g;obtain⟨p,f,ht⟩:=g _ (List.mem_cons_self ..);rw[YY] at h;rcases ZR.1 h with rfl|h
  .exact⟨p,f,ht⟩
  rcases List.mem_append.1 h with h|h
  .exact ih1 _ _ (Xm m).1 (Vq j).2 q.2.1 (jE y m j q.1 ht _) s h
  exact ih2 _ _ x.2 v.2 q.2.2 (fun kd h9=>g kd (List.mem_cons_of_mem _ h9)) s h
theorem GH{env:Env}(hR:RtE env):∀(l:List FL)(i:Nat),(∀f∈l,YE f.e=true/\kE env f.e=true)->XZ env l=true->(∀f∈l,FcS env f)->∀s∈XF l i,∃p f,Y0 env s.1=.ok p f
 | [],_,_,_,_,s,h=>by cases h
 | f::l,i,hx,ho,hF,s,h=>by
  unfold XZ at ho;simp only[XS,List.all_cons,List.all_append,ZB] at ho;obtain⟨h1,h2⟩:=hx f (by simp);obtain⟨p,q,ht,_⟩:=hF f (by simp);rw[XF] at h;rcases List.mem_append.1 h with h|h
  .unfold YX at h;rcases ZR.1 h with rfl|h
   .exact⟨p,q,ht⟩
   exact vJ hR _ _ _ (Xm h1).1 (Vq h2).2 ho.2.1 (jE hR h1 h2 ho.1 ht _) s h
  exact GH hR l (i+1) (fun g hg=>hx g (by simp[hg])) (by unfold XZ;exact ho.2.2) (fun g hg=>hF g (by simp[hg])) s h
theorem yq{p:PG}{xIx fIx iIx:IE}:∀(l:List FL)(i:Nat),QA p xIx fIx iIx l i=true->∀s∈YP l i,qJ p xIx fIx iIx s=true
 | [],_,_,s,h=>by cases h
 | f::l,i,hf,s,h=>by
  rw[QA,ZB] at hf;unfold ZaY at hf;rw[ZB] at hf;rw[YP] at h;rcases List.mem_append.1 h with h|h
  .exact List.all_eq_true.1 hf.1.2 s h
  exact yq l (i+1) hf.2 s h
theorem qK{p:PG}{xIx fIx iIx:IE}:∀(l:List FL)(i:Nat),QA p xIx fIx iIx l i=true->∀j (h:j<l.length),K2 p xIx fIx iIx l[j].e (dg (i+j))=true
 | [],_,_,j,h=>by simp at h
 | f::l,i,hf,j,h=>by
  rw[QA,ZB] at hf;unfold ZaY at hf;rw[ZB] at hf
  cases j with
  | zero=>exact hf.1.1
  | succ j =>
   have:=qK l (i+1) hf.2 j (by simpa using h);rw[show i+1+j=i+(j+1) by omega] at this;simpa using this
theorem qN(env':Env):∀(l:List FL)(e:Env)(nm:ByteArray),(VP env' l e nm=some (Jv env' nm)/\∃f∈l,f.nm=nm)\/(VP env' l e nm=e nm/\∀f∈l,f.nm≠nm)
 | [],e,nm=>.inr ⟨rfl,fun f h=>by cases h⟩
 | f::l,e,nm=>by
  rw[VP];rcases qN env' l (upd e f.nm (Jv env' f.nm)) nm with ⟨h1,g,hg,hn⟩|⟨h1,h2⟩
  .exact .inl ⟨h1,g,by simp[hg],hn⟩
  by_cases h:f.nm=nm
  .refine .inl ⟨?_,f,by simp,h⟩;rw[h1];unfold upd;rw[Z1 h.symm,h]
  refine .inr ⟨?_,fun g hg=>?_⟩
  .rw[h1];unfold upd;rw[Z0 (fun h9=>h h9.symm)]
  rcases ZR.1 hg with rfl|hg
  .exact h
  exact h2 g hg
theorem qV:∀(l:List IN)(e:Env),(l.map (·.nm)).Nodup->∀i (h:i<l.length),J9 l e l[i].nm=some (l[i].per,l[i].ph)
 | [],_,_,i,h=>by simp at h
 | x::l,e,hn,i,h=>by
  rw[List.map_cons,List.nodup_cons] at hn;rw[J9]
  cases i with
  | zero =>
   have:∀(l:List IN)(e:Env)(nm:ByteArray),nm∉l.map (·.nm)->J9 l e nm=e nm:=by
    intro l
    induction l with
    | nil=>intro e nm _;rfl
    | cons y l ih =>
     intro e nm h;rw[List.map_cons,ZR,not_or] at h;rw[J9,ih _ _ h.2];unfold upd;rw[Z0 h.1]
   rw[List.getElem_cons_zero,this _ _ _ hn.1];unfold upd;rw[Z1 rfl]
  | succ i =>
   rw[List.getElem_cons_succ];exact qV l _ hn.2 i (by simpa using h)
theorem qR{j:Env}{g:List FL}(h:GrE j g env):∀nm c,env nm=some c->j nm=some c\/∃f∈g,f.nm=nm:=by
 induction h with
 | base=>intro nm c h;exact .inl h
 | step hg hf hn ht ih =>
  intro nm c h;unfold upd at h;split at h
  .rename_i h1
   exact .inr ⟨_,hf,h1.symm⟩
  exact ih nm c h
theorem j6{l:List ByteArray}(h:∀i j (hi:i<l.length) (f:j<l.length),l[i]=l[j]->i=j):l.Nodup:=by
 unfold List.Nodup;rw[List.pairwise_iff_getElem];intro i j hi f m g;have:=h i j hi f g;omega
theorem yx(g:Qv p):(p.ins.map (·.nm)).Nodup:=j6 (fun i j hi hj h=>by
 have hi2:i<p.ins.length:=by simpa using hi
 have f:j<p.ins.length:=by simpa using hj
 have m:=g.ins i hi2;have q:=g.ins j f;simp only[List.getElem_map] at h;rw[h] at m;omega)
theorem j5(g:Qv p):(p.nodes.map (·.nm)).Nodup:=j6 (fun i j hi hj h=>by
 have hi2:i<p.nodes.length:=by simpa using hi
 have f:j<p.nodes.length:=by simpa using hj
 have m:=g.nodes i hi2;have q:=g.nodes j f;simp only[List.getElem_map] at h;rw[h] at m;omega)
theorem eN(hN:Qv p)(h:i<p.ins.length):Xe p.ins p.ins[i].nm=some (p.ins[i].per,p.ins[i].ph):=qV p.ins _ (yx hN) i h
theorem yo(A:Qv p)(z:UR p env)(nm:ByteArray)(h:0<=YT p nm):(env nm).isSome=true:=by
 unfold YT at h
 cases h1:XW IN.nm nm p.ins 0 with
 | some i =>
  obtain⟨j,_,x,v,q⟩:=QS _ _ _ _ _ h1;obtain⟨m,f⟩:=ZA.1 v;have g:=z.ext _ _ (eN A m);rw[f,q] at g;rw[g];rfl
 | none =>
  rw[h1] at h
  cases g:XW FL.nm nm p.flows 0 with
  | some i =>
   obtain⟨j,_,x,v,q⟩:=QS _ _ _ _ _ g;obtain⟨m,f⟩:=ZA.1 v;obtain⟨a,b,_,y⟩:=z.flows _ (Zi m);rw[f,q] at y;rw[y];rfl
  | none=>rw[g] at h;simp at h
theorem ZhD(j:Qv p)(g:UR p env):∀l:PL,nmL p l=true->kL env l=true:=by
 intro l
 induction l with
 | nil=>intro _;rfl
 | cons k nm n d args a tl ih1 ih2 =>
  intro h;rw[nmL,ZB,ZB] at h;rw[kL,ZB,ZB];refine⟨⟨?_,ih1 h.1.2⟩,ih2 h.2⟩;have f:=h.1.1;unfold nm1 at f;rw[Bool.or_eq_true] at f;rcases f with h2|h2
  .rw[h2];rfl
  rw[yo j g nm (Yi h2),Bool.or_true]
theorem Zgc(g:Qv p)(m:UR p env)(h:j<p.flows.length):kE env p.flows[j].e=true:=by
 obtain⟨_,q,v⟩:=g.flows j h;unfold kE;rw[ZB];refine⟨?_,ZhD g m _ (kN _ v)⟩;have f:=Zdr q;unfold nm1 at f;rw[Bool.or_eq_true] at f;rcases f with h4|h4
 .rw[h4];rfl
 rw[yo g m _ (Yi h4),Bool.or_true]
theorem EC(g:UR p env):XD (K1 p env)=XD env:=by
 funext nm;unfold XD K1;rcases qN env p.flows (Xe p.ins) nm with ⟨h1,f,hf,hn⟩|⟨h1,h2⟩
 .rw[h1];rfl
 rw[h1]
 cases he:env nm with
 | none =>
  cases h0:Xe p.ins nm with
  | none=>rfl
  | some c=>rw[g.ext _ _ h0] at he;cases he
 | some c =>
  rcases qR g.gr nm c he with h3|⟨f,hf,hn⟩
  .rw[h3]
  exact absurd hn (h2 f hf)
theorem ZhC(y:Vl p)(v:Qv p)(q:UR p env):Zeg p env (xI p) (fI p) (iI p) (zR p env) where
 ck:=q
 ok:=fun g hg=>by
  obtain⟨j,hj,rfl⟩:=Yl hg;exact⟨(y.flows _ hg).2,Zgc v q hj⟩
 fl:=fun nm j h=>Ub h
 inn:=fun nm c hf he=>by
  rcases qR q.gr nm c he with h3|⟨f,hf2,hn⟩
  .rcases K7 p.ins _ nm (by rw[show J9 p.ins (fun _=>none) nm=some c from h3];simp) with ⟨x,hx,hxn⟩|h4
   .obtain⟨i,hi,rfl⟩:=Yl hx;have h5:=eN v hi;rw[hxn,h3] at h5;have h6:=Ud (p.ins.map (·.nm)) 0 (fun _=>none) (yx v) i (by simpa using hi);rw[List.getElem_map,hxn,ZD] at h6;refine⟨i,h6,?_⟩;show(p.ins.map (fun x=>(x.per,x.ph)))[i]?=some c;rw[List.getElem?_map,Ze hi];exact h5.symm
   exact absurd rfl h4
  have h1:=K8 (p.flows.map (·.nm)) 0 (fun _=>none) nm (Yd.2 ⟨f,hf2,hn⟩);exact absurd hf h1
 il:=by unfold zR;simp
 xx:=fun s hs hk=>by
  have z:s∈YP p.flows 0:=by rw[Jm];exact List.mem_filter.2 ⟨hs,by unfold isC;exact ZZ hk⟩
  obtain⟨j,hj,m⟩:=Yl z;have h6:=Ud ((YP p.flows 0).map Prod.snd) 0 (fun _=>none) (xu p.flows 0) j (by simpa using hj);rw[List.getElem_map,m,ZD] at h6;refine⟨j,zK (tkR p (xI p) (fI p) (iI p) (nI p) (K1 p env) s),h6,?_,?_⟩
  .show((YP p.flows 0).map (fun s=>zK (tkR p (xI p) (fI p) (iI p) (nI p) (K1 p env) s)))[j]?=_;rw[List.getElem?_map,Ze hj,m];rfl
  simp only[zK,tkR,EC q]
theorem eP{f:FD}(h:Zeg p env (xI p) (fI p) (iI p) f)(z:∀e:PE,YE e=true->Xi p.flows p.ins.length (xI p) (fI p) (iI p) e)(v:(e,g)∈XF p.flows 0){m j:Int}(ht:Y0 env e=.ok m j)(A:K2 p (xI p) (fI p) (iI p) e g=true) :
  Xt f ⟨((JW p (xI p) (fI p) (iI p) e g).1:Int),(JW p (xI p) (fI p) (iI p) e g).2.reverse⟩ m j=true:=by
 have C:=(Vv p.flows 0 h.ok h.ck.calls (e,g) v).1;obtain⟨s,x,q,y⟩:=Zb5 h (z e C) v ht A;unfold Xt;simp only;rw[x];simp only;rw[y];rw[List.length_reverse] at q;simp[q]
theorem eV{n lo hi:Int}(h:inB n lo hi=true):lo<=n/\n<=hi:=by
 unfold inB at h;simpa using h
theorem kK(L:Vl p)(J:Qv p)(v:UR p env)(aa:(YP p.flows 0).length<=30)(C:QA p (xI p) (fI p) (iI p) p.flows 0=true):Y3 (zR p env)=true:=by
 have hF:=ZhC L J v;have hE:=G1 L.ok J v;have hT:=GH v.rt p.flows 0 hF.ok v.calls v.flows;rw[ZdL]
 .unfold zR;simpa using aa
 .refine List.all_eq_true.2 (fun c hc=>?_);obtain⟨x,G,rfl⟩:=Yd.1 hc;exact L.ok.ins x G
 .refine List.all_eq_true.2 (fun n hn=>?_);obtain⟨x,G,rfl⟩:=Yd.1 hn;exact ZZ (eV (L.nodes x G).2.2.2.1)
 .refine List.all_eq_true.2 (fun t ht=>?_);obtain⟨s,m,rfl⟩:=Yd.1 ht;have al:=m;rw[Jm] at m;obtain⟨z,hk⟩:=List.mem_filter.1 m;have T:s.1.k=2:=by unfold isC at hk;exact Yi hk
  obtain⟨G,U,ho⟩:=Vv p.flows 0 hF.ok v.calls s z;obtain⟨pp,ff,A⟩:=hT s z;have ac:=Gl G U A;have F:∃i x,nI p s.1.nm=some i/\p.nodes[i]?=some x/\x.ps.length=s.1.args.len:=by
   have q:nd1 p s.1.k s.1.nm s.1.args.len=true:=by
    have key:∀(l:PL)(w:ByteArray)(i:Nat),nqL p l=true->∀s∈YY l w i,nq1 p s.1.k s.1.nm s.1.args.len=true:=by
     intro l
     induction l with
     | nil=>intro w i _ s h;cases h
     | cons k nm n d args a tl ih1 ih2 =>
      intro w i h s m;rw[nqL,ZB,ZB] at h;rw[YY] at m;rcases ZR.1 m with rfl|m
      .exact h.1.1
      rcases List.mem_append.1 m with m|m
      .exact ih1 _ _ h.1.2 s m
      exact ih2 _ _ h.2 s m
    have Y:∀(l:List FL)(i:Nat),(∀f∈l,nq1 p f.e.k f.e.nm f.e.args.len=true/\nqL p f.e.args=true)->∀s∈XF l i,nq1 p s.1.k s.1.nm s.1.args.len=true:=by
     intro l
     induction l with
     | nil=>intro i _ s h;cases h
     | cons f l ih =>
      intro i h s m;rw[XF] at m;rcases List.mem_append.1 m with m|m
      .unfold YX at m;rcases ZR.1 m with rfl|m
       .exact(h f (by simp)).1
       exact key _ _ _ (h f (by simp)).2 s m
      exact ih (i+1) (fun g hg=>h g (by simp[hg])) s m
    have D:=Y p.flows 0 (fun f hf=>by
     obtain⟨j,I,rfl⟩:=Yl hf;exact(J.flows j I).2) s z
    unfold nq1 at D;rw[ZB] at D;exact D.2
   unfold nd1 at q;rw[T] at q;simp only[ne_eq,not_true_eq_false,decide_false,Bool.false_or] at q
   cases D:XW ND.nm s.1.nm p.nodes 0 with
   | none=>rw[D] at q;cases q
   | some i =>
    rw[D] at q;have Z:=Yi q;obtain⟨j,ap,x,H,ao⟩:=QS _ _ _ _ _ D;obtain rfl:i=j:=oq;rw[H] at Z;injection Z with Z
    obtain⟨I,an⟩:=ZA.1 H;have h6:=Ud (p.nodes.map (·.nm)) 0 (fun _=>none) (j5 J) i (by simpa using I);rw[List.getElem_map,an,ao,ZD] at h6;exact⟨i,x,h6,H,Z⟩
  obtain⟨i,x,aj,ak,V⟩:=F;have ab:1<=s.1.args.len:=(VM (Xm G).2 oq).1;unfold JE;simp only[zK,tkR,aj,Z8];rw[Z0 oq,ZQ];have ai:(zR p env).nods[i]?=some (ZbJ x):=by
   show(p.nodes.map ZbJ)[i]?=_;rw[List.getElem?_map,ak];rfl
  rw[ai];simp only[Zo,Va,ZbJ,V,EC v,ac];simp only[decide_true,Bool.true_and];rw[show decide (s.1.args.len≠0)=true from ZZ oq,Bool.true_and];refine List.all_eq_true.2 (fun a ha=>?_);simp only[List.map_map,Yd] at ha;obtain⟨kd,E,rfl⟩:=ha;have O:=yq p.flows 0 C s al;unfold qJ at O;have ag:=List.all_eq_true.1 O kd E;obtain⟨_,_,am⟩:=yk v.rt G U T ho A s.2 kd E;exact eP hF hE (V1 p.flows 0 s z kd E) am ag
 refine List.all_eq_true.2 (fun t ht=>?_);obtain⟨o,ho,rfl⟩:=Yd.1 ht;obtain⟨i,hi,rfl⟩:=Yl ho;obtain⟨j,I,y⟩:=uP (J.outs i hi);obtain⟨_,ah⟩:=Ub I;obtain⟨a,b,A,M⟩:=v.flows _ (Zi y);rw[ah] at M;have X:=V0 p.flows 0 j y;have R:=qK p.flows 0 C j y;rw[ZD] at X R;unfold Ky;rw[ZB];refine⟨ZZ (eV (L.outs _ ho)),?_⟩;have af:flE p j=p.flows[j].e:=by unfold flE;rw[Ze y]
 have ae:XD env p.outs[i].fl=(a,b):=by unfold XD;rw[M];rfl
 simp only[Zd7,tlR,I,Z8,af,EC v,ae];exact eP hF hE X A R
def MdR(x:Ending)(w':World):Prop :=
 x=.returned (.tuple #[.agg #[.slice none 0 0,.slice none 0 0,.slice none 0 0,.slice none 0 0],.bool false])\/∃f ai an aT al ci cn ct cl,x=.returned (.tuple #[fv f ai an aT al ci cn ct cl,.bool true])/\FAP w' f ai an aT al/\Y3 f=true
theorem Zgm{base:Nat}{x:Ending}{w':World}(h:gT p base x w'):MdR x w':=by
 rcases h with h|⟨v,env,hx,hmk,hr,hN,hC,h30,hfew⟩
 .exact .inl h
 have f:=hr.ok;have E:=G1 f hN hC;have g:∀o∈p.outs,∃j,fI p o.fl=some j/\j<p.flows.length:=fun o ho=>by
  obtain⟨i,hi,m⟩:=Yl ho;have:=hN.outs i hi;rw[m] at this;exact uP this
 obtain⟨y,an,q,z,A,C,D,cl,G,F⟩:=ZeW hmk f E h30 g;exact .inr ⟨zR p env,y,an,q,z,A,C,D,cl,by rw[hx,G],F,kK hr hN hC h30 hfew⟩
