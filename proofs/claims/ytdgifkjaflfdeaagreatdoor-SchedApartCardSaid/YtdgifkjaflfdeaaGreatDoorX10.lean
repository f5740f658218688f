/- Parts of the proof. -/
import Derived.Test.YtdgifkjaflfdeaaGreatDoorX08
set_option linter.all false
set_option maxRecDepth 100000
set_option maxHeartbeats 16000000
namespace Go.Proofs.YtdgifkjaflfdeaaGreatDoor.syn
open Tryz
open Go.RowKit
variable {p f k n d:Int}{i:Nat}{w:World}{S:FL->Prop}
theorem yo(j:1<=p/\p<=2000)(m:0<=f)(h:(clock.fin p f).2.2=0):clock.YG (clock.fin p f).1 (clock.fin p f).2.1=true:=by
 unfold clock.fin at h ⊢;by_cases g:f<=2000
 .rw[Z3 g];exact clock.Qd ⟨j.1,j.2,m,g⟩
 rw[Z2 g] at h;cases h
theorem jQ(h:(clock.YD p f k n d).2.2=0):clock.YG (clock.YD p f k n d).1 (clock.YD p f k n d).2.1=true:=by
 unfold clock.YD at h ⊢;by_cases v:clock.YG p f=false\/k<3\/8<k
 .rw[Z3 v] at h;cases h
 rw[Z2 v] at h ⊢;have E:clock.YG p f=true:=by
  cases hb:clock.YG p f with
  | true=>rfl
  | false=>exact absurd (Or.inl hb) v
 have hb:=clock.Xz.1 E;by_cases x:clock.Jz k n d=false
 .rw[Z3 x] at h;cases h
 rw[Z2 x] at h ⊢;have g:clock.Jz k n d=true:=by
  cases hb:clock.Jz k n d with
  | true=>rfl
  | false=>exact absurd hb x
 by_cases y:k=3
 .rw[Z3 y] at h ⊢;have m:=clock.gF (.inl y) g;by_cases j:p%n=0
  .rw[Z3 j];have:=clock.ym hb.1 hb.2.1 m.1 j;exact clock.Qd ⟨this.1,this.2,hb.2.2.1,hb.2.2.2⟩
  rw[Z2 j] at h;cases h
 rw[Z2 y] at h ⊢;by_cases z:k=4
 .rw[Z3 z] at h ⊢;have m:=clock.gF (.inr z) g;by_cases j:p*n<=2000
  .rw[Z3 j];exact clock.Qd ⟨clock.ZcI hb.1 m.1,j,hb.2.2.1,hb.2.2.2⟩
  rw[Z2 j] at h;cases h
 rw[Z2 z] at h ⊢;by_cases A:k=5
 .rw[Z3 A] at h ⊢;subst A;have m:=clock.Zg2 g;by_cases j:p*n%d=0
  .rw[Z3 j] at h ⊢;have q:0<=p*n:=Int.mul_nonneg oq m.2.2.1;have C:0<=p*n/d:=Int.ediv_nonneg q oq;exact yo ⟨hb.1,hb.2.1⟩ oq h
  rw[Z2 j] at h;cases h
 rw[Z2 A] at h ⊢;by_cases q:k=6
 .rw[Z3 q];exact E
 rw[Z2 q] at h ⊢;by_cases C:k=7
 .rw[Z3 C] at h ⊢;exact yo ⟨hb.1,hb.2.1⟩ oq h
 rw[Z2 C] at h ⊢;by_cases D:p<=f
 .rw[Z3 D];show clock.YG p (f-p)=true;exact clock.Qd ⟨hb.1,hb.2.1,oq,oq⟩
 rw[Z2 D] at h;cases h
def RtE(env:Env):Prop:=∀nm c,env nm=some c->clock.YG c.1 c.2=true
theorem Gp{env:Env}(h:RtE env){nm:ByteArray}{n d a:Int}{s:TT}(q:∀p f,s=.ok p f->clock.YG p f=true)(ht:Xg env k nm n d a s=.ok p f):clock.YG p f=true:=by
 unfold Xg at ht;by_cases m:k=1
 .rw[Z3 m] at ht
  cases he:env nm with
  | none=>rw[he] at ht;cases ht
  | some c =>
   rw[he] at ht;injection ht with h1 h2
   rw[<-h1,<-h2];exact h nm c he
 rw[Z2 m] at ht
 cases s with
 | unk=>cases ht
 | bad a e=>cases ht
 | ok p0 f0 =>
  simp only at ht;by_cases g:k=2
  .rw[Z3 g] at ht;exact q p f ht
  rw[Z2 g] at ht;by_cases j:(clock.YD p0 f0 k n d).2.2=0
  .rw[Z3 j] at ht;injection ht with h1 h2
   rw[<-h1,<-h2];exact jQ j
  rw[Z2 j] at ht;cases ht
theorem va{env:Env}(h:RtE env):∀(l:PL)(p f:Int),YU env l=.ok p f->clock.YG p f=true:=by
 intro l
 induction l with
 | nil=>intro p f ht;cases ht
 | cons k nm n d args a tl ih1 ih2 =>
  intro p f ht;rw[YU] at ht
  cases h1:Xg env k nm n d a (YU env args) with
  | unk=>rw[h1] at ht;exact ih2 p f ht
  | bad ab eb=>rw[h1] at ht;cases ht
  | ok p1 f1 =>
   rw[h1] at ht;injection ht with e1 e2
   subst e1;subst e2;exact Gp h ih1 h1
theorem VU{env:Env}(h:RtE env){e:PE}(ht:YY env e=.ok p f):clock.YG p f=true:=Gp h (va h e.args) ht
def ZdM(a b:Env):Prop:=∀nm c,a nm=some c->b nm=some c
def unf(env:Env):List FL->Nat
 | []=>0
 | f::fs=>(if env f.nm=none then 1 else 0)+unf env fs
theorem Ze2(env:Env)(k:ByteArray)(c:Int × Int):∀fs:List FL,unf (upd env k c) fs<=unf env fs:=by
 intro fs
 induction fs with
 | nil=>exact Zc _
 | cons f fs ih =>
  unfold unf;have:(if upd env k c f.nm=none then 1 else 0)<=(if env f.nm=none then 1 else 0):=by
   unfold upd;by_cases h:f.nm=k
   .rw[Z3 h];simp
   rw[Z2 h];exact Zc _
  omega
theorem Zbe(env:Env)(k:ByteArray)(c:Int × Int)(x:env k=none):∀fs:List FL,(∃f∈fs,f.nm=k)->unf (upd env k c) fs+1<=unf env fs:=by
 intro fs
 induction fs with
 | nil=>rintro⟨f,v,_⟩;cases v
 | cons f fs ih =>
  rintro⟨g,m,j⟩;unfold unf;by_cases h:f.nm=k
  .have y:(if upd env k c f.nm=none then 1 else 0)=0:=by unfold upd;rw[Z3 h];simp
   have z:(if env f.nm=none then 1 else 0)=1:=by rw[h,x];simp
   have A:=Ze2 env k c fs;omega
  have q:∃f∈fs,f.nm=k:=by
   rcases ZS.1 m with rfl|m
   .exact absurd j h
   exact⟨g,m,j⟩
  have C:=ih q;have:(if upd env k c f.nm=none then 1 else 0)=(if env f.nm=none then 1 else 0):=by
   unfold upd;rw[Z2 h]
  omega
theorem Zgv(env:Env):∀fs:List FL,unf env fs<=fs.length:=by
 intro fs
 induction fs with
 | nil=>exact Zc _
 | cons f fs ih=>unfold unf;rw[Zp];split<;>omega
inductive GrE (Xb:Env) (flows:List FL):Env->Prop where
 | base:GrE Xb flows Xb
 | step {env:Env} {f:FL} {p q:Int}:GrE Xb flows env->f∈flows->env f.nm=none->YY env f.e=.ok p q->GrE Xb flows (upd env f.nm (p,q))
structure FG (Xb:Env) (n0:Nat) (flows:List FL) (env:Env) (L:List (ByteArray × Value)):Prop where
 gr:GrE Xb flows env
 ext:ZdM Xb env
 rt:RtE env
 cnt:L.length+unf env flows<=n0+flows.length
theorem FG.put{Xb:Env}{m:Nat}{f:List FL}{env:Env}{L:List (ByteArray × Value)}(h:FG Xb m f env L)(hi:i<f.length)(j:env f[i].nm=none)(x:Xm f[i].nm L=none){c:Int × Int}(ht:YY env f[i].e=.ok c.1 c.2)(q:clock.YG c.1 c.2=true)(v:Value) :
  FG Xb m f (upd env f[i].nm c) (JB f[i].nm v L):=by
 refine⟨.step h.gr (Zi hi) j ht,fun nm d hd=>?_,fun nm d hd=>?_,?_⟩
 .unfold upd;have:=h.ext nm d hd;by_cases g:nm=f[i].nm
  .rw[g,j] at this;cases this
  rw[Z2 g];exact this
 .unfold upd at hd;by_cases g:nm=f[i].nm
  .rw[Z3 g] at hd;injection hd with hd;rw[<-hd];exact q
  rw[Z2 g] at hd;exact h.rt nm d hd
 rw[jK _ _ _ x];have:=Zbe env f[i].nm c j f ⟨_,Zi hi,rfl⟩;have:=h.cnt;omega
def Zhm(W0 w:World)(mb:Nat)(L0:List (ByteArray × Value))(Xb:Env)(flows:List FL)(v:Value)(wr:World):Prop :=
 ∃(b:Bool)(env:Env)(L:List (ByteArray × Value)),v=.bool b/\FW W0 w wr mb L env/\FG Xb L0.length flows env L
def InG(W0 w:World)(mb:Nat)(L0:List (ByteArray × Value))(Xb:Env)(flows:List FL)(n1:Nat)(v6 v15:Value)(wr:World):Prop :=
 ∃(i:Nat)(b:Bool)(env:Env)(L:List (ByteArray × Value)),v15=.int .i64 (i:Int)/\v6=.bool b/\i<=flows.length/\FW W0 w wr mb L env/\FG Xb L0.length flows env L/\n1+(isT (.bool b))<=L.length
def ZgG(Xb:Env)(flows:List FL)(mb:Nat)(w:World)(x:Ending)(w':World):Prop :=
 ((∃a e,e≠0/\x=.returned (.tuple #[.int .i64 a,.int .i64 e]))\/(x=Ul/\∃L env,YT w' mb L/\XW L env/\RtE env/\ZdM Xb env/\GrE Xb flows env))/\Upon mb w w'
theorem bZ100{p:Prop}(h:p:=by repeat (first|(with_reducible exact Upon.refl _ _)|((with_reducible refine Upon.setAt ?_ ?_ _);(rotate_left;focus (first|exact Or.inl rfl|omega|(simp;done)|(simp;omega))))|(with_reducible refine Upon.alloc ?_ _)|(with_reducible refine Upon.drewN ?_ _)|(with_reducible refine Upon.drew ?_)|(with_reducible refine Upon.trans ?_ (Upon.of_below hb2))|(with_reducible refine Upon.trans ?_ j.o.upon))):p:=h
theorem Zb4{W0 w:World}(g:List FL)(af:OA)(cf mb:Nat)(J:List (ByteArray × Value))(Xb:Env)(hW:Below W0.1.size W0 w)(ar:W0.1.size<=mb)(hr:Row FlC 8 W0 g af)(ao:g.length<=cf)(O:cf<=9223372036854775807)
  (hM:YT w mb J)(hE:XW J Xb)(ah:RtE Xb) :
  Calls prog 76 #[.map (some mb),.slice af g.length cf] w (ZgG Xb g mb w):=by
 have HW:=hid hW;have HR:=hid hr;have ac:=hid (show FW W0 w w mb J Xb from ⟨Upon.refl _ _,hM,hE⟩);have aa:=hid (show FG Xb J.length g Xb J from ⟨.base,fun _ _ h=>h,ah,by have:=Zgv Xb g;omega⟩);have ay:=hM.lt;have ap:g.length<=9223372036854775807:=Zm ao O;clear hW hr hM hE ah;go_enter func76,ntmps76;go_wp2;go_loopw [6] (fun v wr=>Hid (Zhm W0 w mb J Xb g v wr)) (fun v wr=>J.length+g.length+1-qQ wr mb+isT v)
 case atStart=>exact⟨true,Xb,J,rfl,ac.o,aa.o⟩
 obtain⟨b,env,L,rfl,m,C⟩:=hrel.o;clear hrel;have au:qQ wr mb=L.length:=m.map.size;have ai:=C.cnt;have E:=hid m;have F:=hid C;clear m C
 cases b with
 | false =>
  go_wp2;go_ret2;exact⟨.inr ⟨rfl,L,env,E.o.map,E.o.env,F.o.rt,F.o.ext,F.o.gr⟩,E.o.upon⟩
 | true =>
  obtain⟨n1,Y⟩:=ez L.length;rw[Y] at au ai;have ae:=hid Y;clear Y;obtain⟨wo,bh⟩:=ey wr;go_wp2;go_loopw [6,15] (fun v6 v15 wr=>Hid (InG W0 w mb J Xb g n1 v6 v15 wr)) (fun _ i _=>g.length-(intOf i).toNat)
  case atStart=>exact⟨0,false,env,L,rfl,rfl,Zk _,E.o,F.o,by have:=ae.o;simp only[isT];omega⟩
  clear E F ae;obtain⟨i,b,env,L,rfl,rfl,hi,m,C,R⟩:=hrel.o;clear hrel;have j:=hid m;have A:=hid C;have V:=hid R;have ax:qQ wr mb=L.length:=m.map.size;have bg:w.1.size<=wr.1.size:=m.upon.size;have aw:=m.map.lt;clear C;by_cases al:i<g.length
  .have G:=HR.o.below Vs (HW.o.trans (j.o.upon.below HW.o.size ar));obtain⟨bb,oo,rfl,ba,ak⟩:=G.at al;have z:=A.o.put al;obtain⟨f,hf⟩:=ez (g[i]);rw[hf] at ak z;obtain⟨D,⟨k1,nm1,T,d1,y,a1⟩,fa⟩:=f;obtain⟨az,av,x0,x1,x2,x3,x4,x5,x6,x7,M,be⟩:=ak.cells;simp only at z M;have bf:(i:Int)<(g.length:Int):=oq
   cases hen:env D with
   | some c =>
    obtain⟨c1,c2⟩:=c;have Z:=hid (show Xm D L=some (.agg #[.int .i64 c1,.int .i64 c2]) by rw[m.env D,hen];rfl);clear m G M hen z R;go_wp2_with (at_lookup;refine X0 Xy _ rfl _ _ rfl mb L D _ rfl rfl (j.o.map.below bq) Z.o ?_);refine⟨⟨i+1,b,env,L,by go_num,rfl,oq,⟨bZ100,j.o.map.below bq,j.o.env⟩,A.o,V.o⟩,by simp[intOf];omega⟩
   | none =>
    have X:Xm D L=none:=by rw[m.env D,hen];rfl
    have Z:=hid X;have ag:=hid (fun(c:Int × Int) (ht) (hc:clock.YG c.1 c.2=true) (v:Value)=>z hen X (c:=c) ht hc v);have I:=hid (zk m.env ⟨k1,nm1,T,d1,y,a1⟩);have HE:=hid M;have hgd:=Ux env ⟨k1,nm1,T,d1,y,a1⟩;have H:=fun p f=>VU (e:=⟨k1,nm1,T,d1,y,a1⟩) (p:=p) (f:=f) A.o.rt
    unfold QX at I;simp only at I;clear m G M hen X z R;generalize htt:YY env ⟨k1,nm1,T,d1,y,a1⟩=t at hgd H I;have an:=hid htt;clear htt
    cases t with
    | unk =>
     simp only[TT.v] at I;clear hgd H;go_wp2_with (first|(at_lookup;refine Xp Xy _ rfl _ _ rfl mb L D rfl rfl (j.o.map.below bq) Z.o ?_)|(go_at_call 133;(with_reducible refine(I.o _ _ _ _ (HE.o.below bq) (j.o.map.below bq)).mono ?_);rintro x U ⟨rfl,hb2⟩;obtain⟨O,aj⟩:=YE hb2;have a2:wr.1.size<U.1.size:=Yz hb2 oq;have a3:wr.1.size+1<U.1.size:=Yz hb2 oq));refine⟨⟨i+1,b,env,L,by go_num,rfl,oq,⟨bZ100,j.o.map.below bq,j.o.env⟩,A.o,V.o⟩,by simp[intOf];omega⟩
    | bad ab eb =>
     simp only[TT.v] at I;have bd:(eb == 0)=false:=ZZ.2 hgd;clear H;go_wp2_with (first|(at_lookup;refine Xp Xy _ rfl _ _ rfl mb L D rfl rfl (j.o.map.below bq) Z.o ?_)|(go_at_call 133;(with_reducible refine(I.o _ _ _ _ (HE.o.below bq) (j.o.map.below bq)).mono ?_);rintro x U ⟨rfl,hb2⟩;obtain⟨O,aj⟩:=YE hb2;have a2:wr.1.size<U.1.size:=Yz hb2 oq;have a3:wr.1.size+1<U.1.size:=Yz hb2 oq));go_quiet (fail);go_wp2;go_ret2;exact⟨.inl ⟨ab,eb,hgd,rfl⟩,bZ100⟩
    | ok p q =>
     simp only[TT.v] at I;have am:=hid (H p q rfl);clear hgd H;go_wp2_with (first|(at_lookup;refine Xp Xy _ rfl _ _ rfl mb L D rfl rfl (j.o.map.below bq) Z.o ?_)|(go_at_call 133;(with_reducible refine(I.o _ _ _ _ (HE.o.below bq) (j.o.map.below bq)).mono ?_);rintro x U ⟨rfl,hb2⟩;obtain⟨O,aj⟩:=YE hb2;have a2:wr.1.size<U.1.size:=Yz hb2 oq;have a3:wr.1.size+1<U.1.size:=Yz hb2 oq)|(at_mapUpdate;refine XE Xy _ rfl _ _ _ rfl mb L D (cvv (p,q)) rfl rfl rfl (j.o.map.below bq) ?_;intro arr clock aq));refine⟨?_,by simp[intOf];omega⟩;refine⟨i+1,true,upd env D (p,q),_,by go_num,rfl,oq,⟨YR bZ100 _,aq,j.o.env.put D (p,q)⟩,ag.o (p,q) an.o am.o _,?_⟩;rw[jK _ _ _ Z.o];have:=V.o;simp only[isT];omega
  have bc:=A.o.cnt;clear m;go_wp2;refine⟨⟨b,env,L,rfl,j.o,A.o⟩,?_⟩
  cases b<;>simp only[isT] at R ⊢<;>omega
def yz(x:Ending):Prop:=∃a e,e≠0/\x=.returned (.tuple #[.int .i64 a,.int .i64 e])
def FdS(env:Env)(f:FL):Prop:=∃c,env f.nm=some c
def Ze7(w:World)(flows:List FL)(S:FL->Prop)(v:Value)(wr:World):Prop:=∃i:Nat,v=.int .i64 (i:Int)/\i<=flows.length/\(∀j (h:j<flows.length),j<i->S flows[j])/\Below w.1.size w wr
theorem yu{f:List FL}(h:∀j (g:j<f.length),j<i->S f[j])(hi:∀g:i<f.length,S f[i]):∀j (g:j<f.length),j<i+1->S f[j]:=by
 intro j g q;by_cases m:j<i
 .exact h j g m
 have:j=i:=oq;subst this;exact hi g
theorem vh{g:List FL}(h:∀j (m:j<g.length),j<i->S g[j])(hi:g.length<=i):∀f∈g,S f:=by
 intro f q;obtain⟨j,m,rfl⟩:=Yn q;exact h j m oq
theorem yG(g:List FL)(O:OA)(E mb:Nat)(L:List (ByteArray × Value))(env:Env)(X:Row FlC 8 w g O)(F:g.length<=E)(G:E<=9223372036854775807)
  (U:YT w mb L)(T:XW L env) :
  Calls prog 77 #[.map (some mb),.slice O g.length E] w fun x w'=>(yz x\/(x=Ul/\∀f∈g,FdS env f))/\Below w.1.size w w':=by
 have Z:=hid X;have J:=hid U;have H:g.length<=9223372036854775807:=Zm F G;clear X U;go_enter func77,ntmps77;go_wp2;go_loopw [12] (fun v wr=>Hid (Ze7 w g (FdS env) v wr)) (fun i _=>g.length-(intOf i).toNat)
 case atStart=>exact⟨0,rfl,Zk _,fun j hj h=>absurd h oq,bq⟩
 obtain⟨i,rfl,hi,V,hbel⟩:=hrel.o;clear hrel;have HBEL:=hid hbel;have M:=hid V;have ag:=hbel.size;clear V;by_cases I:i<g.length
 .have q:=Z.o.below Vs hbel;obtain⟨bb,oo,rfl,ab,A⟩:=q.at I;have m:=hid (fun h:FdS env g[i]=>yu (S:=FdS env) M.o (fun _=>h));obtain⟨f,hf⟩:=ez (g[i]);rw[hf] at A m;obtain⟨y,⟨k1,nm1,n1,d1,D,a1⟩,fa⟩:=f;obtain⟨aa,R,x0,x1,x2,x3,x4,x5,x6,x7,z,ac⟩:=A.cells
  try simp only at m
  have ae:(i:Int)<(g.length:Int):=oq
  cases hc:env y with
  | some c =>
   obtain⟨c1,c2⟩:=c;have C:=hid (show Xm y L=some (.agg #[.int .i64 c1,.int .i64 c2]) by rw[T y,hc];rfl);have Y:=hid (m.o (show FdS env _ from ⟨_,hc⟩));clear hbel q z hc m;go_wp2_with (at_lookup;refine X0 Xy _ rfl _ _ rfl mb L y _ rfl rfl (J.o.below bq) C.o ?_);refine⟨⟨i+1,by go_num,oq,Y.o,bq⟩,by simp[intOf];omega⟩
  | none =>
   have C:=hid (show Xm y L=none by rw[T y,hc];rfl);clear hbel q z hc m;go_wp2_with (at_lookup;refine Xp Xy _ rfl _ _ rfl mb L y rfl rfl (J.o.below bq) C.o ?_);go_ret2;exact⟨.inl ⟨fa,6,by decide,rfl⟩,bq⟩
 go_wp2;go_ret2;exact⟨.inr ⟨rfl,vh (S:=FdS env) (i:=i) M.o oq⟩,HBEL.o⟩
def FcS(env:Env)(f:FL):Prop:=∃p q,YY env f.e=.ok p q/\env f.nm=some (p,q)
theorem yF(g:List FL)(af:OA)(cf mb:Nat)(L:List (ByteArray × Value))(env:Env)(hr:Row FlC 8 w g af)(ak:g.length<=cf)(D:cf<=9223372036854775807)
  (hM:YT w mb L)(hE:XW L env)(hA:∀f∈g,∃c,env f.nm=some c)(aa:RtE env) :
  Calls prog 79 #[.map (some mb),.slice af g.length cf] w fun x w'=>(yz x\/(x=Ul/\∀f∈g,FcS env f))/\Below w.1.size w w':=by
 have HR:=hid hr;have HM:=hid hM;have HA:=hid hA;have ai:=hid aa;have al:g.length<=9223372036854775807:=Zm ak D;clear hr hM hA aa;go_enter func79,ntmps79;go_wp2;go_loopw [10] (fun v wr=>Hid (Ze7 w g (FcS env) v wr)) (fun i _=>g.length-(intOf i).toNat)
 case atStart=>exact⟨0,rfl,Zk _,fun j hj h=>absurd h oq,bq⟩
 obtain⟨i,rfl,hi,hS,hbel⟩:=hrel.o;clear hrel;have HBEL:=hid hbel;have HS:=hid hS;have ar:=hbel.size;clear hS;by_cases ah:i<g.length
 .have I:=HR.o.below Vs hbel;obtain⟨bb,oo,rfl,an,ag⟩:=I.at ah;obtain⟨c,O⟩:=HA.o g[i] (Zi ah);have z:=hid (fun h:FcS env g[i]=>yu (S:=FcS env) HS.o (fun _=>h));obtain⟨f,hf⟩:=ez (g[i]);rw[hf] at ag O z;obtain⟨nm,⟨k1,nm1,n1,X,m,U⟩,M⟩:=f;obtain⟨aj,V,x0,x1,x2,x3,x4,x5,x6,x7,ac,ao⟩:=ag.cells;simp only at O;obtain⟨c1,c2⟩:=c;have E:=clock.Xz.1 (ai.o nm (c1,c2) O);simp only at E;have hg:Xm nm L=some (.agg #[.int .i64 c1,.int .i64 c2]):=by rw[hE nm,O];rfl
  have T:=hid hg;have J:=HM.o.below hbel;have aq:=J7 (w:=(wr.alloc (Obj.cells #[.string nm,.int .i64 k1,.string nm1,.int .i64 n1,.int .i64 X,.slice aj m.len V,.int .i64 U,.int .i64 M] 155)).drew) (J.below bq) hg;have F:=hid (zk hE ⟨k1,nm1,n1,X,m,U⟩);have R:=hid ac;unfold QX at F;simp only at F;have A:∀p q,YY env ⟨k1,nm1,n1,X,m,U⟩=.ok p q->(p=c1/\q=c2)->FcS env ⟨nm,⟨k1,nm1,n1,X,m,U⟩,M⟩:=fun p q Y Z=>⟨p,q,Y,by rw[Z.1,Z.2];exact O⟩
  have ap:(i:Int)<(g.length:Int):=oq;have y:=hid J;clear hbel I ac O hg J;generalize htt:YY env ⟨k1,nm1,n1,X,m,U⟩=t at F A
  cases t with
  | unk =>
   simp only[TT.v] at F;have ae:=fun w=>Uz w 0 0 0 0 false
   have am:¬(0:Int)=c1:=oq;clear A z htt E;go_wp2;go_region_with (go_at_call 133;(with_reducible refine(F.o _ _ _ _ (R.o.below bq) (y.o.below bq)).mono ?_);rintro x C ⟨rfl,hb2⟩;obtain⟨D,G⟩:=YE hb2;have a2:wr.1.size<C.1.size:=Yz hb2 oq;have H:=J7 (w:=C) (y.o.below bq) T.o)
   all_goals go_wp2
   all_goals (go_ret2;exact⟨.inl ⟨M,5,by decide,rfl⟩,bq⟩)
  | bad ab eb =>
   simp only[TT.v] at F;have ae:=fun w=>Uz w 0 0 ab eb false
   have am:¬(0:Int)=c1:=oq;clear A z htt E;go_wp2;go_region_with (go_at_call 133;(with_reducible refine(F.o _ _ _ _ (R.o.below bq) (y.o.below bq)).mono ?_);rintro x C ⟨rfl,hb2⟩;obtain⟨D,G⟩:=YE hb2;have a2:wr.1.size<C.1.size:=Yz hb2 oq;have H:=J7 (w:=C) (y.o.below bq) T.o)
   all_goals go_wp2
   all_goals (go_ret2;exact⟨.inl ⟨M,5,by decide,rfl⟩,bq⟩)
  | ok p q =>
   simp only[TT.v] at F;have ae:=fun w=>Uz w p q 0 0 true
   by_cases Y:p=c1
   .by_cases Z:q=c2
    .have HN:=hid (z.o (A p q rfl ⟨Y,Z⟩));subst Y;subst Z;clear A z htt E;go_wp2;go_region_with (go_at_call 133;(with_reducible refine(F.o _ _ _ _ (R.o.below bq) (y.o.below bq)).mono ?_);rintro x C ⟨rfl,hb2⟩;obtain⟨D,G⟩:=YE hb2;have a2:wr.1.size<C.1.size:=Yz hb2 oq;have H:=J7 (w:=C) (y.o.below bq) T.o)
     all_goals go_wp2
     all_goals refine⟨⟨i+1,by go_num,oq,HN.o,bq⟩,by simp[intOf];omega⟩
    subst Y;clear A z htt E;go_wp2;go_region_with (go_at_call 133;(with_reducible refine(F.o _ _ _ _ (R.o.below bq) (y.o.below bq)).mono ?_);rintro x C ⟨rfl,hb2⟩;obtain⟨D,G⟩:=YE hb2;have a2:wr.1.size<C.1.size:=Yz hb2 oq;have H:=J7 (w:=C) (y.o.below bq) T.o)
    all_goals go_wp2
    all_goals (go_ret2;exact⟨.inl ⟨M,5,by decide,rfl⟩,bq⟩)
   clear A z htt E;go_wp2;go_region_with (go_at_call 133;(with_reducible refine(F.o _ _ _ _ (R.o.below bq) (y.o.below bq)).mono ?_);rintro x C ⟨rfl,hb2⟩;obtain⟨D,G⟩:=YE hb2;have a2:wr.1.size<C.1.size:=Yz hb2 oq;have H:=J7 (w:=C) (y.o.below bq) T.o)
   all_goals go_wp2
   all_goals (go_ret2;exact⟨.inl ⟨M,5,by decide,rfl⟩,bq⟩)
 go_wp2;go_ret2;exact⟨.inr ⟨rfl,vh (S:=FcS env) (i:=i) HS.o oq⟩,HBEL.o⟩
