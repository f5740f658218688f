/- Parts of the proof. -/
import Derived.Test.YtdgifkjaflfdeaaGreatDoorV08
set_option linter.all false
set_option maxRecDepth 100000
set_option maxHeartbeats 16000000
namespace Go.Proofs.YtdgifkjaflfdeaaGreatDoor.syn
open Tryz
open Go.RowKit
theorem zU{p f:Int}(j:1≤p∧p≤2000)(m:0≤f)(h:(clock.fin p f).2.2=0):clock.YD (clock.fin p f).1 (clock.fin p f).2.1=true:=by
 unfold clock.fin at h ⊢;by_cases g:f≤2000
 ·rw[Z0 g];exact clock.X7 ⟨j.1,j.2,m,g⟩
 rw[ZZ g] at h;cases h
theorem jO{p f k n d:Int}(h:(clock.YE p f k n d).2.2=0):clock.YD (clock.YE p f k n d).1 (clock.YE p f k n d).2.1=true:=by
 unfold clock.YE at h ⊢;by_cases v:clock.YD p f=false∨k<3∨8<k
 ·rw[Z0 v] at h;cases h
 rw[ZZ v] at h ⊢;have E:clock.YD p f=true:=by
  cases hb:clock.YD p f with
  | true=>rfl
  | false=>exact absurd (Or.inl hb) v
 have hb:=clock.XO.1 E;by_cases x:clock.QX k n d=false
 ·rw[Z0 x] at h;cases h
 rw[ZZ x] at h ⊢;have g:clock.QX k n d=true:=by
  cases hb:clock.QX k n d with
  | true=>rfl
  | false=>exact absurd hb x
 by_cases y:k=3
 ·rw[Z0 y] at h ⊢;have m:=clock.k6 (.inl y) g;by_cases j:p%n=0
  ·rw[Z0 j];have:=clock.zS hb.1 hb.2.1 m.1 j;exact clock.X7 ⟨this.1,this.2,hb.2.2.1,hb.2.2.2⟩
  rw[ZZ j] at h;cases h
 rw[ZZ y] at h ⊢;by_cases z:k=4
 ·rw[Z0 z] at h ⊢;have m:=clock.k6 (.inr z) g;by_cases j:p*n≤2000
  ·rw[Z0 j];exact clock.X7 ⟨clock.Zcm hb.1 m.1,j,hb.2.2.1,hb.2.2.2⟩
  rw[ZZ j] at h;cases h
 rw[ZZ z] at h ⊢;by_cases A:k=5
 ·rw[Z0 A] at h ⊢;subst A;have m:=clock.ZgJ g;by_cases j:p*n%d=0
  ·rw[Z0 j] at h ⊢;have q:0≤p*n:=Int.mul_nonneg oq m.2.2.1;have C:0≤p*n/d:=Int.ediv_nonneg q oq;exact zU ⟨hb.1,hb.2.1⟩ oq h
  rw[ZZ j] at h;cases h
 rw[ZZ A] at h ⊢;by_cases q:k=6
 ·rw[Z0 q];exact E
 rw[ZZ q] at h ⊢;by_cases C:k=7
 ·rw[Z0 C] at h ⊢;exact zU ⟨hb.1,hb.2.1⟩ oq h
 rw[ZZ C] at h ⊢;by_cases D:p≤f
 ·rw[Z0 D];show clock.YD p (f-p)=true;exact clock.X7 ⟨hb.1,hb.2.1,oq,oq⟩
 rw[ZZ D] at h;cases h
def RtE(env:Env):Prop:=∀nm c,env nm=some c→clock.YD c.1 c.2=true
theorem Gf{env:Env}(h:RtE env){k:Int}{nm:ByteArray}{n d a:Int}{s:TT}(q:∀p f,s=.ok p f→clock.YD p f=true){p f:Int}(ht:Xe env k nm n d a s=.ok p f):clock.YD p f=true:=by
 unfold Xe at ht;by_cases m:k=1
 ·rw[Z0 m] at ht
  cases he:env nm with
  | none=>rw[he] at ht;cases ht
  | some c =>
   rw[he] at ht;injection ht with h1 h2
   rw[←h1,←h2];exact h nm c he
 rw[ZZ m] at ht
 cases s with
 | unk=>cases ht
 | bad a e=>cases ht
 | ok p0 f0 =>
  simp only at ht;by_cases g:k=2
  ·rw[Z0 g] at ht;exact q p f ht
  rw[ZZ g] at ht;by_cases j:(clock.YE p0 f0 k n d).2.2=0
  ·rw[Z0 j] at ht;injection ht with h1 h2
   rw[←h1,←h2];exact jO j
  rw[ZZ j] at ht;cases ht
theorem jX{env:Env}(h:RtE env):∀(l:PL)(p f:Int),YS env l=.ok p f→clock.YD p f=true:=by
 intro l
 induction l with
 | nil=>intro p f ht;cases ht
 | cons k nm n d args a tl ih1 ih2 =>
  intro p f ht;rw[YS] at ht
  cases h1:Xe env k nm n d a (YS env args) with
  | unk=>rw[h1] at ht;exact ih2 p f ht
  | bad ab eb=>rw[h1] at ht;cases ht
  | ok p1 f1 =>
   rw[h1] at ht;injection ht with e1 e2
   subst e1;subst e2;exact Gf h ih1 h1
theorem VN{env:Env}(h:RtE env){e:PE}{p f:Int}(ht:YY env e=.ok p f):clock.YD p f=true:=Gf h (jX h e.args) ht
def Zdm(a b:Env):Prop:=∀nm c,a nm=some c→b nm=some c
def unf(env:Env):List FL→Nat
 | []=>0
 | f::fs=>(if env f.nm=none then 1 else 0)+unf env fs
theorem ZeE(env:Env)(k:ByteArray)(c:Int × Int):∀fs:List FL,unf (upd env k c) fs≤unf env fs:=by
 intro fs
 induction fs with
 | nil=>exact Zc _
 | cons f fs ih =>
  unfold unf;have:(if upd env k c f.nm=none then 1 else 0)≤(if env f.nm=none then 1 else 0):=by
   unfold upd;by_cases h:f.nm=k
   ·rw[Z0 h];simp
   rw[ZZ h];exact Zc _
  omega
theorem ZaZ(env:Env)(k:ByteArray)(c:Int × Int)(x:env k=none):∀fs:List FL,(∃f∈fs,f.nm=k)→unf (upd env k c) fs+1≤unf env fs:=by
 intro fs
 induction fs with
 | nil=>rintro⟨f,v,_⟩;cases v
 | cons f fs ih =>
  rintro⟨g,m,j⟩;unfold unf;by_cases h:f.nm=k
  ·have y:(if upd env k c f.nm=none then 1 else 0)=0:=by unfold upd;rw[Z0 h];simp
   have z:(if env f.nm=none then 1 else 0)=1:=by rw[h,x];simp
   have A:=ZeE env k c fs;omega
  have q:∃f∈fs,f.nm=k:=by
   rcases ZQ.1 m with rfl|m
   ·exact absurd j h
   exact⟨g,m,j⟩
  have C:=ih q;have:(if upd env k c f.nm=none then 1 else 0)=(if env f.nm=none then 1 else 0):=by
   unfold upd;rw[ZZ h]
  omega
theorem Zf7(env:Env):∀fs:List FL,unf env fs≤fs.length:=by
 intro fs
 induction fs with
 | nil=>exact Zc _
 | cons f fs ih=>unfold unf;rw[Zp];split<;>omega
inductive GrE (Xa:Env) (flows:List FL):Env→Prop where
 | base:GrE Xa flows Xa
 | step {env:Env} {f:FL} {p q:Int}:GrE Xa flows env→f∈flows→env f.nm=none→YY env f.e=.ok p q→GrE Xa flows (upd env f.nm (p,q))
structure FG (Xa:Env) (n0:Nat) (flows:List FL) (env:Env) (L:List (ByteArray × Value)):Prop where
 gr:GrE Xa flows env
 ext:Zdm Xa env
 rt:RtE env
 cnt:L.length+unf env flows≤n0+flows.length
theorem FG.put{Xa:Env}{m:Nat}{f:List FL}{env:Env}{L:List (ByteArray × Value)}(h:FG Xa m f env L){i:Nat}(hi:i<f.length)(j:env f[i].nm=none)(x:Xb f[i].nm L=none){c:Int × Int}(ht:YY env f[i].e=.ok c.1 c.2)(q:clock.YD c.1 c.2=true)(v:Value) :
  FG Xa m f (upd env f[i].nm c) (Jo f[i].nm v L):=by
 refine⟨.step h.gr (Zi hi) j ht,fun nm d hd=>?_,fun nm d hd=>?_,?_⟩
 ·unfold upd;have:=h.ext nm d hd;by_cases g:nm=f[i].nm
  ·rw[g,j] at this;cases this
  rw[ZZ g];exact this
 ·unfold upd at hd;by_cases g:nm=f[i].nm
  ·rw[Z0 g] at hd;injection hd with hd;rw[←hd];exact q
  rw[ZZ g] at hd;exact h.rt nm d hd
 rw[jJ _ _ _ x];have:=ZaZ env f[i].nm c j f ⟨_,Zi hi,rfl⟩;have:=h.cnt;omega
def Zg6(W0 w:World)(mb:Nat)(L0:List (ByteArray × Value))(Xa:Env)(flows:List FL)(v:Value)(wr:World):Prop :=
 ∃(b:Bool)(env:Env)(L:List (ByteArray × Value)),v=.bool b∧FW W0 w wr mb L env∧FG Xa L0.length flows env L
def InG(W0 w:World)(mb:Nat)(L0:List (ByteArray × Value))(Xa:Env)(flows:List FL)(n1:Nat)(v6 v15:Value)(wr:World):Prop :=
 ∃(i:Nat)(b:Bool)(env:Env)(L:List (ByteArray × Value)),v15=.int .i64 (i:Int)∧v6=.bool b∧i≤flows.length∧FW W0 w wr mb L env∧FG Xa L0.length flows env L∧n1+(isT (.bool b))≤L.length
def Zgk(Xa:Env)(flows:List FL)(mb:Nat)(w:World)(x:Ending)(w':World):Prop :=
 ((∃a e,e≠0∧x=.returned (.tuple #[.int .i64 a,.int .i64 e]))∨(x=Uj∧∃L env,YP w' mb L∧XQ L env∧RtE env∧Zdm Xa env∧GrE Xa flows env))∧Upon mb w w'
theorem ZbM{W0 w:World}(g:List FL)(af:Option Addr)(cf mb:Nat)(J:List (ByteArray × Value))(Xa:Env)(hW:Below W0.heap.size W0 w)(ar:W0.heap.size≤mb)(hr:Row FlC 8 W0 g af)(ao:g.length≤cf)(O:cf≤9223372036854775807)
  (hM:YP w mb J)(hE:XQ J Xa)(ah:RtE Xa) :
  Calls prog 76 #[.map (some mb),.slice af g.length cf] w (Zgk Xa g mb w):=by
 have HW:=hid hW;have HR:=hid hr;have ac:=hid (show FW W0 w w mb J Xa from ⟨Upon.refl _ _,hM,hE⟩);have aa:=hid (show FG Xa J.length g Xa J from ⟨.base,fun _ _ h=>h,ah,by have:=Zf7 Xa g;omega⟩);have ay:=hM.lt;have ap:g.length≤9223372036854775807:=Zm ao O;clear hW hr hM hE ah;go_enter func76,ntmps76;go_wp2;go_loopw [6] (fun v wr=>Hid (Zg6 W0 w mb J Xa g v wr)) (fun v wr=>J.length+g.length+1-qF wr mb+isT v)
 case atStart=>exact⟨true,Xa,J,rfl,ac.out,aa.out⟩
 obtain⟨b,env,L,rfl,m,C⟩:=hrel.out;clear hrel;have au:qF wr mb=L.length:=m.map.size;have ai:=C.cnt;have E:=hid m;have F:=hid C;clear m C
 cases b with
 | false =>
  go_wp2;go_ret2;exact⟨.inr ⟨rfl,L,env,E.out.map,E.out.env,F.out.rt,F.out.ext,F.out.gr⟩,E.out.upon⟩
 | true =>
  obtain⟨n1,Y⟩:=ez L.length;rw[Y] at au ai;have ae:=hid Y;clear Y;obtain⟨wo,bh⟩:=ey wr;go_wp2;go_loopw [6,15] (fun v6 v15 wr=>Hid (InG W0 w mb J Xa g n1 v6 v15 wr)) (fun _ i _=>g.length-(intOf i).toNat)
  case atStart=>exact⟨0,false,env,L,rfl,rfl,Zk _,E.out,F.out,by have:=ae.out;simp only[isT];omega⟩
  clear E F ae;obtain⟨i,b,env,L,rfl,rfl,hi,m,C,R⟩:=hrel.out;clear hrel;have j:=hid m;have A:=hid C;have V:=hid R;have ax:qF wr mb=L.length:=m.map.size;have bg:w.heap.size≤wr.heap.size:=m.upon.size;have aw:=m.map.lt;clear C;by_cases al:i<g.length
  ·have G:=HR.out.below Vo (HW.out.trans (j.out.upon.below HW.out.size ar));obtain⟨bb,oo,rfl,ba,ak⟩:=G.at al;have z:=A.out.put al;obtain⟨f,hf⟩:=ez (g[i]);rw[hf] at ak z;obtain⟨D,⟨k1,nm1,T,d1,y,a1⟩,fa⟩:=f;obtain⟨az,av,x0,x1,x2,x3,x4,x5,x6,x7,M,be⟩:=ak.cells;simp only at z M;have bf:(i:Int)<(g.length:Int):=oq
   cases hen:env D with
   | some c =>
    obtain⟨c1,c2⟩:=c;have Z:=hid (show Xb D L=some (.agg #[.int .i64 c1,.int .i64 c2]) by rw[m.env D,hen];rfl);clear m G M hen z R;go_wp2_with (at_lookup;refine XW Xu _ rfl _ _ rfl mb L D _ rfl rfl (j.out.map.below bq) Z.out ?_);refine⟨⟨i+1,b,env,L,by go_num,rfl,oq,⟨(by repeat (first|(with_reducible exact Upon.refl _ _)|((with_reducible refine Upon.setAt ?_ ?_ _);(rotate_left;focus (first|exact Or.inl rfl|omega|(simp;done)|(simp;omega))))|(with_reducible refine Upon.alloc ?_ _)|(with_reducible refine Upon.drewN ?_ _)|(with_reducible refine Upon.drew ?_)|(with_reducible refine Upon.trans ?_ (Upon.of_below hb2))|(with_reducible refine Upon.trans ?_ j.out.upon))),j.out.map.below bq,j.out.env⟩,A.out,V.out⟩,by simp[intOf];omega⟩
   | none =>
    have X:Xb D L=none:=by rw[m.env D,hen];rfl
    have Z:=hid X;have ag:=hid (fun(c:Int × Int) (ht) (hc:clock.YD c.1 c.2=true) (v:Value)=>z hen X (c:=c) ht hc v);have I:=hid (E7 m.env ⟨k1,nm1,T,d1,y,a1⟩);have HE:=hid M;have hgd:=Uv env ⟨k1,nm1,T,d1,y,a1⟩;have H:=fun p f=>VN (e:=⟨k1,nm1,T,d1,y,a1⟩) (p:=p) (f:=f) A.out.rt
    unfold QT at I;simp only at I;clear m G M hen X z R;generalize htt:YY env ⟨k1,nm1,T,d1,y,a1⟩=t at hgd H I;have an:=hid htt;clear htt
    cases t with
    | unk =>
     simp only[TT.v] at I;clear hgd H;go_wp2_with (first|(at_lookup;refine Xm Xu _ rfl _ _ rfl mb L D rfl rfl (j.out.map.below bq) Z.out ?_)|(go_at_call 133;(with_reducible refine(I.out _ _ _ _ (HE.out.below bq) (j.out.map.below bq)).mono ?_);rintro x U ⟨rfl,hb2⟩;obtain⟨O,aj⟩:=YB hb2;have a2:wr.heap.size<U.heap.size:=Yy hb2 oq;have a3:wr.heap.size+1<U.heap.size:=Yy hb2 oq));refine⟨⟨i+1,b,env,L,by go_num,rfl,oq,⟨(by repeat (first|(with_reducible exact Upon.refl _ _)|((with_reducible refine Upon.setAt ?_ ?_ _);(rotate_left;focus (first|exact Or.inl rfl|omega|(simp;done)|(simp;omega))))|(with_reducible refine Upon.alloc ?_ _)|(with_reducible refine Upon.drewN ?_ _)|(with_reducible refine Upon.drew ?_)|(with_reducible refine Upon.trans ?_ (Upon.of_below hb2))|(with_reducible refine Upon.trans ?_ j.out.upon))),j.out.map.below bq,j.out.env⟩,A.out,V.out⟩,by simp[intOf];omega⟩
    | bad ab eb =>
     simp only[TT.v] at I;have bd:(eb == 0)=false:=ZW.2 hgd;clear H;go_wp2_with (first|(at_lookup;refine Xm Xu _ rfl _ _ rfl mb L D rfl rfl (j.out.map.below bq) Z.out ?_)|(go_at_call 133;(with_reducible refine(I.out _ _ _ _ (HE.out.below bq) (j.out.map.below bq)).mono ?_);rintro x U ⟨rfl,hb2⟩;obtain⟨O,aj⟩:=YB hb2;have a2:wr.heap.size<U.heap.size:=Yy hb2 oq;have a3:wr.heap.size+1<U.heap.size:=Yy hb2 oq));go_quiet (fail);go_wp2;go_ret2;exact⟨.inl ⟨ab,eb,hgd,rfl⟩,(by repeat (first|(with_reducible exact Upon.refl _ _)|((with_reducible refine Upon.setAt ?_ ?_ _);(rotate_left;focus (first|exact Or.inl rfl|omega|(simp;done)|(simp;omega))))|(with_reducible refine Upon.alloc ?_ _)|(with_reducible refine Upon.drewN ?_ _)|(with_reducible refine Upon.drew ?_)|(with_reducible refine Upon.trans ?_ (Upon.of_below hb2))|(with_reducible refine Upon.trans ?_ j.out.upon)))⟩
    | ok p q =>
     simp only[TT.v] at I;have am:=hid (H p q rfl);clear hgd H;go_wp2_with (first|(at_lookup;refine Xm Xu _ rfl _ _ rfl mb L D rfl rfl (j.out.map.below bq) Z.out ?_)|(go_at_call 133;(with_reducible refine(I.out _ _ _ _ (HE.out.below bq) (j.out.map.below bq)).mono ?_);rintro x U ⟨rfl,hb2⟩;obtain⟨O,aj⟩:=YB hb2;have a2:wr.heap.size<U.heap.size:=Yy hb2 oq;have a3:wr.heap.size+1<U.heap.size:=Yy hb2 oq)|(at_mapUpdate;refine XB Xu _ rfl _ _ _ rfl mb L D (cvv (p,q)) rfl rfl rfl (j.out.map.below bq) ?_;intro arr clock aq));refine⟨?_,by simp[intOf];omega⟩;refine⟨i+1,true,upd env D (p,q),_,by go_num,rfl,oq,⟨YN (by repeat (first|(with_reducible exact Upon.refl _ _)|((with_reducible refine Upon.setAt ?_ ?_ _);(rotate_left;focus (first|exact Or.inl rfl|omega|(simp;done)|(simp;omega))))|(with_reducible refine Upon.alloc ?_ _)|(with_reducible refine Upon.drewN ?_ _)|(with_reducible refine Upon.drew ?_)|(with_reducible refine Upon.trans ?_ (Upon.of_below hb2))|(with_reducible refine Upon.trans ?_ j.out.upon))) _,aq,j.out.env.put D (p,q)⟩,ag.out (p,q) an.out am.out _,?_⟩;rw[jJ _ _ _ Z.out];have:=V.out;simp only[isT];omega
  have bc:=A.out.cnt;clear m;go_wp2;refine⟨⟨b,env,L,rfl,j.out,A.out⟩,?_⟩
  cases b<;>simp only[isT] at R ⊢<;>omega
def yl(x:Ending):Prop:=∃a e,e≠0∧x=.returned (.tuple #[.int .i64 a,.int .i64 e])
def FdS(env:Env)(f:FL):Prop:=∃c,env f.nm=some c
def ZeL(w:World)(flows:List FL)(S:FL→Prop)(v:Value)(wr:World):Prop:=∃i:Nat,v=.int .i64 (i:Int)∧i≤flows.length∧(∀j (h:j<flows.length),j<i→S flows[j])∧Below w.heap.size w wr
theorem yc{f:List FL}{S:FL→Prop}{i:Nat}(h:∀j (g:j<f.length),j<i→S f[j])(hi:∀g:i<f.length,S f[i]):∀j (g:j<f.length),j<i+1→S f[j]:=by
 intro j g q;by_cases m:j<i
 ·exact h j g m
 have:j=i:=oq;subst this;exact hi g
theorem j3{g:List FL}{S:FL→Prop}{i:Nat}(h:∀j (m:j<g.length),j<i→S g[j])(hi:g.length≤i):∀f∈g,S f:=by
 intro f q;obtain⟨j,m,rfl⟩:=Yk q;exact h j m oq
theorem yA{w:World}(g:List FL)(O:Option Addr)(E mb:Nat)(L:List (ByteArray × Value))(env:Env)(X:Row FlC 8 w g O)(F:g.length≤E)(G:E≤9223372036854775807)
  (U:YP w mb L)(T:XQ L env) :
  Calls prog 77 #[.map (some mb),.slice O g.length E] w fun x w'=>(yl x∨(x=Uj∧∀f∈g,FdS env f))∧Below w.heap.size w w':=by
 have Z:=hid X;have J:=hid U;have H:g.length≤9223372036854775807:=Zm F G;clear X U;go_enter func77,ntmps77;go_wp2;go_loopw [12] (fun v wr=>Hid (ZeL w g (FdS env) v wr)) (fun i _=>g.length-(intOf i).toNat)
 case atStart=>exact⟨0,rfl,Zk _,fun j hj h=>absurd h oq,bq⟩
 obtain⟨i,rfl,hi,V,hbel⟩:=hrel.out;clear hrel;have HBEL:=hid hbel;have M:=hid V;have ag:=hbel.size;clear V;by_cases I:i<g.length
 ·have q:=Z.out.below Vo hbel;obtain⟨bb,oo,rfl,ab,A⟩:=q.at I;have m:=hid (fun h:FdS env g[i]=>yc (S:=FdS env) M.out (fun _=>h));obtain⟨f,hf⟩:=ez (g[i]);rw[hf] at A m;obtain⟨y,⟨k1,nm1,n1,d1,D,a1⟩,fa⟩:=f;obtain⟨aa,R,x0,x1,x2,x3,x4,x5,x6,x7,z,ac⟩:=A.cells
  try simp only at m
  have ae:(i:Int)<(g.length:Int):=oq
  cases hc:env y with
  | some c =>
   obtain⟨c1,c2⟩:=c;have C:=hid (show Xb y L=some (.agg #[.int .i64 c1,.int .i64 c2]) by rw[T y,hc];rfl);have Y:=hid (m.out (show FdS env _ from ⟨_,hc⟩));clear hbel q z hc m;go_wp2_with (at_lookup;refine XW Xu _ rfl _ _ rfl mb L y _ rfl rfl (J.out.below bq) C.out ?_);refine⟨⟨i+1,by go_num,oq,Y.out,bq⟩,by simp[intOf];omega⟩
  | none =>
   have C:=hid (show Xb y L=none by rw[T y,hc];rfl);clear hbel q z hc m;go_wp2_with (at_lookup;refine Xm Xu _ rfl _ _ rfl mb L y rfl rfl (J.out.below bq) C.out ?_);go_ret2;exact⟨.inl ⟨fa,6,by decide,rfl⟩,bq⟩
 go_wp2;go_ret2;exact⟨.inr ⟨rfl,j3 (S:=FdS env) (i:=i) M.out oq⟩,HBEL.out⟩
def FcS(env:Env)(f:FL):Prop:=∃p q,YY env f.e=.ok p q∧env f.nm=some (p,q)
theorem yz{w:World}(g:List FL)(af:Option Addr)(cf mb:Nat)(L:List (ByteArray × Value))(env:Env)(hr:Row FlC 8 w g af)(ak:g.length≤cf)(D:cf≤9223372036854775807)
  (hM:YP w mb L)(hE:XQ L env)(hA:∀f∈g,∃c,env f.nm=some c)(aa:RtE env) :
  Calls prog 79 #[.map (some mb),.slice af g.length cf] w fun x w'=>(yl x∨(x=Uj∧∀f∈g,FcS env f))∧Below w.heap.size w w':=by
 have HR:=hid hr;have HM:=hid hM;have HA:=hid hA;have ai:=hid aa;have al:g.length≤9223372036854775807:=Zm ak D;clear hr hM hA aa;go_enter func79,ntmps79;go_wp2;go_loopw [10] (fun v wr=>Hid (ZeL w g (FcS env) v wr)) (fun i _=>g.length-(intOf i).toNat)
 case atStart=>exact⟨0,rfl,Zk _,fun j hj h=>absurd h oq,bq⟩
 obtain⟨i,rfl,hi,hS,hbel⟩:=hrel.out;clear hrel;have HBEL:=hid hbel;have HS:=hid hS;have ar:=hbel.size;clear hS;by_cases ah:i<g.length
 ·have I:=HR.out.below Vo hbel;obtain⟨bb,oo,rfl,an,ag⟩:=I.at ah;obtain⟨c,O⟩:=HA.out g[i] (Zi ah);have z:=hid (fun h:FcS env g[i]=>yc (S:=FcS env) HS.out (fun _=>h));obtain⟨f,hf⟩:=ez (g[i]);rw[hf] at ag O z;obtain⟨nm,⟨k1,nm1,n1,X,m,U⟩,M⟩:=f;obtain⟨aj,V,x0,x1,x2,x3,x4,x5,x6,x7,ac,ao⟩:=ag.cells;simp only at O;obtain⟨c1,c2⟩:=c;have E:=clock.XO.1 (ai.out nm (c1,c2) O);simp only at E;have hg:Xb nm L=some (.agg #[.int .i64 c1,.int .i64 c2]):=by rw[hE nm,O];rfl
  have T:=hid hg;have J:=HM.out.below hbel;have aq:=JR (w:=(wr.alloc (Obj.cells #[.string nm,.int .i64 k1,.string nm1,.int .i64 n1,.int .i64 X,.slice aj m.len V,.int .i64 U,.int .i64 M] 155)).drew) (J.below bq) hg;have F:=hid (E7 hE ⟨k1,nm1,n1,X,m,U⟩);have R:=hid ac;unfold QT at F;simp only at F;have A:∀p q,YY env ⟨k1,nm1,n1,X,m,U⟩=.ok p q→(p=c1∧q=c2)→FcS env ⟨nm,⟨k1,nm1,n1,X,m,U⟩,M⟩:=fun p q Y Z=>⟨p,q,Y,by rw[Z.1,Z.2];exact O⟩
  have ap:(i:Int)<(g.length:Int):=oq;have y:=hid J;clear hbel I ac O hg J;generalize htt:YY env ⟨k1,nm1,n1,X,m,U⟩=t at F A
  cases t with
  | unk =>
   simp only[TT.v] at F;have ae:=fun w=>Uw w 0 0 0 0 false
   have am:¬(0:Int)=c1:=oq;clear A z htt E;go_wp2;go_region_with (go_at_call 133;(with_reducible refine(F.out _ _ _ _ (R.out.below bq) (y.out.below bq)).mono ?_);rintro x C ⟨rfl,hb2⟩;obtain⟨D,G⟩:=YB hb2;have a2:wr.heap.size<C.heap.size:=Yy hb2 oq;have H:=JR (w:=C) (y.out.below bq) T.out)
   all_goals go_wp2
   all_goals (go_ret2;exact⟨.inl ⟨M,5,by decide,rfl⟩,bq⟩)
  | bad ab eb =>
   simp only[TT.v] at F;have ae:=fun w=>Uw w 0 0 ab eb false
   have am:¬(0:Int)=c1:=oq;clear A z htt E;go_wp2;go_region_with (go_at_call 133;(with_reducible refine(F.out _ _ _ _ (R.out.below bq) (y.out.below bq)).mono ?_);rintro x C ⟨rfl,hb2⟩;obtain⟨D,G⟩:=YB hb2;have a2:wr.heap.size<C.heap.size:=Yy hb2 oq;have H:=JR (w:=C) (y.out.below bq) T.out)
   all_goals go_wp2
   all_goals (go_ret2;exact⟨.inl ⟨M,5,by decide,rfl⟩,bq⟩)
  | ok p q =>
   simp only[TT.v] at F;have ae:=fun w=>Uw w p q 0 0 true
   by_cases Y:p=c1
   ·by_cases Z:q=c2
    ·have HN:=hid (z.out (A p q rfl ⟨Y,Z⟩));subst Y;subst Z;clear A z htt E;go_wp2;go_region_with (go_at_call 133;(with_reducible refine(F.out _ _ _ _ (R.out.below bq) (y.out.below bq)).mono ?_);rintro x C ⟨rfl,hb2⟩;obtain⟨D,G⟩:=YB hb2;have a2:wr.heap.size<C.heap.size:=Yy hb2 oq;have H:=JR (w:=C) (y.out.below bq) T.out)
     all_goals go_wp2
     all_goals refine⟨⟨i+1,by go_num,oq,HN.out,bq⟩,by simp[intOf];omega⟩
    subst Y;clear A z htt E;go_wp2;go_region_with (go_at_call 133;(with_reducible refine(F.out _ _ _ _ (R.out.below bq) (y.out.below bq)).mono ?_);rintro x C ⟨rfl,hb2⟩;obtain⟨D,G⟩:=YB hb2;have a2:wr.heap.size<C.heap.size:=Yy hb2 oq;have H:=JR (w:=C) (y.out.below bq) T.out)
    all_goals go_wp2
    all_goals (go_ret2;exact⟨.inl ⟨M,5,by decide,rfl⟩,bq⟩)
   clear A z htt E;go_wp2;go_region_with (go_at_call 133;(with_reducible refine(F.out _ _ _ _ (R.out.below bq) (y.out.below bq)).mono ?_);rintro x C ⟨rfl,hb2⟩;obtain⟨D,G⟩:=YB hb2;have a2:wr.heap.size<C.heap.size:=Yy hb2 oq;have H:=JR (w:=C) (y.out.below bq) T.out)
   all_goals go_wp2
   all_goals (go_ret2;exact⟨.inl ⟨M,5,by decide,rfl⟩,bq⟩)
 go_wp2;go_ret2;exact⟨.inr ⟨rfl,j3 (S:=FcS env) (i:=i) HS.out oq⟩,HBEL.out⟩
end Go.Proofs.YtdgifkjaflfdeaaGreatDoor.syn
