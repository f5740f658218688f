/- Parts of the proof. -/
import Derived.Test.YtdgifkjaflfdeaaGreatDoorX40
set_option linter.all false
set_option maxRecDepth 100000
set_option maxHeartbeats 16000000
namespace Go.Proofs.YtdgifkjaflfdeaaGreatDoor.syn
open Tryz
open Go.RowKit
variable {f:FD}{S H U now:Int}{i j k g base:Nat}{w wr w':World}{v s6:Value}{d:Array YH}{q:List Int}
structure SLD where
 t:Int
 n:Int
 s:Int
def bdg(f:FD)(t:Int):Int:=(f.nods.getD (tkO f t.toNat).node.toNat ⟨0,0⟩).bud
def QR(f:FD)(t:Int):Int:=(tkO f t.toNat).per
def ltr(f:FD)(c:Int)(x:SLD):SLD:=⟨x.t,x.n+c.tdiv (QR f x.t),x.s+c⟩
def Sep(f:FD)(x y:SLD):Prop:=x.s+bdg f x.t<=y.s
structure xT (f:FD) (x:SLD):Prop where
 t:∃t:Nat,x.t=(t:Int)/\t<f.tasks.length
 n:0<=x.n/\x.n<=1000000
 s:0<=x.s/\x.s<=2000000000
def JA(u:Int)(l:List SLD):List SLD:=l.takeWhile (fun x=>decide (x.s<u))
def VM(f:FD)(A:List SLD)(u c:Int):List SLD:=(A.filter (fun x=>decide (x.s<u-c))).map (ltr f c)
def Q4(f:FD)(A:List SLD)(u H:Int):Nat->Int->List SLD
 | 0,_=>[]
 | m+1,c=>if c<u then VM f A u c++Q4 f A u H m (c+H) else []
def Ea(S:Int)(P:List SLD):List SLD:=P.filter (fun x=>decide (S<=x.s))
def Es(f:FD)(S H:Int)(P:List SLD)(u:Int):List SLD:=P.filter (fun x=>decide (x.s<u))++Q4 f (Ea S P) u H u.toNat H
theorem GM{f:FD}{A:List SLD}{u H:Int}:∀(m:Nat)(c:Int),∀x∈Q4 f A u H m c,∃j:Nat,∃a∈A,x=ltr f (c+(j:Int)*H) a/\a.s<u-(c+(j:Int)*H)
 | 0,c,x,h=>by cases h
 | m+1,c,x,h=>by
  rw[Q4] at h;by_cases hc:c<u
  .rw[Z3 hc] at h;rcases List.mem_append.1 h with h|h
   .obtain⟨a,ha,rfl⟩:=Yf.1 h;obtain⟨ha1,ha2⟩:=List.mem_filter.1 ha;have:=Yk ha2;exact⟨0,a,ha1,by simp,by simpa using this⟩
   obtain⟨j,a,ha,h1,h2⟩:=GM m (c+H) x h;have e:c+((j+1:Nat):Int)*H=c+H+(j:Int)*H:=by rw[Int.natCast_add,Int.add_mul];omega
   exact⟨j+1,a,ha,by rw[e];exact h1,by rw[e];exact h2⟩
  rw[Z2 hc] at h;cases h
theorem GL{f:FD}{A:List SLD}{u H:Int}(g:0<=H):∀(m:Nat)(c:Int)(j:Nat)(a:SLD),a∈A->j<m->c+(j:Int)*H<u->a.s<u-(c+(j:Int)*H)->ltr f (c+(j:Int)*H) a∈Q4 f A u H m c
 | 0,c,j,a,ha,hj,h1,h2=>oq
 | m+1,c,j,a,ha,hj,h1,h2=>by
  have hjH:0<=(j:Int)*H:=Int.mul_nonneg oq g;rw[Q4,Z3 oq]
  cases j with
  | zero =>
   refine List.mem_append_left _ (Yf.2 ⟨a,List.mem_filter.2 ⟨ha,Z1 (by simpa using h2)⟩,by simp⟩)
  | succ j =>
   have e:c+((j+1:Nat):Int)*H=c+H+(j:Int)*H:=by rw[Int.natCast_add,Int.add_mul];omega
   rw[e] at h1 h2 ⊢;exact List.mem_append_right _ (GL g m (c+H) j a ha oq h1 h2)
theorem gV{f:FD}{A:List SLD}{u H:Int}(hA:A.Pairwise (Sep f))(hx:∀a∈A,∀b∈A,a.s+bdg f a.t<=b.s+H)(hH:0<=H):∀(m:Nat)(c:Int),(Q4 f A u H m c).Pairwise (Sep f)
 | 0,c=>List.Pairwise.nil
 | m+1,c=>by
  rw[Q4];by_cases hc:c<u
  .rw[Z3 hc];refine List.pairwise_append.2 ⟨?_,gV hA hx hH m (c+H),fun x h y h'=>?_⟩
   .refine List.pairwise_map.2 ((hA.filter _).imp (fun {a b} h=>?_));show a.s+c+bdg f a.t<=b.s+c;have:a.s+bdg f a.t<=b.s:=h;omega
   obtain⟨a,ha,rfl⟩:=Yf.1 h;obtain⟨j,b,hb,rfl,_⟩:=GM m (c+H) y h';have h1:=hx a (List.mem_filter.1 ha).1 b hb;have hjH:0<=(j:Int)*H:=Int.mul_nonneg oq hH;show a.s+c+bdg f a.t<=b.s+(c+H+(j:Int)*H);omega
  rw[Z2 hc];exact List.Pairwise.nil
theorem U2{u:Int}:∀{l:List SLD},∀x∈JA u l,x∈l/\x.s<u
 | [],x,h=>by cases h
 | y::l,x,h=>by
  unfold JA at h;rw[List.takeWhile_cons] at h;by_cases hy:y.s<u
  .rw[Z3 (Z1 hy)] at h;rcases ZS.1 h with rfl|h
   .exact⟨List.mem_cons_self,hy⟩
   have:=U2 x h;exact⟨List.mem_cons_of_mem _ this.1,this.2⟩
  rw[Z2 (by simpa using hy)] at h;cases h
structure Zfy (f:FD) (S H:Int) (P:List SLD):Prop where
 s0:0<=S
 h1:1<=H
 ok:∀x∈P,xT f x
 pw:P.Pairwise (Sep f)
 cross:∀a∈P,∀b∈Ea S P,a.s+bdg f a.t<=b.s+H
theorem Zc1{L:List SLD}(D:L.Pairwise (Sep f))(j:∀x∈L,xT f x)(q:0<=S)(v:1<=H)(e:Es f S H (JA (S+H) L) (S+2*H)=JA (S+2*H) L):Zfy f S H (JA (S+H) L):=by
 have g:∀u,(JA u L).Pairwise (Sep f):=fun u=>D.sublist (List.takeWhile_sublist _)
 refine⟨q,v,fun x hx=>j x (U2 x hx).1,g _,fun a ha b hb=>?_⟩;have m:=g (S+2*H);rw[<-e] at m;have y:=(List.pairwise_append.1 m).2.2 a (List.mem_filter.2 ⟨ha,Z1 (by have:=(U2 a ha).2;omega)⟩);have hb2:=(List.mem_filter.1 hb).1;have z:=GL (f:=f) (A:=Ea S (JA (S+H) L)) (u:=S+2*H) (H:=H) oq (S+2*H).toNat H 0 b hb oq (by simp;omega) (by have:=(U2 b hb2).2;simp;omega);have C:a.s+bdg f a.t<=b.s+(H+((0:Nat):Int)*H):=y _ z;simpa using C
structure Zbv (f:FD) (H:Int):Prop where
 bud:∀t:Nat,t<f.tasks.length->1<=bdg f (t:Int)/\bdg f (t:Int)<=1000
 per:∀t:Nat,t<f.tasks.length->1<=QR f (t:Int)/\QR f (t:Int)<=2000
 dvd:∀t:Nat,t<f.tasks.length->QR f (t:Int) ∣ H
theorem Zcy{f:FD}{H p c:Int}(m:1<=p)(hd:p ∣ H)(g:0<=c)(j:0<=H):(c+H).tdiv p-c.tdiv p=H.tdiv p/\H.tdiv p*p=H/\0<=c.tdiv p/\c.tdiv p<=c:=by
 rw[Int.tdiv_eq_ediv_of_nonneg oq,Int.tdiv_eq_ediv_of_nonneg g,Int.tdiv_eq_ediv_of_nonneg j,Int.add_ediv_of_dvd_right hd];exact⟨oq,Int.ediv_mul_cancel hd,Int.ediv_nonneg g oq,Int.ediv_le_self _ g⟩
structure Zbm (f:FD) (S H U:Int) (l:List SLD):Prop where
 pw:l.Pairwise (Sep f)
 ok:∀x∈l,(∃t:Nat,x.t=(t:Int)/\t<f.tasks.length)/\(0<=x.n/\x.n<=1001000)/\0<=x.s/\x.s<U
 nxt:∀x∈l,S<=x.s->x.s+H<U->∃y∈l,y.t=x.t/\y.s=x.s+H/\(y.n-x.n)*QR f x.t=H
theorem Zb1{P:List SLD}(h:Zfy f S H P)(ht:Zbv f H)(V:U<=1000):Zbm f S H U (Es f S H P U):=by
 have T:=h.s0;have I:=h.h1;have key:∀x∈Es f S H P U,(x∈P/\x.s<U)\/∃j:Nat,∃a∈Ea S P,x=ltr f (H+(j:Int)*H) a/\a.s<U-(H+(j:Int)*H):=by
  intro x q;rcases List.mem_append.1 q with q|q
  .exact .inl ⟨(List.mem_filter.1 q).1,Yk (List.mem_filter.1 q).2⟩
  exact .inr (GM _ _ x q)
 have v:∀a∈Ea S P,a∈P/\S<=a.s:=fun a ha=>⟨(List.mem_filter.1 ha).1,Yk (List.mem_filter.1 ha).2⟩
 have C:∀j:Nat,0<=(j:Int)*H:=fun j=>Int.mul_nonneg oq oq
 refine⟨?_,fun x q=>?_,fun x q hS hlt=>?_⟩
 .refine List.pairwise_append.2 ⟨h.pw.filter _,gV (h.pw.filter _) (fun a ha b hb=>h.cross a (v a ha).1 b hb) oq _ _,fun a ha y hy=>?_⟩;obtain⟨j,b,hb,rfl,_⟩:=GM _ _ y hy;have:=h.cross a (List.mem_filter.1 ha).1 b hb;have:=C j;show a.s+bdg f a.t<=b.s+(H+(j:Int)*H);omega
 .rcases key x q with ⟨hp,hs⟩|⟨j,a,ha,rfl,hs⟩
  .have:=h.ok x hp;exact⟨this.t,⟨this.n.1,by have:=this.n.2;omega⟩,this.s.1,hs⟩
  have D:=h.ok a (v a ha).1;obtain⟨t,m,g⟩:=D.t;have:=C j;have R:=D.s.1;have E:=Zcy (f:=f) (c:=H+(j:Int)*H) (ht.per t g).1 (ht.dvd t g) oq (show 0<=H by omega);have O:=D.n;refine⟨⟨t,m,g⟩,?_,?_,?_⟩
  .show 0<=a.n+(H+(j:Int)*H).tdiv (QR f a.t)/\a.n+(H+(j:Int)*H).tdiv (QR f a.t)<=1001000;rw[m];omega
  .show 0<=a.s+(H+(j:Int)*H);omega
  show a.s+(H+(j:Int)*H)<U;omega
 rcases key x q with ⟨hp,hs⟩|⟨j,a,ha,rfl,hs⟩
 .have D:=h.ok x hp;obtain⟨t,m,g⟩:=D.t;have J:x∈Ea S P:=List.mem_filter.2 ⟨hp,Z1 hS⟩;have z:=GL (f:=f) (A:=Ea S P) (u:=U) (H:=H) oq U.toNat H 0 x J oq (by simp;omega) (by simp;omega);have E:=Zcy (f:=f) (c:=0) (ht.per t g).1 (ht.dvd t g) oq (show 0<=H by omega);refine⟨_,List.mem_append_right _ z,rfl,by show x.s+(H+((0:Nat):Int)*H)=_;simp,?_⟩;show(x.n+(H+((0:Nat):Int)*H).tdiv (QR f x.t)-x.n)*QR f x.t=H;rw[m,show H+((0:Nat):Int)*H=H by simp,show x.n+H.tdiv (QR f (t:Int))-x.n=H.tdiv (QR f (t:Int)) by omega];exact E.2.1
 have D:=h.ok a (v a ha).1;obtain⟨t,m,g⟩:=D.t;have M:=C j;have L:=(v a ha).2;have G:a.s+(H+(j:Int)*H)+H<U:=hlt;have e:H+((j+1:Nat):Int)*H=H+(j:Int)*H+H:=by rw[Int.natCast_add,Int.add_mul];omega
 have F:(j:Int)<=(j:Int)*H:=by
  have:=Int.mul_le_mul_of_nonneg_left I (show 0<=(j:Int) by omega);omega
 have z:=GL (f:=f) (A:=Ea S P) (u:=U) (H:=H) oq U.toNat H (j+1) a ha oq (by rw[e];omega) (by rw[e];omega);rw[e] at z;have E:=Zcy (f:=f) (c:=H+(j:Int)*H) (ht.per t g).1 (ht.dvd t g) oq (show 0<=H by omega);refine⟨_,List.mem_append_right _ z,rfl,by show a.s+(H+(j:Int)*H+H)=a.s+(H+(j:Int)*H)+H;omega,?_⟩;show(a.n+(H+(j:Int)*H+H).tdiv (QR f a.t)-(a.n+(H+(j:Int)*H).tdiv (QR f a.t)))*QR f a.t=H;rw[m,show a.n+(H+(j:Int)*H+H).tdiv (QR f (t:Int))-(a.n+(H+(j:Int)*H).tdiv (QR f (t:Int)))=H.tdiv (QR f (t:Int)) by omega];exact E.2.1
theorem Zbm.step{l:List SLD}(h:Zbm f S H U l)(ht:Zbv f H)(g:i<j)(x:j<l.length):l[i].s+bdg f l[i].t<=l[j].s/\l[i].s<l[j].s:=by
 have v:l[i].s+bdg f l[i].t<=l[j].s:=List.pairwise_iff_getElem.1 h.pw i j oq x g;obtain⟨⟨t,q,m⟩,_⟩:=h.ok l[i] (Zi _);have:=(ht.bud t m).1;rw[<-q] at this;exact⟨v,oq⟩
theorem Zbm.find{l:List SLD}(h:Zbm f S H U l)(ht:Zbv f H)(hi:i<l.length)(F:S<=l[i].s)(A:l[i].s+H<U)(x:∀j (J:j<l.length),j<k->l[j].s<l[i].s+H)(G:∀x:k<l.length,l[i].s+H<=l[k].s) :
  ∃x:k<l.length,l[k].t=l[i].t/\l[k].s=l[i].s+H/\(l[k].n-l[i].n)*QR f l[i].t=H:=by
 obtain⟨y,hy,C,D,E⟩:=h.nxt l[i] (Zi hi) F A;obtain⟨g,m,rfl⟩:=Yn hy;have I:k<=g:=by
  by_cases v:k<=g
  .exact v
  have:=x g m oq;omega
 have q:k<l.length:=oq;have z:k=g:=by
  by_cases v:k=g
  .exact v
  have:=(h.step ht (show k<g by omega) m).2;have:=G q;omega
 subst z;exact⟨q,C,D,E⟩
structure SgF (f:FD):Prop where
 clk:∀t,t<f.tasks.length->1<=(tkO f t).per/\(tkO f t).per<=2000/\0<=(tkO f t).ph/\(tkO f t).ph<=2000
 node:∀t,t<f.tasks.length->∃k:Nat,(tkO f t).node=(k:Int)/\∃h:k<f.nods.length,1<=f.nods[k].bud/\f.nods[k].bud<=1000
theorem Zgs{g:OA}(h:Row vw 4 w f.tasks g)(hi:i<f.tasks.length):∃b o,g=some ⟨b,o,none⟩/\b<w.1.size/\w.cell? ⟨b,o+i*4,none⟩=some (.int .i64 (tkO f i).node)/\w.cell? ⟨b,o+i*4+1,none⟩=some (.int .i64 (tkO f i).per)/\w.cell? ⟨b,o+i*4+2,none⟩=some (.int .i64 (tkO f i).ph):=by
 obtain⟨b,o,rfl,hb,j,m,q,_⟩:=h.at hi;rw[JP hi] at j m q;exact⟨b,o,rfl,hb,j,m,q⟩
theorem Zhr{an:OA}(h:Row NdR 10 w f.nods an)(j:k<f.nods.length):∃b o,an=some ⟨b,o,none⟩/\b<w.1.size/\w.cell? ⟨b,o+k*10+2,none⟩=some (.int .i64 f.nods[k].bud):=by
 obtain⟨b,o,rfl,hb,E,F,G,C,m,D,v,x,el,y,q,a,z,A,g,_⟩:=h.at j;exact⟨b,o,rfl,hb,g⟩
theorem SgF.bud{f:FD}(h:SgF f){t:Nat}(ht:t<f.tasks.length):∃k:Nat,(tkO f t).node=(k:Int)/\∃hk:k<f.nods.length,f.nods[k].bud=bdg f (t:Int)/\1<=bdg f (t:Int)/\bdg f (t:Int)<=1000:=by
 obtain⟨k,hk,g,m,q⟩:=h.node t ht;have j:bdg f (t:Int)=f.nods[k].bud:=by unfold bdg;rw[ZR,hk,ZR,Zf,Ze g];rfl
 exact⟨k,hk,g,j.symm,oq,oq⟩
theorem Y9{b:Nat}{f g j:Value}{t:TypeId}(h:w.1[b]?=some (.cells #[f,g,j] t (0,0))):(w.cell? ⟨b,0,none⟩=some f/\w.cell? ⟨b,1,none⟩=some g/\w.cell? ⟨b,2,none⟩=some j)/\∀o,w.frozen? ⟨b,o,none⟩=false:=by
 refine⟨⟨?_,?_,?_⟩,?_⟩
 all_goals first|(intro o;simp[World.frozen?,h])|simp[World.cell?,h]
theorem jU(f:FD)(A an z C:OA)(F G H cl:Nat)(E:FAP w f A an z C)(R:SgF f)(t:Nat)(ht:t<f.tasks.length) :
  Calls prog 25 #[fv f A an z C F G H cl,.int .i64 (t:Int)] w fun x w'=>x=.returned (.int .i64 (bdg f (t:Int)))/\Below w.1.size w w':=by
 obtain⟨k,T,L,m,_⟩:=R.bud ht;have M:=E.lens;unfold fv;obtain⟨O,g⟩:=ez (w.alloc (.cells #[.slice A f.ins.length F,.slice an f.nods.length G,.slice z f.tasks.length H,.slice C f.tells.length cl] 35));have D:Below w.1.size w O:=by rw[<-g];exact bq
 have y:O.1[w.1.size]?=some (.cells #[.slice A f.ins.length F,.slice an f.nods.length G,.slice z f.tasks.length H,.slice C f.tells.length cl] 35 (0,0)):=by rw[<-g];exact Yx w _
 obtain⟨⟨V,x1,x2,X⟩,Y⟩:=Yy y;obtain⟨bt,ot,I,v,Z,_,_⟩:=Zgs (E.below D).tasks ht;obtain⟨bn,on,J,q,U⟩:=Zhr (E.below D).nods L;rw[T] at Z;rw[m] at U;obtain⟨bud,j⟩:=ez (bdg f (t:Int));rw[j] at U ⊢;subst I J;have HB:=hid D;have t0:¬(t:Int)<0:=oq;have t1:(t:Int)<(f.tasks.length:Int):=oq;have t2:¬(f.tasks.length:Int)<=(t:Int):=oq;have k0:¬(k:Int)<0:=oq;have k1:(k:Int)<(f.nods.length:Int):=oq;have k2:¬(f.nods.length:Int)<=(k:Int):=oq;have t3:(0:Int)<=(t:Int):=oq;have k3:(0:Int)<=(k:Int):=oq;clear E R ht T m D y v q j V X Y;go_enter func25,ntmps25;go_upto_region 1 with fail
 first|rw[g]|skip
 clear g;go_wp2;go_ret;exact⟨rfl,HB.o⟩
theorem KI(f:FD)(F an E G:OA)(H I J cl:Nat)(Z:FAP w f F an E G)(hg:SgF f)(t:Nat)(ht:t<f.tasks.length)(n s c:Int)(hn:0<=n/\n<=2000000)(hs:0<=s/\s<=4000000000)(Y:0<=c/\c<=100000) :
  Calls prog 59 #[fv f F an E G H I J cl,.agg #[.int .i64 (t:Int),.int .i64 n,.int .i64 s],.int .i64 c] w fun y w'=>y=.returned (.agg #[.int .i64 (t:Int),.int .i64 (n+c.tdiv (QR f (t:Int))),.int .i64 (s+c)])/\Below w.1.size w w':=by
 have ae:=Z.lens;have z:=hg.clk t ht;have x:QR f (t:Int)=(tkO f t).per:=by unfold QR;rw[ZR]
 rw[x];unfold fv;obtain⟨D,g⟩:∃D,((w.alloc (.cells #[.slice F f.ins.length H,.slice an f.nods.length I,.slice E f.tasks.length J,.slice G f.tells.length cl] 35)).alloc (.cells #[.int .i64 (t:Int),.int .i64 n,.int .i64 s] 73)).alloc (.cells #[.int .i64 0,.int .i64 0,.int .i64 0] 73)=D:=⟨_,rfl⟩;have V:Below w.1.size w D:=by rw[<-g];exact bq
 have j:D.1[w.1.size]?=some (.cells #[.slice F f.ins.length H,.slice an f.nods.length I,.slice E f.tasks.length J,.slice G f.tells.length cl] 35 (0,0)):=by rw[<-g];exact(Za _ _ _ (by simp;omega)).trans ((Za _ _ _ (by simp)).trans (Yx w _))
 have m:D.1[w.1.size+1]?=some (.cells #[.int .i64 (t:Int),.int .i64 n,.int .i64 s] 73 (0,0)):=by
  rw[<-g];refine(Za _ _ _ (by simp)).trans ?_;simpa using Yx (w.alloc (.cells #[.slice F f.ins.length H,.slice an f.nods.length I,.slice E f.tasks.length J,.slice G f.tells.length cl] 35)) (.cells #[.int .i64 (t:Int),.int .i64 n,.int .i64 s] 73)
 have A:D.1[w.1.size+1+1]?=some (.cells #[.int .i64 0,.int .i64 0,.int .i64 0] 73 (0,0)):=by
  rw[<-g];simpa using Yx ((w.alloc (.cells #[.slice F f.ins.length H,.slice an f.nods.length I,.slice E f.tasks.length J,.slice G f.tells.length cl] 35)).alloc (.cells #[.int .i64 (t:Int),.int .i64 n,.int .i64 s] 73)) (.cells #[.int .i64 0,.int .i64 0,.int .i64 0] 73)
 have aa:=Zb j;have ab:=Zb m;have ac:=Zb A;obtain⟨⟨x0,x1,x2,x3⟩,xf⟩:=Yy j;obtain⟨⟨y0,y1,y2⟩,yf⟩:=Y9 m;obtain⟨bt,ot,X,L,_,O,z2⟩:=Zgs (Z.below V).tasks ht;obtain⟨p,hp⟩:=ez ((tkO f t).per);obtain⟨ph,M⟩:=ez ((tkO f t).ph);rw[hp] at O z ⊢;rw[M] at z2 z;subst X;have HB:=hid V;have R:=hid j;have T:=hid m;have U:=hid A;have HZ:=hid O;have HR:=hid (fun W=>clock.Xj p ph W z);have t0:(t:Int)<(f.tasks.length:Int):=oq;have t3:(0:Int)<=(t:Int):=oq;have af:(p == 0)=false:=by rw[ZZ];omega
 have ag:¬p=0:=oq;have hq:0<=c.tdiv p/\c.tdiv p<=c:=by rw[Int.tdiv_eq_ediv_of_nonneg Y.1];exact⟨Int.ediv_nonneg Y.1 oq,Int.ediv_le_self _ Y.1⟩
 obtain⟨q,C⟩:=ez (c.tdiv p);rw[C] at hq ⊢;have aj:IntKind.i64.wrap (c.tdiv p)=q:=by rw[C];exact ZL _ oq
 have ak:IntKind.i64.wrap (n+q)=n+q:=ZL _ oq;have am:IntKind.i64.wrap (s+c)=s+c:=ZL _ oq;clear Z hg ht x hp M V j m A x0 x1 x3 xf C;go_enter func59,ntmps59;go_upto_region 1 with fail
 first|rw[g]|skip
 clear g;go_upto_region 2 with (go_at_call 41;refine(HR.o _).mono ?_;rintro e w2 ⟨rfl,hb2⟩;have HB2:=hid hb2;clear hb2)
 clear x2 y0 y1 y2 yf O z2;have hb2:=HB2.o;obtain⟨⟨x0,x1,x2,x3⟩,xf⟩:=Yy ((hb2.block _ aa).trans R.o);obtain⟨⟨y0,y1,y2⟩,yf⟩:=Y9 ((hb2.block _ ab).trans T.o);obtain⟨⟨r0,r1,r2⟩,rf⟩:=Y9 ((hb2.block _ ac).trans U.o);have O:=(hb2.cell (p:=⟨bt,_,none⟩) L).trans HZ.o;have ah:=hb2.size;clear hb2;go_still_tail 13,kq
 change wpList _ _ _ _ _ w2.drew
 go_wp2;exact Zl (v:=.agg #[.int .i64 (t:Int),.int .i64 (n+q),.int .i64 (s+c)]) (by simp only[results,results59];go_simp) rfl ⟨rfl,bq⟩
def SlR(w:World)(b o:Nat)(x:SLD):Prop:=w.cell? ⟨b,o,none⟩=some (.int .i64 x.t)/\w.cell? ⟨b,o+1,none⟩=some (.int .i64 x.n)/\w.cell? ⟨b,o+2,none⟩=some (.int .i64 x.s)
theorem Va:Sta SlR:=fun w w' b o x hb hlt h=>⟨(hb.cell (p:=⟨b,_,none⟩) hlt).trans h.1,(hb.cell (p:=⟨b,_,none⟩) hlt).trans h.2.1,(hb.cell (p:=⟨b,_,none⟩) hlt).trans h.2.2⟩
def slV:List SLD->List Value
 | []=>[]
 | x::l=>.int .i64 x.t::.int .i64 x.n::.int .i64 x.s::slV l
theorem xA:∀l:List SLD,(slV l).length=l.length*3
 | []=>rfl
 | x::l=>by simp only[slV,Zp,xA l];omega
theorem xy:∀a b:List SLD,slV (a++b)=slV a++slV b
 | [],b=>rfl
 | x::a,b=>by simp only[ZD,slV,xy a b]
theorem Vo:∀(l:List SLD),∀u∈slV l,u.oneCell'=true
 | [],u,h=>by cases h
 | x::l,u,h=>by
  simp only[slV,ZS] at h;rcases h with rfl|rfl|rfl|h
  .rfl
  .rfl
  .rfl
  exact Vo l u h
theorem xz:∀(l:List SLD)(i:Nat)(h:i<l.length),(slV l)[i*3]?=some (.int .i64 l[i].t)/\(slV l)[i*3+1]?=some (.int .i64 l[i].n)/\(slV l)[i*3+2]?=some (.int .i64 l[i].s)
 | x::l,0,h=>⟨rfl,rfl,rfl⟩
 | x::l,i+1,h=>by
  obtain⟨h0,h1,h2⟩:=xz l i (by simpa using h);simp only[slV,Zt];exact⟨by rw[show(i+1)*3=i*3+1+1+1 by omega];exact h0,by rw[show(i+1)*3+1=i*3+1+1+1+1 by omega];exact h1,by rw[show(i+1)*3+2=i*3+2+1+1+1 by omega];exact h2⟩
theorem xk{a:OA}{n c:Nat}{l:List SLD}(h:w.ownsRow base 73 3 (.slice a n c) n (slV l))(x:l.length=n):Row SlR 3 w l a:=by
 rcases h.2 with ⟨_,f⟩|⟨g,cap,cur,hv,hb,hg,_⟩
 .exact .inl (Ye (x.trans f))
 injection hv with m _ _
 subst m;refine .inr ⟨g,0,rfl,Zb hg,fun i hi=>?_⟩;obtain⟨f,m,v⟩:=xz l i hi;have q:=fun j (hj:j<n*3)=>World.ownsRow.cellAt h j hj
 exact⟨by rw[ZE];exact(q _ oq).trans f,by rw[ZE];exact(q _ oq).trans m,by rw[ZE];exact(q _ oq).trans v⟩
theorem Zdf{l:List SLD}{m:OA}(h:Row SlR 3 w l m):∀j u,(slV l)[j]?=some u->∃x:Addr,m=some x/\w.cell? (x.add j)=some u:=by
 intro j u f;have D:j<l.length*3:=by rw[<-xA];exact(ZB.1 f).1
 obtain⟨b,o,rfl,hb,z,A,C⟩:=h.at (show j/3<l.length by omega);refine⟨_,rfl,?_⟩;rw[show(⟨b,o,none⟩:Addr).add j=⟨b,o+j,none⟩ from by unfold Addr.add;split<;>simp_all];obtain⟨q,v,y⟩:=xz l (j/3) oq;have g:j%3=0\/j%3=1\/j%3=2:=oq;rcases g with g|g|g
 .rw[show j=j/3*3 by omega] at f ⊢;rw[<-f,q];exact z
 .rw[show j=j/3*3+1 by omega] at f ⊢;rw[<-f,v];exact A
 rw[show j=j/3*3+2 by omega] at f ⊢;rw[<-f,y];exact C
theorem KJ{u:Int}:∀(l:List SLD)(i:Nat),i<=l.length->(∀j (h:j<l.length),j<i->l[j].s<u)->(∀h:i<l.length,¬l[i].s<u)->JA u l=l.take i
 | [],i,hi,h1,h2=>by simp[JA]
 | x::l,0,hi,h1,h2=>by
  have h3:¬x.s<u:=h2 (by simp);unfold JA;rw[List.takeWhile_cons,Z2 (by simpa using h3)];rfl
 | x::l,i+1,hi,h1,h2=>by
  have h3:x.s<u:=h1 0 (by simp) oq;have h4:=KJ l i (by simpa using hi) (fun j hj hji=>h1 (j+1) (by simpa using hj) oq) (fun hj=>h2 (by simpa using hj));unfold JA at h4 ⊢;rw[List.takeWhile_cons,Z3 (Z1 h3),h4];rfl
theorem zI(l:List SLD)(D:OA)(n cap:Nat)(u:Int)(T:l.length=n)(h:Row SlR 3 w l D)(hc:n<=cap)(X:cap<=9223372036854775807) :
  Calls prog 57 #[.slice D n cap,.int .i64 u] w fun x w'=>x=.returned (.slice D (JA u l).length cap)/\Below w.1.size w w':=by
 have V:=hid h;have C:=hid T;have v:=hid (Zg w.1.size w);obtain⟨R,E⟩:=ez ((JA u l).length);rw[E];have q:=hid E;clear h T E;go_enter func57,ntmps57;go_wp2;go_loopw [9] (fun s9 wr=>Hid (∃i:Nat,s9=.int .i64 (i:Int)/\i<=n/\(∀j (h:j<l.length),j<i->l[j].s<u)/\Below w.1.size w wr)) (fun s _=>n-(intOf s).toNat)
 case atStart=>exact⟨0,rfl,Zk _,fun j _ h=>absurd h oq,v.o⟩
 clear v;obtain⟨i,rfl,hi,z,hb⟩:=hrel.o;clear hrel;have HB:=hid hb;have g:=hid z;have Y:=hb.size;clear hb z;by_cases A:i<n
 .have F:i<l.length:=by rw[C.o];exact A
  obtain⟨b,o,rfl,m,L,M,O⟩:=V.o.at F;have c0:=(HB.o.cell (p:=⟨b,_,none⟩) m).trans L;have c1:=(HB.o.cell (p:=⟨b,_,none⟩) m).trans M;have c2:=(HB.o.cell (p:=⟨b,_,none⟩) m).trans O;obtain⟨x,H⟩:=ez (l[i]);obtain⟨xt,xn,I⟩:=x;rw[H] at c0 c1 c2;simp only at c0 c1 c2;have J:=hid H;have Z:(i:Int)<(n:Int):=oq;have i0:(0:Int)<=(i:Int):=oq;have i2:(i:Int)<=(n:Int):=oq;have i3:(i:Int)<=(cap:Int):=oq;clear L M O H;by_cases U:I<u
  .have G:¬u<=I:=oq;go_wp2;refine⟨hid ⟨i+1,by go_num,A,fun j hj hji=>?_,bq⟩,by simp[intOf];omega⟩;by_cases y:j<i
   .exact g.o j hj y
   obtain rfl:j=i:=oq;rw[J.o];exact U
  have G:u<=I:=oq;have f:=KJ l i oq g.o (fun _=>by rw[J.o];exact U);obtain rfl:R=i:=by rw[<-q.o,f,Yc];omega
  clear f;go_wp2;go_ret;exact⟨rfl,bq⟩
 have f:=KJ l i (by rw[C.o];omega) g.o (fun h=>absurd h (by rw[C.o];omega));obtain rfl:R=n:=by rw[<-q.o,f,Yc,C.o];omega
 have Z:¬(i:Int)<(R:Int):=oq;clear f;go_wp2;go_ret;exact⟨rfl,HB.o⟩
theorem EC:(prog.info? 73).map (fun i=>(i.zero,i.size,i.bytes))=some (some (.agg #[.int .i64 0,.int .i64 0,.int .i64 0]),3,24):=by kernel_rfl
theorem Zg9(w w3:World)(e:TypeId)(size:Nat)(h:w.1.size<=w3.1.size):(w3.alloc (.cells #[] e)).ownsRow w.1.size e size (.slice (some ⟨w3.1.size,0,none⟩) 0 0) 0 [] :=
 ⟨by simp,.inr ⟨w3.1.size,0,#[],rfl,h,Yx w3 _,Zc _,by unfold maxLen;omega,by simp,by simp⟩⟩
theorem ZbZ(f:OA)(n cap:Nat)(w:World):(binOp BinOp.eql 66 (.slice f n cap) (.slice none 0 0)).run prog w=.ok (.bool f.isNone) w:=by cases f<;>kernel_rfl
def ZdS(w:World)(v:Value)(l:List SLD):Prop:=∃a c,v=.slice a l.length c/\l.length<=c/\c<=9223372036854775807/\Row SlR 3 w l a
theorem xm{l:List SLD}(h:w.ownsRow base 73 3 v l.length (slV l)):ZdS w v l:=by
 obtain⟨a,c,rfl⟩:=YC h;refine⟨a,c,rfl,?_,?_,xk h rfl⟩
 .rcases h.2 with ⟨_,h0⟩|⟨g,cap,cur,hv,_,_,h1,_⟩
  .omega
  injection hv with _ _ h3;omega
 rcases h.2 with ⟨hv,_⟩|⟨g,cap,cur,hv,_,_,_,h1,_⟩
 .injection hv with _ _ h3;omega
 injection hv with _ _ h3
 unfold maxLen at h1;omega
theorem uR(l:List SLD)(m:OA)(n cap:Nat)(E:l.length=n)(h:Row SlR 3 w l m)(H:l.length<=2000000) :
  Calls prog 56 #[.slice m n cap] w fun x w'=>(∃v,x=.returned v/\w'.ownsRow w.1.size 73 3 v l.length (slV l))/\Below w.1.size w w':=by
 obtain⟨J,y,z,A,C⟩:=info_parts EC
 cases m with
 | none =>
  have D:l=[]:=by
   rcases h with rfl|⟨b,o,h,_⟩
   .rfl
   cases h
  subst D;have f:=fun w=>ZbZ none n cap w
  simp only[Option.isNone] at f;go_enter func56,ntmps56;go_wp2;go_ret;exact⟨⟨_,rfl,Yg _ _ _ _⟩,bq⟩
 | some adr =>
  have f:=fun w=>ZbZ (some adr) n cap w
  simp only[Option.isNone] at f;have G:=hid h;have j:=xA l;rw[E] at j H;have F:=hid E;clear h E;go_enter func56,ntmps56;go_wp2_with (refine lite.YP _ (by rfl) _ _ _ (by rfl) w.1.size 73 J _ 3 24 underlying66 y z A C rfl oq (.slice (some ⟨w.1.size,0,none⟩) 0 0) 0 [] (by rfl) (Zg9 w w _ _ (Zc _)) (some adr) n cap (slV l) (by rfl) j (Zdf (G.o.below Va bq)) (Vo l) (by unfold maxLen;omega) oq (by simp) ?_;intro L M g q I);go_ret;have hb4:Below w.1.size w M:=Below.grown ((Zg w.1.size w).alloc (Zc _) (.cells #[] 73)) q (by simp) (fun k e=>by simp[Value.ownBlock] at e;omega);rw[ZE,ZN,<-F.o] at g;exact⟨⟨L,rfl,g⟩,hb4⟩
def EqA(l1 l2:List SLD)(x:Ending):Prop:=∃c:Bool,x=.returned (.bool c)/\(c=true->l1=l2)
theorem uS(g j:List SLD)(a1 a2:OA)(f I c1 c2:Nat)(q:Row SlR 3 w g a1)(z:Row SlR 3 w j a2)(F:g.length=f)(G:j.length=I)(ab:f<=1000000000000)(ac:I<=1000000000000) :
  Calls prog 118 #[.slice a1 f c1,.slice a2 I c2] w fun x w'=>EqA g j x/\Below w.1.size w w':=by
 have H1:=hid q;have H2:=hid z;have A:=hid F;have C:=hid G;have D:=hid (Zg w.1.size w);clear q z F G;go_enter func118,ntmps118;by_cases aa:f=I
 .subst aa;have hq:((f:Int) != (f:Int))=false:=by simp
  go_wp2;go_loopw [13] (fun v wr=>Hid (∃i:Nat,v=.int .i64 (i:Int)/\i<=f/\g.take i=j.take i/\Below w.1.size w wr)) (fun i _=>f-(intOf i).toNat)
  case atStart=>exact⟨0,rfl,Zk _,rfl,D.o⟩
  clear D;obtain⟨i,rfl,hi,H,hB⟩:=hrel.o;clear hrel;have E:=hid H;have HB:=hid hB;clear H hB;by_cases m:i<f
  .have e1:i<g.length:=by rw[A.o];exact m
   have e2:i<j.length:=by rw[C.o];exact m
   obtain⟨Z,o1,rfl,hb1,O,R,p2⟩:=H1.o.at e1;obtain⟨b2,o2,rfl,hb2,T,U,V⟩:=H2.o.at e2;replace O:=(HB.o.cell (p:=⟨Z,_,none⟩) hb1).trans O;replace R:=(HB.o.cell (p:=⟨Z,_,none⟩) hb1).trans R;replace p2:=(HB.o.cell (p:=⟨Z,_,none⟩) hb1).trans p2;replace T:=(HB.o.cell (p:=⟨b2,_,none⟩) hb2).trans T;replace U:=(HB.o.cell (p:=⟨b2,_,none⟩) hb2).trans U;replace V:=(HB.o.cell (p:=⟨b2,_,none⟩) hb2).trans V;obtain⟨x,hx⟩:=ez (g[i]);obtain⟨y,hy⟩:=ez (j[i]);obtain⟨J,X,xs⟩:=x;obtain⟨L,Y,ys⟩:=y;rw[hx] at O R p2;rw[hy] at T U V;simp only at O R p2 T U V;have HX:=hid hx;have HY:=hid hy;have i1:(i:Int)<(f:Int):=oq;have i0:(0:Int)<=(i:Int):=oq;have M:=hid (show J=L/\X=Y/\xs=ys->g.take (i+1)=j.take (i+1) from fun ⟨q,z,h3⟩=>by
    rw[Zw e1,Zw e2,E.o,HX.o,HY.o,q,z,h3])
   clear hx hy;by_cases hc:J=L/\X=Y/\xs=ys
   .obtain⟨q,z,h3⟩:=hc;subst q z h3;go_wp2;go_quiet (fail);go_wp2;exact⟨hid ⟨i+1,by go_num,m,M.o (by simp),bq⟩,by simp[intOf];omega⟩
   clear M;have hd:¬J=L\/(J=L/\¬X=Y)\/(J=L/\X=Y/\¬xs=ys):=oq;clear hc;rcases hd with h|⟨h,h'⟩|⟨h,h',h''⟩
   all_goals
    go_wp2;go_quiet (fail);go_wp2;go_ret;exact⟨⟨false,rfl,fun h=>by cases h⟩,bq⟩
  have i1:¬(i:Int)<(f:Int):=oq;have M:=hid (show g=j from by
   have:=E.o;rw[List.take_of_length_le (by rw[A.o];omega),List.take_of_length_le (by rw[C.o];omega)] at this;exact this)
  go_wp2;go_ret;exact⟨⟨true,rfl,fun _=>M.o⟩,HB.o⟩
 have hq:((f:Int) != (I:Int))=true:=by
  rw[bne_iff_ne];omega
 go_wp2;go_ret;exact⟨⟨false,rfl,fun h=>by cases h⟩,bq⟩
def lnV:Value->Nat
 | .slice _ n _=>n
 | _=>0
structure SoI (w wr:World) (fl:Array Value) (g jo cj:Nat) (d:Array YH) (l:List SLD) (q:List Int) (v s6:Value):Prop where
 low:Below w.1.size w wr
 bx:wr.1[w.1.size]?=some (.cells fl 35 (0,0))
 sj:SJ wr (w.1.size+1) (w.1.size+2) g jo cj d v q
 row:wr.ownsRow (w.1.size+2) 73 3 s6 l.length (slV l)
 dis:∀k,v.ownBlock=some k->¬s6.ownBlock=some k
theorem SoI.but{z:Array Value}{g y m:Nat}{l:List SLD}{q A:List Int}{v v' s6:Value}(h:SoI w wr z g y m d l q v s6)(hb:But (fun k=>k=w.1.size+1\/v.ownBlock=some k) wr w')(D:SJ w' (w.1.size+1) (w.1.size+2) g y m d v' A)
  (C:∀k,v'.ownBlock=some k->v.ownBlock=some k\/wr.1.size<=k):SoI w w' z g y m d l A v' s6:=by
 have f:=h.sj.sq.ob;have j:=World.ownsRow.lt h.row;have x:=h.low.size;refine⟨h.low.trans (hb.below x (fun k e=>?_)),(hb.block _ (Zb h.bx) (fun e=>?_)).trans h.bx,D,hb.own h.row (fun k hk e=>?_),fun k hk e=>?_⟩
 .rcases e with e|e
  .omega
  have:=(f k e).1;omega
 .rcases e with e|e
  .omega
  have:=(f _ e).1;omega
 .rcases e with e|e
  .have:=(j k hk).1;omega
  exact h.dis k e hk
 rcases C k hk with h1|h1
 .exact h.dis k h1 e
 have:=(j k e).2;omega
theorem SoI.push{m:Array Value}{g j f:Nat}{l:List SLD}{x:Int}(h:SoI w wr m g j f d l q v s6)(z:SjP wr (w.1.size+1) (w.1.size+2) g j f d v (q++[x]) w'):∃v' q',q'.length=q.length+1/\SoI w w' m g j f d l q' v' s6:=by
 obtain⟨v',q',A,C,y,hb⟩:=z;exact⟨v',q',by rw[A.length_eq];simp,h.but hb C y⟩
theorem SoI.below{w wr w':World}{fl:Array Value}{g jo cj:Nat}{d:Array YH}{l:List SLD}{q:List Int}{v s6:Value}(h:SoI w wr fl g jo cj d l q v s6)(hb:Below wr.1.size wr w'):SoI w w' fl g jo cj d l q v s6 :=
 h.but (But.of_below hb) (h.sj.below hb) (fun k hk=>.inl hk)
theorem SoI.app{w wr C w4:World}{E:Array Value}{g F D:Nat}{l:List SLD}{x:SLD}{v s6 y:Value}(h:SoI w wr E g F D d l q v s6)(hb:Below wr.1.size wr C)(G:C.grownBy w4 s6.ownBlock)
  (J:w4.ownsRow (w.1.size+2) 73 3 y (l.length+1) (slV l++slV [x]))(I:y.ownBlock=s6.ownBlock\/y.ownBlock=some C.1.size):SoI w w4 E g F D d (l++[x]) q v y:=by
 have f:=h.below hb;have z:=f.sj.sq.ob;have m:=World.ownsRow.lt f.row;have H:=f.sj.gb;have j:=But.of_grown G;have A:=f.low.size;refine⟨f.low.trans (j.below A (fun k e=>by have:=(m k e).1;omega)),(j.block _ (Zb f.bx) (fun e=>by have:=(m _ e).1;omega)).trans f.bx,
  f.sj.but (f.sj.sq.but j (fun e=>by have:=(m _ e).1;omega) (fun k hk e=>f.dis k hk e)) j (fun e=>by have:=(m _ e).1;omega) f.sj.pl f.sj.len,?_,fun k hk e=>?_⟩
 .rw[xy,Zy];exact J
 rcases I with h1|h1
 .rw[h1] at e;exact f.dis k hk e
 rw[h1] at e;injection e with e;have:=(z k hk).2;omega
structure xR (f:FD) (d:Array YH):Prop where
 t:∀k,k<d.size->∃t:Nat,d[k]!.t=(t:Int)/\t<f.tasks.length
 n:∀k,k<d.size->0<=d[k]!.n/\d[k]!.n<=1000000
 r:∀k,k<d.size->0<=d[k]!.r/\d[k]!.r<=20000
structure SoP (f:FD) (l:List SLD) (now:Int):Prop where
 n0:0<=now
 n1:now<=20000+1000*(l.length:Int)
 pw:l.Pairwise (Sep f)
 ok:∀x∈l,xT f x
 end_:∀x∈l,x.s+bdg f x.t<=now
theorem SoP.nil(f:FD):SoP f [] 0:=⟨oq,by simp,List.Pairwise.nil,fun x h=>(by cases h),fun x h=>(by cases h)⟩
theorem SoP.wait{l:List SLD}{now r:Int}(h:SoP f l now)(m:r<=20000):SoP f l (max now r):=by
 have g:=h.n0;have j:=h.n1;refine⟨oq,oq,h.pw,h.ok,fun x hx=>?_⟩;have:=h.end_ x hx;omega
theorem SoP.more{l:List SLD}(h:SoP f l now)(q:l.length<=1000000){t:Nat}(ht:t<f.tasks.length){n:Int}(j:0<=n/\n<=1000000)(hb:1<=bdg f (t:Int)/\bdg f (t:Int)<=1000):SoP f (l++[⟨(t:Int),n,now⟩]) (now+bdg f (t:Int)):=by
 have g:=h.n0;have m:=h.n1;refine⟨oq,?_,?_,fun x hx=>?_,fun x hx=>?_⟩
 .rw[Zy,List.length_singleton,Int.natCast_add];omega
 .refine List.pairwise_append.2 ⟨h.pw,List.pairwise_singleton _ _,fun a ha b hb'=>?_⟩;rw[List.mem_singleton.1 hb'];exact h.end_ a ha
 .rcases List.mem_append.1 hx with hx|hx
  .exact h.ok x hx
  rw[List.mem_singleton.1 hx];exact⟨⟨t,rfl,ht⟩,j,g,by simp only;omega⟩
 rcases List.mem_append.1 hx with hx|hx
 .have:=h.end_ x hx;omega
 rw[List.mem_singleton.1 hx];simp only;omega
def Zbs(f:FD)(x:Ending)(w':World):Prop:=x=.returned (.tuple #[.slice none 0 0,.bool false])\/∃v l,x=.returned (.tuple #[v,.bool true])/\ZdS w' v l/\l.length<=1000000/\l.Pairwise (Sep f)/\∀y∈l,xT f y
