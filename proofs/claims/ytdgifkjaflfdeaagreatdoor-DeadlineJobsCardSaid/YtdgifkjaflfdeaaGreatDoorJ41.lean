/- Parts of the proof. -/
import Derived.Test.YtdgifkjaflfdeaaGreatDoorJ32
import Derived.Test.YtdgifkjaflfdeaaGreatDoorJ37
import Derived.Test.YtdgifkjaflfdeaaGreatDoorJ39
import Derived.Test.YtdgifkjaflfdeaaGreatDoorJ40
set_option linter.all false
set_option maxRecDepth 100000
set_option maxHeartbeats 16000000
namespace Go.Proofs.YtdgifkjaflfdeaaGreatDoor.syn
open Tryz
open Go.RowKit
variable {l order:List Int}{y W W' w W0 w4:World}{i n t m c b wb T ci cn ct cl pb cp cj:Nat}{x u:Int}{f:FD}{B:List (Nat × Nat)}{a:AD}{v q g j s0 s1 s2 s3 s4 s6 v':Value}{d:Array YK}{S:Nat->Prop}{ja ai an aT al:Option Addr}{vs:List Value}
def Qk(f:FD)(B:List (Nat × Nat))(a:AD)(n:Int):Option Int :=
 if a.src-(f.ins.length:Int)<0 then none
 else if (index.X6 a.ops n).2.2=1 then some ((plP B B.length (a.src-(f.ins.length:Int)).toNat).getD (index.X6 a.ops n).1.toNat 0) else none
theorem ZcK{y:Int}(h:y∈l.take i):l.idxOf y<i:=by
 obtain⟨j,g,e⟩:=Yl h;rw[Ya] at g;rw[List.getElem_take] at e;have m:l.idxOf y<=j:=by
  apply Yg;intro f;have:=List.not_of_lt_findIdx (p:=(· == y)) (xs:=l) (i:=j) (by unfold List.idxOf at f;omega);simp[e] at this
 omega
theorem kB(g:l.Nodup)(h:x∈l):l[l.idxOf x]?=some x:=by
 have f:=List.idxOf_lt_length_iff.2 h;rw[Ze f];have:=List.findIdx_getElem (p:=(· == x)) (xs:=l) (w:=f);exact Z2 some (eq_of_beq this)
theorem Ge(h:Xg f order u B)(U:YQ f order){C A:Int}(G:Xt f a C A=true){n:Int}(T:A+n*C<u)(j:Qk f B a n=some x) :
  ∃p s k:Nat,x=(p:Int)/\B[p]?=some (s,k)/\s<f.tasks.length/\k<Qu f u s/\a.src=(f.ins.length:Int)+(s:Int)/\(index.X6 a.ops n).1=(k:Int)/\(plP B B.length s)[k]?=some x/\(index.X6 a.ops n).2.2=1 /\
   XQ f (s,k)<=A+n*C/\(a.ops.any VK=true->XQ f (s,k)<A+n*C):=by
 unfold Qk at j;split at j
 .cases j
 rename_i h0
 split at j
 .rename_i h1
  injection j with j
  rcases hb:index.X6 a.ops n with ⟨m,y,z⟩
  rw[hb] at h1 j;simp only at h1 j;subst h1;obtain⟨Y,sp,Z,g,H,V,E,F⟩:=uU G hb;obtain⟨s,M⟩:∃s:Nat,a.src=(f.ins.length:Int)+(s:Int):=⟨(a.src-(f.ins.length:Int)).toNat,oq⟩;have q:s<f.tasks.length:=by
   have:=zx (i:=a.src) (f:=f) (by rw[g];rfl) oq;omega
  have I:=V2 q;rw[M,I] at g;rw[Vy q] at g;injection g with g
  injection g with e1 e2
  subst e1;subst e2;obtain⟨k,rfl⟩:∃k:Nat,m=(k:Int):=⟨m.toNat,oq⟩;have v:=(clock.Y1.1 H).1;have L:k<Qu f u s:=(XN v k).2 oq;obtain⟨X,O⟩:=h.place U q v;obtain⟨p,J,R⟩:=O k L;have D:(a.src-(f.ins.length:Int)).toNat=s:=oq;rw[D,ZQ,Zf,J] at j;exact⟨p,s,k,j.symm,R,q,L,M,rfl,by rw[J];exact Z2 some j,rfl,E,F⟩
 cases j
theorem Zgv(h:Xg f order u B)(j:YQ f order)(I:∀t,t<f.tasks.length->∀a∈(tkO f t).args,Xt f a (tkO f t).per (tkO f t).ph=true)
  (ht:t<f.tasks.length)(H:1<=(tkO f t).per)(G:n<Qu f u t)(A:a∈(tkO f t).args)(L:Qk f B a (n:Int)=some x) :
  ∃p s k:Nat,x=(p:Int)/\B[p]?=some (s,k)/\RJ f order (s,k) (t,n):=by
 have q:=I t ht a A;obtain⟨p,s,k,rfl,C,y,M,J,_,_,_,E,m⟩:=Ge h j q ((XN H n).1 G) L;refine⟨p,s,k,rfl,C,?_⟩;unfold RJ;by_cases g:a.ops.any VK=true
 .exact .inl (m g)
 by_cases v:XQ f (s,k)<XQ f (t,n)
 .exact .inl v
 refine .inr ⟨by have:XQ f (t,n)=(tkO f t).ph+(n:Int)*(tkO f t).per:=rfl;omega,?_⟩;have F:(s:Int)∈Y8 f t:=by
  rw[K4 (Ze ht)];unfold Y9;refine Gz (List.mem_mergeSort.2 (List.mem_filterMap.2 ⟨a,by rw[Vy ht];exact A,?_⟩));unfold QL;rw[Z0 g,J];unfold zY;rw[V2 y,Z1 ⟨rfl,oq⟩];congr 1;omega
 have z:=j.all t ht;have D:=j.top _ (t:Int) (kB j.nd z) (s:Int) (by rw[ZQ];exact F);exact ZcK D
theorem Ep:∀(l:List index.Op3)(p q p' q':Int),clock.YO p q l=(p',q',0)->l.all index.JX=true
 | [],p,q,p',q',h=>rfl
 | x::r,p,q,p',q',h=>by
  obtain⟨k,N,d⟩:=x;rw[clock.YO] at h;rcases ha:clock.YG p q k N d with ⟨p1,f1,e1⟩
  simp only[ha] at h;split at h
  .rename_i he
   subst he;rw[List.all_cons,Ep r p1 f1 p' q' h,Bool.and_true];have h1:=Qa ha;have h2:=Yi (show decide _=true from h1.2.2.1);unfold index.JX;refine ZZ ⟨h1.2.2.2.1,h1.2.2.2.2,fun h5=>h2.1 (by show k=3\/k=4;have:=h1.2.2.2.1;have h6:k<5:=h5;omega),fun h5=>?_⟩;have:=h2.2 h5;exact⟨this.2.2.1,this.2.2.2,this.1,this.2.1⟩
  rename_i he
  simp only[Z3] at h;exact absurd h.2.2 he
theorem qM{v q:Int}(h:Xt f a v q=true):a.ops.all index.JX=true:=by
 unfold Xt at h
 cases hs:Jj f a.src with
 | none=>rw[hs] at h;cases h
 | some s =>
  obtain⟨z,y⟩:=s;rw[hs] at h;simp only[ZB,Yj] at h;obtain⟨_,g,j,m⟩:=h;unfold clock.KJ at g j m;by_cases x:clock.YH z y=true
  .rw[Z1 x] at g j m;exact Ep a.ops z y v q (by rw[<-g,<-j,<-m])
  rw[Z0 x] at g;simp at g
theorem Jr:∀(l:List index.Op3)(n:Int)(e:index.GK),index.Y4 l n=.error e->e.2.2=2\/e.2.1=0
 | [],n,e,h=>by cases h
 | o::r,n,e,h=>by
  unfold index.Y4 at h
  cases hs:index.YU o n with
  | ok t=>rw[hs] at h;exact Jr r t e h
  | error e' =>
   rw[hs] at h
   cases h
   unfold index.YU at hs;split at hs
   .cases hs;exact .inl rfl
   split at hs
   .cases hs
   cases hs;exact .inr rfl
open Go.RowKit Go.Sort
structure JH (W:World) (jb jo:Nat) (d:Array YK):Prop where
 holds:HoldsK XX 5 W jb jo d
 lt:jb<W.1.size
theorem JH.cell{W:World}{jb f:Nat}{d:Array YK}(h:JH W jb f d){i:Nat}(hi:i<d.size) :
  (W.cell? ⟨jb,f+i*5,none⟩=some (.int .i64 d[i]!.t)/\W.cell? ⟨jb,f+i*5+1,none⟩=some (.int .i64 d[i]!.n)/\W.cell? ⟨jb,f+i*5+2,none⟩=some (.int .i64 d[i]!.r)/\W.cell? ⟨jb,f+i*5+3,none⟩=some (.int .i64 d[i]!.d)/\W.cell? ⟨jb,f+i*5+4,none⟩=some (.slice d[i]!.na d[i]!.nl d[i]!.nc)) /\
   W.frozen? ⟨jb,f+i*5+3,none⟩=false/\W.frozen? ⟨jb,f+i*5+4,none⟩=false:=by
 have m:=HoldsK.cell h.holds hi (c:=0) oq;have q:=HoldsK.cell h.holds hi (c:=1) oq;have v:=HoldsK.cell h.holds hi (c:=2) oq;have g:=HoldsK.cell h.holds hi (c:=3) oq;have j:=HoldsK.cell h.holds hi (c:=4) oq;exact⟨⟨m.1,q.1,v.1,g.1,j.1⟩,g.2,j.2⟩
theorem JH.but{jb f:Nat}(h:JH W jb f d)(hb:W'.1[jb]?=W.1[jb]?):JH W' jb f d:=by
 refine⟨fun j hj=>?_,?_⟩
 .have g:=h.holds j hj;refine⟨(Zn (w:=W) (a:=⟨jb,f+j,none⟩) hb).trans g.1,?_⟩;have:W'.frozen? ⟨jb,f+j,none⟩=W.frozen? ⟨jb,f+j,none⟩:=by unfold World.frozen?;rw[hb]
  rw[this];exact g.2
 have g:=h.lt;apply Yg;intro m;rw[Array.getElem?_eq_none oq,Ym g] at hb
 cases hb
theorem JH.put{jb m:Nat}(h:JH W jb m d)(hi:i<d.size)(I:c<5){x:YK}(D:(XX d[i]!).set c v=XX x):JH (W.setCell ⟨jb,m+i*5+c,none⟩ v) jb m (d.setIfInBounds i x):=by
 refine⟨fun j hj=>?_,by simpa using h.lt⟩;have f:j<d.size*5:=by simpa using hj
 have y:=h.holds j (by simpa using f);rw[get_flatK _ _ _ _ (by simpa using f)];rw[get_flatK _ _ _ _ f] at y;refine⟨?_,by rw[World.frozen?_setCell];exact y.2⟩;by_cases z:j=i*5+c
 .subst z;have E:(i*5+c)/5=i:=oq;have F:(i*5+c)%5=c:=oq;rw[E,F,getElem!_set_same _ _ _ hi,<-D];have H:((XX d[i]!).set c v)[c]! = v:=by
   rw[getElem!_pos _ c (by simp;exact I)];simp
  show(W.setCell _ v).cell? ⟨jb,m+(i*5+c),none⟩=some (id _);rw[H,<-Nat.add_assoc];refine World.cell?_setCell_same' _ _ _ ?_;rw[Nat.add_assoc,y.1];rfl
 have G:(W.setCell ⟨jb,m+i*5+c,none⟩ v).cell? ⟨jb,m+j,none⟩=W.cell? ⟨jb,m+j,none⟩:=World.cell?_setCell_other _ _ _ _ (by intro e;injection e with _ e _;omega);rw[G,y.1];congr 2;by_cases C:j/5=i
 .rw[C,getElem!_set_same _ _ _ hi,<-D];have J:j%5≠c:=fun e=>z oq
  have q:j%5<5:=Nat.mod_lt _ oq;have A:(XX d[i]!).length=5:=rfl;rw[getElem!_pos _ (j%5) (show j%5<(XX d[i]!).length by rw[A];exact q),getElem!_pos _ (j%5) (show j%5<((XX d[i]!).set c v).length by rw[List.length_set,A];exact q),List.getElem_set_ne (fun e=>J e.symm)]
 have g:j/5<d.size:=oq;have:(d.setIfInBounds i x)[j/5]! = d[j/5]!:=by
  rw[getElem!_pos d _ g,getElem!_pos (d.setIfInBounds i x) _ (by simpa using g),Array.getElem_setIfInBounds_ne (by simpa using g) (fun e=>C e.symm)]
 rw[this]
def Xb(d:Array YK)(p:Nat)(x:Int):Array YK:=d.setIfInBounds p { d[p]! with d:=min d[p]!.d x }
theorem Qs(d:Array YK)(p:Nat)(x:Int):(Xb d p x).size=d.size:=by simp[Xb]
def ZgQ(W:World)(jb jo:Nat)(d':Array YK)(e:Ending)(w':World):Prop:=e=.returned (.tuple #[])/\JH w' jb jo d'/\But (fun k=>k=jb) W w'
theorem yi(q jb j A:Nat)(d:Array YK)(I:W.cell? ⟨q,5,none⟩=some (.slice (some ⟨jb,j,none⟩) d.size A))(f:JH W jb j d)(p:Nat)(g:p<d.size)(x:Int) :
  Calls prog 113 #[.pointer (some ⟨q,0,none⟩),.int .i64 (p:Int),.int .i64 x] W (ZgQ W jb j (Xb d p x)):=by
 obtain⟨⟨D,E,F,G,H⟩,L,C⟩:=f.cell g;obtain⟨y,hy⟩:=ez (d[p]!.d);rw[hy] at G;have v:=hid f;have z:=hid hy;have M:(0:Int)<=(p:Int):=oq;have J:(p:Int)<(d.size:Int):=oq;obtain⟨n,m⟩:=ez d.size;rw[m] at I g J;clear D E F H C f hy;go_enter func113,ntmps113;go_still_tail 17,kq
 change wpList _ _ _ _ _ W.drew
 go_wp2;go_end0;refine⟨rfl,?_,?_⟩
 .rw[show Xb d p x=d.setIfInBounds p { d[p]! with d:=min y x } by unfold Xb;rw[z.o]];exact(v.o.but (W':=W.drew) rfl).put (by rw[m];exact g) oq rfl
 exact((But.refl _ W).drew).then (But.set (S:=fun k=>k=jb) rfl _) (fun _ _ e=>e)
def KG(w:World)(b o:Nat)(x:Int):Prop:=w.cell? ⟨b,o,none⟩=some (.int .i64 x)
theorem kF:Sta KG:=fun w w' b o x hb hlt h=>(hb.cell (p:=⟨b,_,none⟩) hlt).trans h
def PlM(W:World)(pb:Nat)(Pl:Nat->List Int)(T:Nat):Prop:=pb<W.1.size/\∀s,s<T->∃a c,W.cell? ⟨pb,s,none⟩=some (.slice a (Pl s).length c)/\Row KG 1 W (Pl s) a
theorem PlM.below{W W':World}{f:Nat}{g:Nat->List Int}{T:Nat}(h:PlM W f g T)(hb:Below W.1.size W W'):PlM W' f g T:=by
 refine⟨Zd h.1 hb.size,fun s hs=>?_⟩;obtain⟨a,c,j,m⟩:=h.2 s hs;exact⟨a,c,(hb.cell (p:=⟨f,s,none⟩) h.1).trans j,m.below kF hb⟩
def vh(o:Option Int):Value:=.tuple #[.int .i64 (o.getD 0),.bool o.isSome]
theorem ze(f:FD)(B:List (Nat × Nat))(R pb ci cp:Nat)(ai:Option Addr)(hI:f.ins.length<=1000)(hT:f.tasks.length<=30)(aa:R<W.1.size)(c0:W.cell? ⟨R,0,none⟩=some (.slice ai f.ins.length ci))(c6:W.cell? ⟨R,6,none⟩=some (.slice (some ⟨pb,0,none⟩) f.tasks.length cp))
  (hP:PlM W pb (plP B B.length) f.tasks.length)(a:AD)(V:Option Addr)(cap:Nat)(hr:Row OpR 3 W a.ops V)(hl:a.ops.length<=1000)(ag:0<=a.src/\a.src<=100000)(n:Int)
  (M:∀x,Qk f B a n=some x->∃s k:Nat,s<f.tasks.length/\a.src=(f.ins.length:Int)+(s:Int)/\(index.X6 a.ops n).1=(k:Int)/\(plP B B.length s)[k]?=some x) :
  Calls prog 110 #[.pointer (some ⟨R,0,none⟩),.agg #[.int .i64 a.src,.slice V a.ops.length cap],.int .i64 n] W fun e w'=>e=.returned (vh (Qk f B a n))/\Below W.1.size W w':=by
 obtain⟨src,ops⟩:=a;simp only at hr hl ag M ⊢;have C:=hid (fun(w1:World) (hb:Below W.1.size W w1)=>index.Zcb ops V cap n w1 oq (Zai (hr.below VV hb)));have z:=hid M;have HP:=hid hP;obtain⟨nI,A⟩:=ez f.ins.length;obtain⟨T,F⟩:=ez f.tasks.length;rw[A] at c0 hI z;rw[F] at c6 hT z HP;obtain⟨J,j⟩:=ez (W.alloc (.cells #[.int .i64 src,.slice V ops.length cap] 92));have hb1:Below W.1.size W J:=by rw[<-j];exact bq
 have I:J.1[W.1.size]?=some (.cells #[.int .i64 src,.slice V ops.length cap] 92 (0,0)):=by rw[<-j];exact Yx W _
 obtain⟨⟨z0,z1⟩,zf⟩:=YL I;have ak:=(hb1.cell (p:=⟨R,0,none⟩) aa).trans c0;have aq:=Zb I;have v1:IntKind.i64.wrap (src-(nI:Int))=src-(nI:Int):=ZK _ oq;have HB1:=hid hb1;have ab:=hid c6;have aj:=hid I;obtain⟨q,hq⟩:=ez (src-(nI:Int));rw[hq] at v1;have U:=hid hq;clear hr M hP c0 c6 hb1 I;by_cases h0:q<0
 .have E:Qk f B ⟨src,ops⟩ n=none:=by unfold Qk;rw[A];exact Z1 (by rw[U.o];exact h0)
  rw[E];clear E A F;go_enter func110,ntmps110;go_upto_region 1 with fail
  first|rw[j]|skip
  clear j;go_still kq
  change Exit.then _ _ Exit.normal _ J.drew
  go_wp2;refine Zl (v:=vh none) (by simp only[results,results110];go_simp;rfl) rfl ⟨rfl,HB1.o.drew⟩
 have an:decide (q<0)=false:=ZY h0;obtain⟨s,hs⟩:∃s:Nat,q=(s:Int):=⟨q.toNat,oq⟩;obtain⟨⟨m,y,kd⟩,D⟩:∃r,index.X6 ops n=r:=⟨_,rfl⟩;rw[D] at C z;unfold index.T3i at C;simp only at C z;by_cases X:kd=1
 .subst X;have E:Qk f B ⟨src,ops⟩ n=some ((plP B B.length s).getD m.toNat 0):=by
   unfold Qk;rw[A,Z0 (by rw[U.o];exact h0),U.o,hs,ZQ];simp only[D];rw[Z1 trivial]
  obtain⟨O,k,ah,Z,ae,H⟩:=z.o _ E;have af:=U.o;obtain rfl:O=s:=oq;subst ae;rw[ZQ] at E;obtain⟨x,hx⟩:=ez ((plP B B.length O).getD k 0);rw[ZQ,hx] at H;rw[E,hx];obtain⟨pa,pc,g1,g2⟩:=HP.o.2 O ah;have Y:=(ZA.1 H).1;obtain⟨b,o,rfl,ac,g⟩:=g2.at Y;unfold KG at g;rw[Z7,(ZA.1 H).2] at g;obtain⟨L,hL⟩:=ez ((plP B B.length O).length);rw[hL] at g1 Y;have G:=hid (Zh g1 (Zh g (Zh ac HP.o.1)));have s0:(0:Int)<=(O:Int):=oq;have s1:(O:Int)<(T:Int):=oq;have k0:(0:Int)<=(k:Int):=oq;have k1:(k:Int)<(L:Int):=oq;clear Z af;subst hs;clear E A F D H hx g1 g2 g hL z;go_enter func110,ntmps110;go_upto_region 1 with fail
  first|rw[j]|skip
  clear j;go_still kq
  change Exit.then _ _ Exit.normal _ J.drew
  go_wp2_with (go_at_call 87;refine(C.o _ HB1.o.drew).mono ?_;rintro e w2 ⟨rfl,hb2⟩;have HB2:=hid (HB1.o.drew.trans (hb2.mono (by have:=HB1.o.size;show W.1.size<=J.1.size;exact this)));have c6:=(HB2.o.cell (p:=⟨R,6,none⟩) aa).trans ab.o;have al:=(HB2.o.cell (p:=⟨pb,O,none⟩) G.o.2.2.2).trans G.o.1;have am:=(HB2.o.cell (p:=⟨b,o+k,none⟩) G.o.2.2.1).trans G.o.2.1;clear hb2);refine Zl (v:=vh (some x)) (by simp only[results,results110];go_simp;rfl) rfl ⟨rfl,HB2.o⟩
 have E:Qk f B ⟨src,ops⟩ n=none:=by
  unfold Qk;rw[A,Z0 (by rw[U.o];exact h0)];simp only[D];rw[Z0 X]
 rw[E];have ao:(kd == 1)=false:=ZX.2 X;have ap:(kd != 1)=true:=by simp[X]
 clear E A F hs D z X;go_enter func110,ntmps110;go_upto_region 1 with fail
 first|rw[j]|skip
 clear j;go_still kq
 change Exit.then _ _ Exit.normal _ J.drew
 go_wp2_with (go_at_call 87;refine(C.o _ HB1.o.drew).mono ?_;rintro e w2 ⟨rfl,hb2⟩;have HB2:=hid (HB1.o.drew.trans (hb2.mono (by have:=HB1.o.size;show W.1.size<=J.1.size;exact this)));clear hb2);refine Zl (v:=vh none) (by simp only[results,results110];go_simp;rfl) rfl ⟨rfl,HB2.o⟩
open Go.RowKit Go.Shelf Go.Sort
attribute [local go_sem] ZT
theorem eX:(prog.info? 128).map (fun i=>(i.zero,i.size,i.bytes))=some (some (.agg #[.int .i64 0,.int .i64 0,.int .i64 0,.int .i64 0,.slice none 0 0]),5,56):=by kernel_rfl
theorem Xj{f g j m q v x:Value}{t:TypeId}(h:w.1[b]?=some (.cells #[f,g,j,m,q,v,x] t (0,0))) :
  (w.cell? ⟨b,0,none⟩=some f/\w.cell? ⟨b,1,none⟩=some g/\w.cell? ⟨b,2,none⟩=some j/\w.cell? ⟨b,3,none⟩=some m/\w.cell? ⟨b,4,none⟩=some q/\w.cell? ⟨b,5,none⟩=some v/\w.cell? ⟨b,6,none⟩=some x)/\∀o,w.frozen? ⟨b,o,none⟩=false:=by
 refine⟨⟨?_,?_,?_,?_,?_,?_,?_⟩,?_⟩
 all_goals first|(intro o;simp[World.frozen?,h])|simp[World.cell?,h]
structure NwS (w W:World) (fb wx:Array Value) (T bf bw wb pb:Nat):Prop where
 below:Below w.1.size w W
 lo:w.1.size<=bf/\w.1.size<=bw/\w.1.size<=wb/\w.1.size<=pb
 ne:bf≠bw/\bf≠wb/\bf≠pb/\bw≠wb/\bw≠pb/\wb≠pb
 bfb:W.1[bf]?=some (.cells fb 35 (0,0))
 bwb:Boxed W bw 122 (.pointer (some ⟨wb,0,none⟩))
 box:W.1[wb]?=some (.cells wx 126 (0,0))
 row:W.1[pb]?=some (.cells (List.replicate T (.slice none 0 0)).toArray 44 (0,0))
def mkJ(f:FD)(b:Nat × Nat):YK:=⟨(b.1:Int),(b.2:Int),XQ f b,XQ f b+(tkO f b.1).per,none,0,0⟩
structure WnJ (W0 W:World) (wb:Nat) (s0 s1 s2 s3 s4 s6 v:Value) (d:List YK):Prop where
 but:But (fun k=>k=wb) W0 W
 lt:wb<W0.1.size
 box:W.1[wb]?=some (.cells #[s0,s1,s2,s3,s4,v,s6] 126 (0,0))
 own:W.ownsRow W0.1.size 128 5 v d.length (d.flatMap XX)
theorem WnJ.below{d:List YK}(h:WnJ W0 W wb s0 s1 s2 s3 s4 s6 v d)(hb:Below W.1.size W W'):WnJ W0 W' wb s0 s1 s2 s3 s4 s6 v d :=
 ⟨h.but.then (But.of_below (S:=fun _=>False) hb) (fun _ _ e=>e.elim),h.lt,(hb.block _ (Zb h.box)).trans h.box,own_below h.own hb⟩
theorem WnJ.grown{j:Nat}{d:List YK}(h:WnJ W0 W j s0 s1 s2 s3 s4 s6 v d){row:Option Nat}(m:W.grownBy W' row)(q:∀r,row=some r->W0.1.size<=r/\∃o:Obj,W.1[r]?=some o/\o.isCells=false):WnJ W0 W' j s0 s1 s2 s3 s4 s6 v d:=by
 have y:=h.lt;refine⟨h.but.then (But.of_grown m) (fun i hi e=>by have:=(q i e).1;omega),h.lt,(m.block j (Zb h.box) (fun e=>by have:=(q j e.symm).1;omega)).trans h.box,h.own.kept m ?_⟩;rcases h.own.2 with ⟨rfl,_⟩|⟨g,cap,cur,rfl,hb,hgg,_⟩
 .exact .inl rfl
 refine .inr (fun e=>?_);obtain⟨_,o,f,x⟩:=q g e.symm;rw[hgg] at f;injection f with f
 subst f
 cases x
theorem WnJ.app{f:Nat}{d:List YK}(h:WnJ W0 W f s0 s1 s2 s3 s4 s6 v d){x:YK}(j:w4.ownsRow W0.1.size 128 5 v' (d.length+1) (d.flatMap XX++XX x))(hb4:But (fun k=>v.ownBlock=some k) W w4) :
  WnJ W0 (w4.setCell ⟨f,5,none⟩ v') f s0 s1 s2 s3 s4 s6 v' (d++[x]):=by
 have q:=h.lt;have g:=X1 h.own;have m:=(hb4.block f (Zb h.box) (fun e=>by have:=g f e;omega)).trans h.box;refine⟨(h.but.then hb4 (fun i hi e=>by have:=g i e;omega)).then (But.set (S:=fun k=>k=f) rfl _) (fun _ _ e=>e),h.lt,?_,?_⟩
 .have:=Zj _ f 5 _ _ v' m;simpa only [sA,sB,sC] using this
 rw[Zx,List.flatMap_append];refine XO ?_ h.lt v';simpa using j
theorem WnJ.start(hb:W.1[wb]?=some (.cells #[s0,s1,s2,s3,s4,.slice none 0 0,s6] 126 (0,0))):WnJ W W wb s0 s1 s2 s3 s4 s6 (.slice none 0 0) [] :=
 ⟨But.refl _ _,Zb hb,hb,Ye _ _ _ _⟩
theorem gR(h:i<order.length):J0 f (order.take (i+1)) u=J0 f (order.take i) u++XE order[i].toNat (Qu f u order[i].toNat):=by
 unfold J0;rw[Zv h,List.flatMap_append];simp
theorem kG(t n:Nat):XE t (n+1)=XE t n++[(t,n)]:=by unfold XE;rw[Yh,ZU];rfl
theorem ud{f:FD}{order:List Int}{u:Int}(g:Vj f)(m:u<=20000)(j:∀x∈order,0<=x/\x<(f.tasks.length:Int)):∀i,i<=order.length->(J0 f (order.take i) u).length<=i*20000
 | 0,_=>by simp[J0]
 | i+1,h=>by
  rw[gR oq,Zx];have h1:=ud g m j i oq;have h2:=j order[i] (Zi oq);have h3:=Ka g m (t:=order[i].toNat) oq;have h4:(XE order[i].toNat (Qu f u order[i].toNat)).length=Qu f u order[i].toNat:=by simp[XE]
  omega
open Go.RowKit Go.Shelf Go.Sort Go.Lib
theorem yH(f:l.Nodup)(hi:i<l.length):l.idxOf l[i]=i:=by
 have q:=kB f (Zi hi);obtain⟨j,m⟩:=ZA.1 q;rw[List.nodup_iff_pairwise_ne,List.pairwise_iff_getElem] at f;apply Yg;intro g;rcases Nat.lt_or_gt_of_ne g with h|h
 .exact f _ _ j hi h m
 exact f _ _ hi j h m.symm
theorem Zej(g:YQ f order):(J0 f order u).Pairwise (fun a b=>order.idxOf (a.1:Int)<order.idxOf (b.1:Int)\/(a.1=b.1/\a.2<b.2)):=by
 unfold J0;rw[List.pairwise_flatMap];refine⟨fun t _=>?_,?_⟩
 .unfold XE;rw[List.pairwise_map];exact List.pairwise_lt_range.imp (fun h=>.inr ⟨rfl,h⟩)
 rw[List.pairwise_iff_getElem];intro i j hi v q x z y hy;unfold XE at z hy;obtain⟨k,_,rfl⟩:=Yd.1 z;obtain⟨m,_,rfl⟩:=Yd.1 hy;have A:=g.rng _ (Zi hi);have C:=g.rng _ (Zi v);refine .inl ?_;show order.idxOf ((order[i].toNat:Nat):Int)<order.idxOf ((order[j].toNat:Nat):Int);rw[show((order[i].toNat:Nat):Int)=order[i] by omega,show((order[j].toNat:Nat):Int)=order[j] by omega,yH g.nd hi,yH g.nd v];exact q
def jb(x:YK):Nat × Nat:=(x.t.toNat,x.n.toNat)
theorem yA(f:FD)(b:Nat × Nat):jb (mkJ f b)=b:=by unfold jb mkJ;simp
theorem Zcg(x y:YK):ltOf cfJ x y=decide (x.r<y.r):=by
 unfold ltOf cfJ Zci;by_cases h:x.r<y.r
 .rw[Z1 h];simp[h]
 rw[Z0 h];by_cases f:y.r<x.r
 .rw[Z1 f];simp[h]
 rw[Z0 f];simp[h]
theorem Zfk(V:YQ f order)(hc:Vj f){g:Array YK}(h:KH (ltOf cfJ) ((J0 f order u).map (mkJ f)).toArray g):∃B,g=(B.map (mkJ f)).toArray/\Xg f order u B:=by
 obtain⟨⟨E,_,X⟩,hs⟩:=h;have U:g.toList.Perm ((J0 f order u).map (mkJ f)):=by
  have F:(g.extract 0 ((J0 f order u).map (mkJ f)).toArray.size)=g:=by rw[<-E];simp
  have G:(((J0 f order u).map (mkJ f)).toArray.extract 0 ((J0 f order u).map (mkJ f)).toArray.size)=((J0 f order u).map (mkJ f)).toArray:=Array.extract_size;rw[F,G] at X;simpa using X
 have C:∀x∈g.toList,mkJ f (jb x)=x:=fun x hx=>by
  obtain⟨b,_,rfl⟩:=Yd.1 (U.mem_iff.1 hx);rw[yA]
 have hB:(g.toList.map jb).map (mkJ f)=g.toList:=by
  rw[List.map_map]
  conv=>rhs;rw[<-List.map_id g.toList]
  exact List.map_congr_left (fun x hx=>C x hx)
 refine⟨g.toList.map jb,by rw[hB],?_,?_⟩
 .have A:=U.map jb;rw[List.map_map] at A;have H:(J0 f order u).map (jb∘mkJ f)=J0 f order u:=by
   conv=>rhs;rw[<-List.map_id (J0 f order u)]
   exact List.map_congr_left (fun b _=>yA f b)
  rw[H] at A;exact A.symm
 have Y:=hs (fun x y=>RJ f order (jb x) (jb y)) (fun x y z A H=>A.trans H) ?_
 .rw[List.pairwise_map,List.pairwise_iff_getElem];intro i j hi T L;have R:=Y i j (Zk _) L (by rw[<-E];simpa using T);rw[getElem!_pos g i (by simpa using hi),getElem!_pos g j (by simpa using T)] at R;simpa using R
 intro p q O hq;have D:q<(J0 f order u).length:=by simpa using hq
 have m:p<(J0 f order u).length:=oq;have F:((J0 f order u).map (mkJ f)).toArray[p]! = mkJ f (J0 f order u)[p]:=by rw[getElem!_pos _ p (by simpa using m)];simp
 have G:((J0 f order u).map (mkJ f)).toArray[q]! = mkJ f (J0 f order u)[q]:=by rw[getElem!_pos _ q (by simpa using D)];simp
 rw[F,G];have v:=List.pairwise_iff_getElem.1 (Zej V (u:=u)) p q m D O;obtain⟨a,I⟩:=ez ((J0 f order u)[p]);obtain⟨b,hb⟩:=ez ((J0 f order u)[q]);have M:a∈J0 f order u:=by rw[<-I];exact Zi m
 rw[I,hb] at v;rw[I,hb];refine⟨fun hlt=>?_,fun hlt=>?_⟩
 .show RJ f order (jb (mkJ f a)) (jb (mkJ f b));rw[yA,yA];rw[Zcg] at hlt;have h6:¬XQ f b<XQ f a:=of_decide_eq_false hlt;unfold RJ;rcases v with v|⟨v,h7⟩
  .by_cases Z:XQ f a<XQ f b
   .exact .inl Z
   exact .inr ⟨oq,v⟩
  refine .inl ?_;have J:=(Zdc V (u:=u) (t:=a.1) (n:=a.2)).1 M;have aa:=(hc a.1 J.1).1;unfold XQ;rw[<-v];have h9:=Int.mul_le_mul_of_nonneg_right (show(a.2:Int)+1<=(b.2:Int) by omega) (show 0<=(tkO f a.1).per by omega);rw[Int.add_mul] at h9;omega
 show RJ f order (jb (mkJ f b)) (jb (mkJ f a));rw[yA,yA];rw[Zcg] at hlt;exact .inl (Yi hlt)
theorem Za0{f:List YK}(h:t<f.length*5):(f.flatMap XX)[t]?=some (XX f.toArray[t/5]!)[t%5]!:=by
 induction f generalizing t with
 | nil=>simp at h
 | cons x f ih =>
  rw[List.flatMap_cons];by_cases ht:t<5
  .rw[List.getElem?_append_left (show t<(XX x).length from ht)];have g:t/5=0:=oq;have j:t%5=t:=oq;rw[g,j];have:(x::f).toArray[0]! = x:=rfl;rw[this,getElem!_pos _ t (show t<(XX x).length from ht),Ze]
  rw[List.getElem?_append_right (show(XX x).length<=t by show 5<=t;omega)];have q:(XX x).length=5:=rfl;rw[q,ih (t:=t-5) (by simp at h;omega)];have g:t/5=(t-5)/5+1:=oq;have j:(t-5)%5=t%5:=oq;rw[g,j];have m:(t-5)/5<f.length:=by simp at h;omega
  have:(x::f).toArray[(t-5)/5+1]! = f.toArray[(t-5)/5]!:=by
   rw[getElem!_pos _ _ (by simp;exact m),getElem!_pos _ _ (by simpa using m)];simp
  rw[this]
theorem yK{base g c:Nat}{j:List YK}(h:W.ownsRow base 128 5 (.slice (some ⟨g,0,none⟩) j.length c) j.length (j.flatMap XX)):JH W g 0 j.toArray:=by
 rcases h.2 with ⟨e,_⟩|⟨g',cap,cur,e,hb,hg,hnc,hcm,hcs,htk⟩
 .cases e
 injection e with e1 e2 e3
 injection e1 with e1
 injection e1 with e1
 subst e1;refine⟨fun t ht=>?_,Zb hg⟩;have f:t<j.length*5:=by simpa using ht
 rw[get_flatK _ _ _ _ (by simpa using f),ZD];refine⟨?_,by simp[World.frozen?,hg]⟩;rw[Z6 W g t cur _ (0,0) hg,<-Array.getElem?_toList];have m:=Za0 f;rw[<-htk,Yn f] at m;exact m
theorem vE(w:World):Calls prog 108 #[.slice none 0 0,.func (.func 109) #[] #[]] w fun e w'=>e=.returned (.tuple #[])/\Below w.1.size w w':=by
 have f:∀W,Calls prog 214 #[.slice none 0 0,.int .i64 0,.int .i64 0,.func (.func 109) #[] #[]] W fun e w'=>e=.returned (.tuple #[])/\Below W.1.size W w':=fun W=>by
  go_enter func214,ntmps214;go_wp2;go_loopw [8] (fun s8 W'=>Hid (s8=.int .i64 1/\Below W.1.size W W')) (fun _ _=>0)
  case atStart=>exact⟨by go_num,bq⟩
  obtain⟨rfl,hb⟩:=hrel.o;clear hrel;have HB:=hid hb;clear hb;go_wp2;go_end0;exact⟨rfl,HB.o⟩
 have g:∀W,Calls prog 175 #[.slice none 0 0,.int .i64 0,.func (.func 109) #[] #[]] W fun e w'=>e=.returned (.tuple #[])/\Below W.1.size W w':=fun W=>by
  go_enter func175,ntmps175;go_wp2;go_loopw [7,8] (fun s7 s8 W'=>Hid (s7=.int .i64 0/\s8=.int .i64 20/\Below W.1.size W W')) (fun _ _ _=>0)
  case atStart=>exact⟨rfl,rfl,Zg _ _⟩
  obtain⟨rfl,rfl,hb⟩:=hrel.o;clear hrel;have HB:=hid hb;clear hb;go_wp2_with (go_at_call 214;refine(f _).mono ?_;rintro e j ⟨rfl,hb2⟩;have HB2:=hid (HB.o.trans (hb2.mono HB.o.size));clear hb2);go_loopw [6] (fun s6 W'=>Hid (s6=.int .i64 20/\Below W.1.size W W')) (fun _ _=>0)
  case atStart=>exact⟨rfl,HB2.o⟩
  obtain⟨rfl,hb⟩:=hrel.o;clear hrel;have HB3:=hid hb;clear hb;go_wp2;go_end0;exact⟨rfl,HB3.o⟩
 go_enter func108,ntmps108;go_wp2_with (go_at_call 175;refine(g _).mono ?_;rintro e j ⟨rfl,hb2⟩);go_end0;exact⟨rfl,hb2⟩
theorem Zfo{α:Type}[Inhabited α]{enc:α->List Value}{k:Nat}{f off:Nat}{d:Array α}(h:SWK enc k w f off d W'):But (fun b=>b=f) w W':=by
 obtain⟨m,os,rfl⟩:=h;refine⟨rfl,rfl,rfl,?_,fun b hb hne=>?_⟩
 .simp[sortWorldK,putRowK,putRow,mapBlock,grow,ahead]
 unfold sortWorldK;rw[heap_grow_old _ _ (by simpa [putRowK,putRow,mapBlock,ahead] using hb)];simp only[putRowK,putRow,mapBlock,ahead,Array.getElem?_modify];rw[Z0 (fun e=>hne e.symm)];rfl
def jaB(ja:Option Addr):Option Nat:=ja.map (·.block)
structure BC (S:Nat->Prop) (W W':World):Prop where
 size:W.1.size<=W'.1.size
 block:∀(k:Nat)(cs:Array Value)(t:TypeId)(fr:Nat × Nat),W.1[k]?=some (.cells cs t fr)->¬S k->W'.1[k]?=some (.cells cs t fr)
theorem BC.of_but(h:But S W W'):BC S W W':=⟨h.size,fun k _ _ _ hk hs=>(h.block k (Zb hk) hs).trans hk⟩
theorem BC.of_mk{lo:Nat}(h:MkW lo W W'):BC S W W':=⟨Nat.le_of_eq h.size.symm,fun k cs t fr hk _=>h.cells k _ hk rfl⟩
theorem BC.then{A B C:World}(h:BC S A B)(k:BC S B C):BC S A C:=⟨Zm h.size k.size,fun j cs t fr hj hs=>k.block j cs t fr (h.block j cs t fr hj hs) hs⟩
theorem BC.own{w w':World}{base:Nat}{e:TypeId}{size n:Nat}{xs:List Value}(h:BC S w w')(f:w.ownsRow base e size v n xs)(j:∀k,v.ownBlock=some k->¬S k):w'.ownsRow base e size v n xs:=by
 refine⟨f.1,?_⟩;rcases f.2 with hn|⟨g,cap,cur,rfl,hb,hgg,rest⟩
 .exact .inl hn
 exact .inr ⟨g,cap,cur,rfl,hb,h.block g _ _ _ hgg (j g rfl),rest⟩
def JR(W:World)(ja:Option Addr)(d:Array YK):Prop:=d.size=0\/∃g,ja=some ⟨g,0,none⟩/\JH W g 0 d
theorem JR.bc{f:Option Addr}(h:JR W f d)(hb:BC S W W')(q:∀g,jaB f=some g->¬S g):JR W' f d:=by
 by_cases m:d.size=0
 .exact .inl m
 rcases h with h|⟨g,rfl,h⟩
 .exact .inl h
 refine .inr ⟨g,rfl,h.but ?_⟩;have j:=(h.cell (i:=0) oq).1.1;have v:=h.lt
 cases ho:W.1[g]? with
 | none=>simp[World.cell?,ho] at j
 | some o =>
  cases o with
  | cells cs t fr=>exact hb.block g cs t fr ho (q g rfl)
  | _=>simp[World.cell?,ho] at j
theorem JR.but(h:JR W ja d)(hb:But S W W')(hS:∀g,jaB ja=some g->¬S g):JR W' ja d:=h.bc (BC.of_but hb) hS
theorem JR.below(h:JR W ja d)(hb:Below W.1.size W W'):JR W' ja d:=h.but (But.of_below (S:=fun _=>False) hb) (fun _ _ e=>e)
theorem vF{base x:Nat}{v:Option Addr}(H:YQ f order)(G:Vj f)(N:Nat)(F:((J0 f order u).map (mkJ f)).length=N)(z:N<=1000000)(m:W.ownsRow base 128 5 (.slice v N x) N (((J0 f order u).map (mkJ f)).flatMap XX)) :
  Calls prog 108 #[.slice v N x,.func (.func 109) #[] #[]] W fun e w'=>e=.returned (.tuple #[])/\(∃B,Xg f order u B/\B.length=N/\JR w' v (B.map (mkJ f)).toArray)/\But (fun b=>jaB v=some b) W w':=by
 subst F;rcases m.2 with ⟨e,hn⟩|⟨g,cap,cur,e,hb,hg,_⟩
 .rw[e];injection e with e1 e2 e3
  subst e1;refine(vE W).mono ?_;rintro y w' ⟨rfl,hb⟩;have D:J0 f order u=[]:=by
   have:=hn;rw[Zo] at this;exact Yc this
  refine⟨rfl,⟨[],⟨by rw[D],List.Pairwise.nil⟩,by rw[D];rfl,.inl rfl⟩,But.of_below hb⟩
 injection e with e1 e2 e3
 subst e1;have j:=yK m;have h:=xX g 0 x ((J0 f order u).map (mkJ f)).toArray W j.holds j.lt (by simp at z ⊢;omega);rw[ZI] at h;refine h.mono ?_;rintro y w' ⟨rfl,I,A,q⟩;obtain⟨B,rfl,C⟩:=Zfk H G A;have E:B.length=((J0 f order u).map (mkJ f)).length:=by rw[Zo];exact C.perm.length_eq.symm
 refine⟨rfl,⟨B,C,E,.inr ⟨g,rfl,⟨q.holds j.lt j.holds (by simp[E]),q.lt j.lt⟩⟩⟩,(Zfo q).imp (fun b _ e=>by rw[e];rfl)⟩
structure PlW (W3 W:World) (pb T:Nat) (vs:List Value) (B:List (Nat × Nat)) (i:Nat):Prop where
 but:But (fun k=>k=pb) W3 W
 lt:pb<W3.1.size
 len:vs.length=T
 row:W.1[pb]?=some (.cells vs.toArray 44 (0,0))
 fam:Fam W W3.1.size 3 vs ((List.range T).map (fun t=>ints (plP B i t)))
theorem PlW.start{f T:Nat}(h:W.1[f]?=some (.cells (List.replicate T (.slice none 0 0)).toArray 44 (0,0))):PlW W W f T (List.replicate T (.slice none 0 0)) B 0:=by
 refine⟨But.refl _ _,Zb h,by simp,h,?_⟩;have g:=Fam.nils W W.1.size 3 T;have j:(List.range T).map (fun t=>ints (plP B 0 t))=List.replicate T []:=by
  rw[List.eq_replicate_iff];refine⟨by simp,fun x hx=>?_⟩;obtain⟨t,_,rfl⟩:=Yd.1 hx;rfl
 rw[j];exact g
theorem PlW.at{g W:World}{f T:Nat}{vs:List Value}{B:List (Nat × Nat)}{i:Nat}(h:PlW g W f T vs B i){t:Nat}(ht:t<T):∃v,vs[t]?=some v/\W.cell? ⟨f,t,none⟩=some v/\W.frozen? ⟨f,t,none⟩=false/\W.ownsRow g.1.size 3 1 v (plP B i t).length (ints (plP B i t)):=by
 have j:=h.len;refine⟨vs[t],Ze oq,?_,by simp[World.frozen?,h.row],?_⟩
 .rw[Z6 W f t _ _ _ h.row];simp[j,ht]
 have:=h.fam.own t vs[t] (ints (plP B i t)) (Ze oq) (by simp[ht])
 rwa [Ja] at this
theorem PlW.app{f T:Nat}(h:PlW y W f T vs B i)(ht:t<T)(G:(B.getD i (0,0)).1=t)(C:vs[t]?=some v)(hb4:But (fun k=>v.ownBlock=some k) W w4)
  (x:w4.ownsRow y.1.size 3 1 v' ((plP B i t).length+1) (ints (plP B i t)++[.int .i64 (i:Int)]))(A:∀k,v'.ownBlock=some k->v.ownBlock=some k\/W.1.size<=k):PlW y (w4.setCell ⟨f,t,none⟩ v') f T (vs.set t v') B (i+1):=by
 have J:=h.lt;have q:=h.len;have m:=fun k hk=>h.fam.block C k hk
 have z:∀k,v.ownBlock=some k->k≠f:=fun k hk e=>by have:=m k hk;omega
 have D:=(hb4.block f (Zb h.row) (fun e=>z f e rfl)).trans h.row;have g:But (fun k=>v.ownBlock=some k\/k=f) W (w4.setCell ⟨f,t,none⟩ v'):=(hb4.imp (fun _ _ e=>.inl e)).then (But.set (S:=fun k=>k=f) rfl _) (fun _ _ e=>.inr e);refine⟨h.but.then g (fun k hk e=>by rcases e with e|e<;>first|exact e|(have:=m k e;omega)),h.lt,by rw[List.length_set];exact q,?_,?_⟩
 .have E:=Zj _ f t _ _ v' D;rw[E];simp
 have F:(List.range T).map (fun t=>ints (plP B (i+1) t))=((List.range T).map (fun t=>ints (plP B i t))).set t (ints (plP B i t)++[.int .i64 (i:Int)]):=by
  apply List.ext_getElem
  .simp
  intro j H I;rw[List.getElem_set];simp only[List.getElem_map,List.getElem_range];rw[ZdB,G];by_cases e:t=j
  .subst e;rw[Z1 rfl,Z1 rfl,<-JB]
  rw[Z0 e,Z0 e,List.append_nil]
 rw[F];refine h.fam.put C (g.imp (fun k _ e=>by rcases e with e|e<;>first|exact .inl e|exact .inr oq)) ?_ A;rw[Zx,Ja];exact XO x h.lt v'
theorem PlW.done(h:PlW y W m T vs B i)(z:∀k,S k->k<y.1.size/\k≠m)(hb:BC S W W'):PlM W' m (plP B i) T:=by
 have f:W'.1[m]?=_:=hb.block m _ _ _ h.row (fun e=>(z _ e).2 rfl);refine⟨Zb f,fun t ht=>?_⟩;obtain⟨v,E,A,_,x⟩:=h.at ht;obtain⟨a,c,rfl⟩:=YF x;refine⟨a,c,(Zn (w:=W) (a:=⟨m,t,none⟩) (f.trans h.row.symm)).trans A,?_⟩;have q:=hb.own x (fun k hk hs=>by have C:=(z k hs).1;have D:=X1 x k hk;omega);rcases q.2 with ⟨_,hn⟩|⟨g,cap,cur,e,hb2,hg,_⟩
 .exact .inl (Yc hn)
 injection e with e1 e2 e3
 subst e1;refine .inr ⟨g,0,rfl,Zb hg,fun j hj=>?_⟩;rw[Z7,ZD];refine(World.ownsRow.cellAt q j (by rw[Z7];exact hj)).trans ?_;rw[ints_at hj,Zf,Ze hj];rfl
structure QN (W:World) (f:FD) (ai an aT al:Option Addr) (ci cn ct cl:Nat) (u:Int) (wb pb cp:Nat) (ja:Option Addr) (cj:Nat) (B:List (Nat × Nat)) (d:Array YK):Prop where
 box:W.1[wb]?=some (.cells #[.slice ai f.ins.length ci,.slice an f.nods.length cn,.slice aT f.tasks.length ct,.slice al f.tells.length cl,.int .i64 u,.slice ja d.size cj,.slice (some ⟨pb,0,none⟩) f.tasks.length cp] 126 (0,0))
 ne:jaB ja≠some wb
 jobs:JR W ja d
 pl:∀W',BC (fun b=>jaB ja=some b) W W'->PlM W' pb (plP B B.length) f.tasks.length
 sz:d.size=B.length
theorem QN.but{d d':Array YK}(h:QN W f ai an aT al ci cn ct cl u wb pb cp ja cj B d)(hb:But (fun b=>jaB ja=some b) W W')(hs:d'.size=d.size)(hj:JR W' ja d'):QN W' f ai an aT al ci cn ct cl u wb pb cp ja cj B d' :=
 ⟨by rw[hs];exact(hb.block wb (Zb h.box) h.ne).trans h.box,h.ne,hj,fun W2 h2=>h.pl W2 ((BC.of_but hb).then h2),hs.trans h.sz⟩
theorem QN.below{W W':World}{f:FD}{ai an aT al:Option Addr}{ci cn ct cl:Nat}{u:Int}{wb pb cp:Nat}{ja:Option Addr}{cj:Nat}{B:List (Nat × Nat)}{d:Array YK}(h:QN W f ai an aT al ci cn ct cl u wb pb cp ja cj B d)(hb:Below W.1.size W W'):QN W' f ai an aT al ci cn ct cl u wb pb cp ja cj B d :=
 h.but (But.of_below hb) rfl (h.jobs.below hb)
theorem QN.mk'(h:QN W f ai an aT al ci cn ct cl u wb pb cp ja cj B d){lo:Nat}(hm:MkW lo W W'):QN W' f ai an aT al ci cn ct cl u wb pb cp ja cj B d :=
 ⟨hm.cells _ _ h.box rfl,h.ne,h.jobs.bc (BC.of_mk (S:=fun _=>False) hm) (fun _ _ e=>e),fun W2 h2=>h.pl W2 ((BC.of_mk hm).then h2),h.sz⟩
theorem Um:∀(l:List index.Op3)(p q p' q':Int),clock.YH p q=true->clock.YO p q l=(p',q',0)->clock.YH p' q'=true
 | [],p,q,p',q',hr,h=>by
  simp only[clock.YO,Z3] at h;obtain⟨rfl,rfl,_⟩:=h;exact hr
 | o::r,p,q,p',q',hr,h=>by
  obtain⟨k,N,d⟩:=o;rw[clock.YO] at h;rcases ha:clock.YG p q k N d with ⟨p1,f1,e1⟩
  simp only[ha] at h;split at h
  .rename_i he
   subst he;exact Um r p1 f1 p' q' (Qa ha).2.1 h
  rename_i he
  simp only[Z3] at h;exact absurd h.2.2 he
theorem XR{m j:Int}(h:Xt f a m j=true):clock.YH m j=true/\(Jj f a.src).isSome=true/\a.ops.length<=20:=by
 unfold Xt at h
 cases hs:Jj f a.src with
 | none=>rw[hs] at h;cases h
 | some s =>
  obtain⟨z,y⟩:=s;rw[hs] at h;simp only[ZB,Yj] at h;obtain⟨A,g,q,v⟩:=h;unfold clock.KJ at g q v;by_cases x:clock.YH z y=true
  .rw[Z1 x] at g q v;exact⟨Um a.ops z y m j x (by rw[<-g,<-q,<-v]),rfl,A⟩
  rw[Z0 x] at g;simp at g
structure RgF (f:FD):Prop where
 few:f.tasks.length<=30
 clk:Vj f
 fits:∀t,t<f.tasks.length->∀a∈(tkO f t).args,Xt f a (tkO f t).per (tkO f t).ph=true
 node:∀t,t<f.tasks.length->∃k:Nat,(tkO f t).node=(k:Int)/\∃h:k<f.nods.length,1<=f.nods[k].bud/\f.nods[k].bud<=1000
 tel:∀t∈f.tells,(1<=t.dl/\t.dl<=1000)/\Xt f t.arg t.per t.ph=true
theorem Uh(h:Y3 f=true):RgF f:=by
 unfold Y3 at h;simp only[ZB,List.all_eq_true,Yj] at h;obtain⟨_,v,x,y,z⟩:=h;have key:∀t,t<f.tasks.length->(∃k:Nat,(tkO f t).node=(k:Int)/\∃h:k<f.nods.length,1<=f.nods[k].bud/\f.nods[k].bud<=1000)/\(tkO f t).args≠[]/\∀a∈(tkO f t).args,Xt f a (tkO f t).per (tkO f t).ph=true:=by
  intro t ht;have g:=x f.tasks[t] (Zi ht);rw[Vy ht] at g;by_cases D:(tkO f t).node<0\/(f.nods.length:Int)<=(tkO f t).node
  .rw[Uj D] at g;cases g
  have j:(tkO f t).node.toNat<f.nods.length:=oq;have q:(tkO f t).node=((tkO f t).node.toNat:Int):=oq;rw[Gk j q] at g;simp only[ZB,List.all_eq_true,Yj] at g;refine⟨⟨_,q,j,?_⟩,fun e=>g.1 (by rw[e];rfl),g.2.2⟩;have:=v _ (Zi j);unfold Vi at this;simpa using this
 refine⟨z,fun t ht=>?_,fun t ht=>(key t ht).2.2,fun t ht=>(key t ht).1,fun t ht=>?_⟩
 .obtain⟨_,m,C⟩:=key t ht;obtain⟨a,A⟩:=List.exists_mem_of_ne_nil _ m;exact clock.Y1.1 (XR (C a A)).1
 have:=y t ht;unfold Ky Vi at this;simpa using this
theorem yO{m j:Int}(y:f.tasks.length<=30)(x:f.ins.length<=1000)(h:Xt f a m j=true):0<=a.src/\a.src<=100000:=by
 have g:=(XR h).2.1;by_cases q:a.src<0
 .rw[Zaq q] at g;cases g
 by_cases v:(f.ins.length:Int)<=a.src
 .have:=zx g v;omega
 omega
def VD(f:FD)(B:List (Nat × Nat))(i:Nat):List Int:=(tkO f (B.getD i (0,0)).1).args.filterMap (fun a=>Qk f B a ((B.getD i (0,0)).2:Int))
def YR(f:FD)(B:List (Nat × Nat))(i:Nat):List Int:=Lib.compact ((VD f B i).mergeSort (fun x y=>decide (x<=y)))
theorem jV(h:x∈YR f B i):x∈VD f B i:=List.mem_mergeSort.1 (VJ (Nat.le_of_eq (by simp)) x h)
theorem Kj(g:Xg f order u B)(z:YQ f order)(A:RgF f)(hi:i<B.length)(h:x∈YR f B i):∃p:Nat,x=(p:Int)/\p<i:=by
 have y:=jV h;unfold VD at y;obtain⟨a,j,v⟩:=List.mem_filterMap.1 y;have hb:B[i]?=some (B.getD i (0,0)):=by rw[Zf,Ze hi];rfl
 obtain⟨⟨t,n⟩,m⟩:=ez (B.getD i (0,0));rw[m] at j v hb;simp only at j v;have q:=(g.mem z).1 (Z9 hb);obtain⟨p,s,k,rfl,C,D⟩:=Zgv g z A.fits q.1 (A.clk t q.1).1 q.2 j v;exact⟨p,rfl,g.lt C hb D⟩
structure NdS (W:World) (f:FD) (B:List (Nat × Nat)) (ja:Option Addr) (d:Array YK) (i:Nat):Prop where
 base:∀k,k<B.length->d[k]!.t=((B.getD k (0,0)).1:Int)/\d[k]!.n=((B.getD k (0,0)).2:Int)/\d[k]!.r=XQ f (B.getD k (0,0))/\d[k]!.d=XQ f (B.getD k (0,0))+(tkO f (B.getD k (0,0)).1).per
 nd:∀k,k<i->d[k]!.nl=(YR f B k).length/\∀W',BC (fun b=>jaB ja=some b) W W'->Row KG 1 W' (YR f B k) d[k]!.na
theorem NdS.bc(h:NdS W f B ja d i)(hb:BC (fun b=>jaB ja=some b) W W'):NdS W' f B ja d i:=⟨h.base,fun k hk=>⟨(h.nd k hk).1,fun W2 h2=>(h.nd k hk).2 W2 (hb.then h2)⟩⟩
theorem NdS.start(W:World)(f:FD)(B:List (Nat × Nat))(g:Option Addr):NdS W f B g (B.map (mkJ f)).toArray 0:=by
 refine⟨fun k hk=>?_,fun k hk=>oq⟩;have:(B.map (mkJ f)).toArray[k]! = mkJ f (B.getD k (0,0)):=by
  rw[getElem!_pos _ k (by simpa using hk)];simp[Zf,hk]
 rw[this];exact⟨rfl,rfl,rfl,rfl⟩
theorem Vg(hi:i<d.size)(x:YK)(k:Nat):(d.setIfInBounds i x)[k]! = if k=i then x else d[k]!:=by
 by_cases h:k=i
 .subst h;rw[Z1 rfl,getElem!_set_same _ _ _ hi]
 rw[Z0 h];by_cases f:k<d.size
 .rw[getElem!_pos d k f,getElem!_pos (d.setIfInBounds i x) k (by simpa using f),Array.getElem_setIfInBounds_ne (by simpa using f) (fun e=>h e.symm)]
 rw[getElem!_neg d k f,getElem!_neg (d.setIfInBounds i x) k (by simpa using f)]
theorem NdS.put{g:Option Addr}(h:NdS W f B g d i)(hb:BC (fun b=>jaB g=some b) W W')(hi:i<d.size)(m:d.size=B.length){a:Option Addr}(j:∀W2,BC (fun b=>jaB g=some b) W' W2->Row KG 1 W2 (YR f B i) a) :
  NdS W' f B g (d.setIfInBounds i { d[i]! with na:=a,nl:=(YR f B i).length,nc:=c }) (i+1):=by
 refine⟨fun k hk=>?_,fun k hk=>?_⟩
 .rw[Vg hi];by_cases e:k=i
  .subst e;rw[Z1 rfl];exact h.base k hk
  rw[Z0 e];exact h.base k hk
 rw[Vg hi];by_cases e:k=i
 .subst e;rw[Z1 rfl];exact⟨rfl,j⟩
 rw[Z0 e];exact⟨(h.nd k oq).1,fun W2 h2=>(h.nd k oq).2 W2 (hb.then h2)⟩
theorem ZdD{base:Nat}{a:Option Addr}(h:QV W base (.slice a n c) l)(m:∀k,S k->k<base)(hb:BC S W W'):n=l.length/\Row KG 1 W' l a:=by
 have f:=hb.own h (fun k hk hs=>by have q:=m k hs;have v:=X1 h k hk;omega);rcases f.2 with ⟨e,hn⟩|⟨g,cap,cur,e,_,hg,_⟩
 .cases e
  rw[Yc hn];exact⟨rfl,.inl rfl⟩
 injection e with e1 e2 e3
 subst e1;subst e2;subst e3;refine⟨rfl,.inr ⟨g,0,rfl,Zb hg,fun j hj=>?_⟩⟩;rw[Z7,ZD];refine(World.ownsRow.cellAt f j (by rw[Z7];exact hj)).trans ?_;rw[ints_at hj,Zf,Ze hj];rfl
theorem Q1{f g j m q:Value}{t:TypeId}(h:w.1[b]?=some (.cells #[f,g,j,m,q] t (0,0))) :
  (w.cell? ⟨b,0,none⟩=some f/\w.cell? ⟨b,1,none⟩=some g/\w.cell? ⟨b,2,none⟩=some j/\w.cell? ⟨b,3,none⟩=some m/\w.cell? ⟨b,4,none⟩=some q)/\∀o,w.frozen? ⟨b,o,none⟩=false:=by
 refine⟨⟨?_,?_,?_,?_,?_⟩,?_⟩
 all_goals first|(intro o;simp[World.frozen?,h])|simp[World.cell?,h]
def JP(f:FD)(a:AD)(n:Int)(jt jn:Int):Bool:=decide ((index.X6 a.ops n).2.2=1/\a.src=(f.ins.length:Int)+jt/\(index.X6 a.ops n).1=jn)
theorem EI(f:FD)(V an U X:Option Addr)(Y Z ct cl:Nat)(hI:f.ins.length<=1000)(a:AD)(L:Option Addr)(R:Nat)(E:index.OpA W L a.ops)(ap:a.ops.length<=1000)(hr:a.ops.all index.JX=true)(n:Nat)(hn:n<=1000000)(jt jn jr jd:Int)(na:Option Addr)(nl nc:Nat)(hj:0<=jt/\jt<=1000000) :
  Calls prog 52 #[fv f V an U X Y Z ct cl,.agg #[.int .i64 a.src,.slice L a.ops.length R],.int .i64 (n:Int),.agg #[.int .i64 jt,.int .i64 jn,.int .i64 jr,.int .i64 jd,.slice na nl nc]] W fun y W'=>y=.returned (.bool (JP f a (n:Int) jt jn))/\Below W.1.size W W':=by
 unfold fv;obtain⟨A,g⟩:=ez (JP f a (n:Int) jt jn);rw[g];unfold JP at g;obtain⟨⟨m,x,k⟩,G⟩:=ez (index.X6 a.ops (n:Int));rw[G] at g;simp only at g;obtain⟨nI,aa⟩:=ez f.ins.length;rw[aa] at hI g ⊢;obtain⟨M,ae⟩:=ez a.src;rw[ae] at g ⊢;obtain⟨z,j⟩:∃z,(((W.alloc (.cells #[.slice V nI Y,.slice an f.nods.length Z,.slice U f.tasks.length ct,.slice X f.tells.length cl] 35)).alloc (.cells #[.int .i64 M,.slice L a.ops.length R] 92)).alloc (.cells #[.int .i64 jt,.int .i64 jn,.int .i64 jr,.int .i64 jd,.slice na nl nc] 128))=z:=⟨_,rfl⟩;have hb1:Below W.1.size W z:=by rw[<-j];exact bq
 have H:z.1[W.1.size]?=some (.cells #[.slice V nI Y,.slice an f.nods.length Z,.slice U f.tasks.length ct,.slice X f.tells.length cl] 35 (0,0)):=by rw[<-j];exact(Za _ _ _ (by simp;omega)).trans ((Za _ _ _ (by simp)).trans (Yx W _))
 have D:z.1[W.1.size+1]?=some (.cells #[.int .i64 M,.slice L a.ops.length R] 92 (0,0)):=by
  rw[<-j];have h:=Yx (W.alloc (.cells #[.slice V nI Y,.slice an f.nods.length Z,.slice U f.tasks.length ct,.slice X f.tells.length cl] 35)) (.cells #[.int .i64 M,.slice L a.ops.length R] 92);rw[Zu] at h;exact(Za _ _ _ (by simp)).trans h
 have I:z.1[W.1.size+1+1]?=some (.cells #[.int .i64 jt,.int .i64 jn,.int .i64 jr,.int .i64 jd,.slice na nl nc] 128 (0,0)):=by
  rw[<-j];have h:=Yx ((W.alloc (.cells #[.slice V nI Y,.slice an f.nods.length Z,.slice U f.tasks.length ct,.slice X f.tells.length cl] 35)).alloc (.cells #[.int .i64 M,.slice L a.ops.length R] 92)) (.cells #[.int .i64 jt,.int .i64 jn,.int .i64 jr,.int .i64 jd,.slice na nl nc] 128);rw[Zu,Zu] at h;exact h
 have v:=index.vt a.ops L R (n:Int) z oq (E.below hb1 (Zc _)) oq oq hr;rw[uq hr hn,G] at v;unfold index.vY at v;simp only at v;have F:=hid v;have HB1:=hid hb1;have ag:=hid H;have T:=hid D;have ah:=hid I;obtain⟨⟨a0,a1⟩,af⟩:=YL D;obtain⟨nO,ab⟩:=ez a.ops.length;rw[ab] at a1 F T j ⊢;have aj:=Zb H;have ak:=Zb D;have am:=Zb I;have ao:IntKind.i64.wrap ((nI:Int)+jt)=(nI:Int)+jt:=ZK _ oq;clear hb1 H D I v E G hr aa ab ae;go_enter func52,ntmps52;go_upto_region 1 with fail
 first|rw[j]|skip
 clear j;go_upto_region 2 with (go_at_call 95;refine F.o.mono ?_;rintro y w1 ⟨rfl,hb1⟩;have HB2:=hid hb1;clear hb1)
 obtain⟨W2,C⟩:=ez (w1.alloc (.cells #[.int .i64 m,.int .i64 x,.int .i64 k] 185))
 first|rw[C]|skip
 have hb2:Below z.1.size z W2:=by rw[<-C];exact HB2.o.trans ((Zg _ _).alloc HB2.o.size _)
 have ac:W2.1[w1.1.size]?=some (.cells #[.int .i64 m,.int .i64 x,.int .i64 k] 185 (0,0)):=by rw[<-C];exact Yx w1 _
 obtain⟨⟨b0,b1,b2⟩,bf⟩:=ZeD ac;obtain⟨⟨a0,a1⟩,af⟩:=YL ((hb2.block _ ak).trans T.o);obtain⟨⟨f0,f1,f2,f3⟩,ff⟩:=Yy ((hb2.block _ aj).trans ag.o);obtain⟨⟨j0,j1,j2,j3,j4⟩,jf⟩:=Q1 ((hb2.block _ am).trans ah.o);have HBW:=hid (HB1.o.trans (hb2.mono HB1.o.size));clear hb2 ac C F;by_cases hk:k=1
 .subst hk;by_cases J:M=(nI:Int)+jt
  .have es:(M == (nI:Int)+jt)=true:=beq_iff_eq.2 J;by_cases O:m=jn
   .have q:A=true:=by rw[<-g];exact ZZ ⟨rfl,J,O⟩
    subst q;have em:(m == jn)=true:=beq_iff_eq.2 O;clear J O g;go_wp2;go_ret;exact⟨rfl,HBW.o⟩
   have q:A=false:=by rw[<-g];exact ZY (fun h=>O h.2.2)
   subst q;have em:(m == jn)=false:=ZX.2 O;clear J O g;go_wp2;go_ret;exact⟨rfl,HBW.o⟩
  have q:A=false:=by rw[<-g];exact ZY (fun h=>J h.2.1)
  subst q;have es:(M == (nI:Int)+jt)=false:=ZX.2 J;clear J g;go_wp2;go_ret;exact⟨rfl,HBW.o⟩
 have q:A=false:=by rw[<-g];exact ZY (fun h=>hk h.1)
 subst q;have ek:(k == 1)=false:=ZX.2 hk;clear hk g;go_wp2;go_ret;exact⟨rfl,HBW.o⟩
def NsS(fb xb jb ob ba o:Nat)(v0 v1 v2 v3 x3 a0 a1 jn o0 o1 o2 o3 o4:Value)(W:World):Prop:=W.cell? ⟨fb,0,none⟩=some v0/\W.cell? ⟨fb,1,none⟩=some v1/\W.cell? ⟨fb,2,none⟩=some v2/\W.cell? ⟨fb,3,none⟩=some v3/\W.cell? ⟨xb,3,none⟩=some x3/\W.cell? ⟨ba,o,none⟩=some a0/\W.cell? ⟨ba,o+1,none⟩=some a1/\W.cell? ⟨jb,1,none⟩=some jn/\W.cell? ⟨ob,0,none⟩=some o0/\W.cell? ⟨ob,1,none⟩=some o1/\W.cell? ⟨ob,2,none⟩=some o2/\W.cell? ⟨ob,3,none⟩=some o3/\W.cell? ⟨ob,4,none⟩=some o4
theorem j7{m q jb ob j o:Nat}{E F G I J v x jn z o1 A C D:Value}{H:Nat}(h:NsS m q jb ob j o E F G I J v x jn z o1 A C D W)(O:∀b,b<H->W'.1[b]?=W.1[b]?)(g:m<H)(L:q<H)(M:jb<H)(f:ob<H)(y:j<H):NsS m q jb ob j o E F G I J v x jn z o1 A C D W':=by
 obtain⟨s0,s1,s2,s3,s4,s5,s6,s7,s8,s9,s10,s11,s12⟩:=h;have c:=fun b (hb:b<H) o=>Zn (w:=W) (w':=W') (a:=⟨b,o,none⟩) (O b hb)
 exact⟨(c _ g _).trans s0,(c _ g _).trans s1,(c _ g _).trans s2,(c _ g _).trans s3,(c _ L _).trans s4,(c _ y _).trans s5,(c _ y _).trans s6,(c _ M _).trans s7,(c _ f _).trans s8,(c _ f _).trans s9,(c _ f _).trans s10,(c _ f _).trans s11,(c _ f _).trans s12⟩
def GE(f:FD)(t:Nat)(n:Int)(jt jn:Int):Bool:=(tkO f t).args.any (fun a=>JP f a n jt jn)
theorem bZ410{p:Prop}(h:p:=by first|with_reducible exact KA.o|with_reducible exact KB.o):p:=h
theorem jW{Z W:World}(f:FD)(X an aT Y:Option Addr)(ci cn ct cl:Nat)(hf:FAP Z f X an aT Y)(hg:RgF f)(az:Below Z.1.size Z W)(t n:Nat)(ht:t<f.tasks.length)(hn:n<=1000000)(r d:Int)(na:Option Addr)(nl nc:Nat)(g m H F:Int)(D:Option Addr)(G E:Nat)(hj:0<=g/\g<=1000000) :
  Calls prog 53 #[fv f X an aT Y ci cn ct cl,.agg #[.int .i64 (t:Int),.int .i64 (n:Int),.int .i64 r,.int .i64 d,.slice na nl nc],.agg #[.int .i64 g,.int .i64 m,.int .i64 H,.int .i64 F,.slice D G E]] W fun y W'=>y=.returned (.bool (GE f t (n:Int) g m))/\Below W.1.size W W':=by
 obtain⟨x,hx⟩:=ez (tkO f t);have av:f.tasks[t]=x:=by rw[Vy ht,hx]
 have J:=hg.fits t ht;rw[hx] at J;have z:=hf.args f.tasks[t] (Zi ht);rw[av] at z;have ay:=hf.lens;obtain⟨bt,ot,rfl,ae,bv⟩:=hf.tasks.resolve_left (fun e=>by rw[e] at ht;simp at ht);obtain⟨u0,u1,u2,ta,tc,u3,U⟩:=bv t ht;rw[av] at u0 u1 u2 u3 U;have aa:=hid (fun(W:World) (a:AD) (ha:a∈x.args) (oa:Option Addr) (oc:Nat) (hro:Row OpR 3 W a.ops oa)=>EI (W:=W) f X an (some ⟨bt,ot,none⟩) Y ci cn ct cl ay.1 a oa oc (Zah hro) (z.2 a ha).1 (qM (J a ha)) n hn g m H F D G E hj);unfold fv at *;obtain⟨br,A⟩:=ez (GE f t (n:Int) g m);rw[A];unfold GE at A;rw[hx] at A;have ao:=hid A;obtain⟨I,O⟩:∃I,(((W.alloc (.cells #[.slice X f.ins.length ci,.slice an f.nods.length cn,.slice (some ⟨bt,ot,none⟩) f.tasks.length ct,.slice Y f.tells.length cl] 35)).alloc (.cells #[.int .i64 (t:Int),.int .i64 (n:Int),.int .i64 r,.int .i64 d,.slice na nl nc] 128)).alloc (.cells #[.int .i64 g,.int .i64 m,.int .i64 H,.int .i64 F,.slice D G E] 128))=I:=⟨_,rfl⟩;have hb1:Below W.1.size W I:=by rw[<-O];exact bq
 have aj:I.1[W.1.size]?=some (.cells #[.slice X f.ins.length ci,.slice an f.nods.length cn,.slice (some ⟨bt,ot,none⟩) f.tasks.length ct,.slice Y f.tells.length cl] 35 (0,0)):=by rw[<-O];exact(Za _ _ _ (by simp;omega)).trans ((Za _ _ _ (by simp)).trans (Yx W _))
 have ak:I.1[W.1.size+1]?=some (.cells #[.int .i64 (t:Int),.int .i64 (n:Int),.int .i64 r,.int .i64 d,.slice na nl nc] 128 (0,0)):=by
  rw[<-O];have h:=Yx (W.alloc (.cells #[.slice X f.ins.length ci,.slice an f.nods.length cn,.slice (some ⟨bt,ot,none⟩) f.tasks.length ct,.slice Y f.tells.length cl] 35)) (.cells #[.int .i64 (t:Int),.int .i64 (n:Int),.int .i64 r,.int .i64 d,.slice na nl nc] 128);rw[Zu] at h;exact(Za _ _ _ (by simp)).trans h
 have bd:I.1[W.1.size+1+1]?=some (.cells #[.int .i64 g,.int .i64 m,.int .i64 H,.int .i64 F,.slice D G E] 128 (0,0)):=by
  rw[<-O];have h:=Yx ((W.alloc (.cells #[.slice X f.ins.length ci,.slice an f.nods.length cn,.slice (some ⟨bt,ot,none⟩) f.tasks.length ct,.slice Y f.tells.length cl] 35)).alloc (.cells #[.int .i64 (t:Int),.int .i64 (n:Int),.int .i64 r,.int .i64 d,.slice na nl nc] 128)) (.cells #[.int .i64 g,.int .i64 m,.int .i64 H,.int .i64 F,.slice D G E] 128);rw[Zu,Zu] at h;exact h
 obtain⟨⟨f0,f1,f2,f3⟩,ff⟩:=Yy aj;obtain⟨⟨j0,j1,j2,j3,j4⟩,jf⟩:=Q1 ak;have C:Below Z.1.size Z I:=az.trans (hb1.mono az.size);have y0:=(C.cell (p:=⟨bt,_,none⟩) ae).trans u0;have y1:=(C.cell (p:=⟨bt,_,none⟩) ae).trans u1;have y2:=(C.cell (p:=⟨bt,_,none⟩) ae).trans u2;have y3:=(C.cell (p:=⟨bt,_,none⟩) ae).trans u3;obtain⟨V,ah⟩:=ez x.args.length;have ch:V<=1000:=by rw[<-ah];exact z.1
 rw[ah] at y3;obtain⟨nd,cc⟩:=ez x.node;obtain⟨am,ap⟩:∃am,x.per=am:=⟨_,rfl⟩;obtain⟨ph,ce⟩:∃ph,x.ph=ph:=⟨_,rfl⟩;rw[cc] at y0;rw[ap] at y1;rw[ce] at y2;have t0:(0:Int)<=(t:Int):=oq;have t1:(t:Int)<(f.tasks.length:Int):=oq;have bi:=hid ah;have bo:=hid U;have bx:=Zb aj;have bz:=Zb ak;have ca:=Zb bd;have cm:Z.1.size<=I.1.size:=C.size;obtain⟨W2,ab⟩:=ez (I.alloc (.cells #[.int .i64 nd,.int .i64 am,.int .i64 ph,.slice ta V tc] 53));have hb2:Below I.1.size I W2:=by rw[<-ab];exact bq
 have be:W2.1[I.1.size]?=some (.cells #[.int .i64 nd,.int .i64 am,.int .i64 ph,.slice ta V tc] 53 (0,0)):=by rw[<-ab];exact Yx I _
 have cb:=Zb be;have bk:=hid ((hb2.block _ bx).trans aj);have bl:=hid ((hb2.block _ bz).trans ak);have bm:=hid ((hb2.block _ ca).trans bd);have bn:=hid be;have HB1:=hid hb1;have HB2:=hid (hb1.trans (hb2.mono hb1.size));have bh:=hid (C.trans (hb2.mono C.size));have cj:I.1.size<=W2.1.size:=hb2.size;obtain⟨fb,aw⟩:=ez W.1.size;obtain⟨jb,ax⟩:=ez (W.1.size+1);obtain⟨ob,bc⟩:=ez (W.1.size+1+1);obtain⟨xb,bg⟩:=ez I.1.size;rw[ax] at bz bl;rw[bc] at ca bm;rw[aw] at bx bk;have HE:=hid (Zh aw (Zh ax (Zh bc bg)));rw[bg] at bn cb;clear hb1 aj ak bd be C u0 u1 u2 u3 bv U z ah ap ce cc A av J hx hb2 hf az;clear aw ax bc bg;go_enter func53,ntmps53;go_upto_region 1 with fail
 first|rw[O]|skip
 clear O;go_upto_region 2 with fail
 first|rw[ab]|skip
 try rw[HE.o.2.2.1]
 try rw[HE.o.2.1]
 try rw[HE.o.1]
 try rw[HE.o.2.2.2]
 clear ab y0 y1 y2 y3 f0 f1 f2 f3 ff j0 j1 j2 j3 j4 jf;go_wp2;go_loopw [8] (fun s8 wr=>Hid (∃i:Nat,s8=.int .i64 (i:Int)/\i<=V/\(x.args.take i).any (fun a=>JP f a (n:Int) g m)=false/\Below W2.1.size W2 wr)) (fun s _=>V-(intOf s).toNat)
 case atStart=>exact⟨0,rfl,Zk _,rfl,Zg _ _⟩
 obtain⟨M,rfl⟩:=ey wr;obtain⟨i,rfl,hi,cd,hb3⟩:=hrel.o;clear hrel;have HB3:=hid hb3;have bj:=hid cd;have ck:=hb3.size;have q:Below Z.1.size Z M:=bh.o.trans (hb3.mono bh.o.size);have cg:=q.size;obtain⟨⟨q0,q1,q2,q3⟩,qf⟩:=Yy ((hb3.block fb oq).trans bk.o);obtain⟨⟨j0,j1,j2,j3,j4⟩,jf⟩:=Q1 ((hb3.block jb oq).trans bl.o);obtain⟨⟨o0,o1,o2,o3,o4⟩,of⟩:=Q1 ((hb3.block ob oq).trans bm.o);obtain⟨⟨x0,x1,x2,x3⟩,xf⟩:=Yy ((hb3.block xb cb).trans bn.o);clear cd hb3;by_cases bw:i<V
 .have i0:(0:Int)<=(i:Int):=oq;have i1:(i:Int)<(V:Int):=oq;have R:i<x.args.length:=by rw[bi.o];exact bw
  obtain⟨ba,oa,rfl,bs,bu⟩:=bo.o.resolve_left (fun e=>by rw[e] at R;simp at R);obtain⟨v0,pa,pc,v1,T⟩:=bu i R;obtain⟨a,ac⟩:=ez (x.args[i]);have ar:a∈x.args:=by rw[<-ac];exact Zi R
  rw[ac] at v0 v1 T;have af:Below Z.1.size Z M.drew:=⟨q.os,q.tape,q.output,q.size,q.block⟩;have z0:=(af.cell (p:=⟨ba,_,none⟩) bs).trans v0;have z1:=(af.cell (p:=⟨ba,_,none⟩) bs).trans v1;have L:=aa.o M.drew a ar pa pc (T.below VV af);obtain⟨nO,bb⟩:=ez a.ops.length;obtain⟨sr,bf⟩:=ez a.src;rw[bb,bf] at L;rw[bf] at z0;rw[bb] at z1;obtain⟨fr,ag⟩:=ez (JP f a (n:Int) g m);rw[ag] at L;have aa:=hid L;have bp:=hid (fun(h:fr=true)=>show br=true by rw[<-ao.o];exact List.any_eq_true.2 ⟨a,ar,by rw[ag];exact h⟩);have cf:=hid (show(x.args.take (i+1)).any (fun a=>JP f a (n:Int) g m)=fr by rw[List.take_add_one,Ze R,ac,Option.toList_some,List.any_append,bj.o,Bool.false_or];simp[ag]);have KA:=hid (show NsS fb xb jb ob ba (oa+i*2) (.slice X f.ins.length ci) (.slice an f.nods.length cn) (.slice (some ⟨bt,ot,none⟩) f.tasks.length ct) (.slice Y f.tells.length cl) (.slice (some ⟨ba,oa,none⟩) V tc) (.int .i64 sr) (.slice pa nO pc) (.int .i64 (n:Int)) (.int .i64 g) (.int .i64 m) (.int .i64 H) (.int .i64 F) (.slice D G E) M.drew from ⟨q0,q1,q2,q3,x3,z0,z1,j1,o0,o1,o2,o3,o4⟩);have e1:fb<M.1.size:=oq;have e2:jb<M.1.size:=oq;have e3:ob<M.1.size:=oq;have e4:xb<M.1.size:=oq;have e5:ba<M.1.size:=oq;clear bu v0 v1 T R ac ar bb bf ag q af L
  cases fr with
  | true =>
   have au:=bp.o rfl;subst au;go_upto_region 5 with fail
   clear q0 q1 q2 q3 qf j0 j1 j2 j3 j4 jf o0 o1 o2 o3 o4 of x0 x1 x2 x3 xf z0 z1;refine ZO (S:=NsS fb xb jb ob ba (oa+i*2) (.slice X f.ins.length ci) (.slice an f.nods.length cn) (.slice (some ⟨bt,ot,none⟩) f.tasks.length ct) (.slice Y f.tells.length cl) (.slice (some ⟨ba,oa,none⟩) V tc) (.int .i64 sr) (.slice pa nO pc) (.int .i64 (n:Int)) (.int .i64 g) (.int .i64 m) (.int .i64 H) (.int .i64 F) (.slice D G E)) kq bZ410 (fun hH=>?_);refine tk 0 hH ?_;refine tk 1 hH ?_;refine tk 2 hH ?_;refine tk 3 hH ?_;refine tk 4 hH ?_;refine tk 5 hH ?_;refine tk 6 hH ?_;refine tk 7 hH ?_;refine tk 8 hH ?_;refine ry 9 fun K hK=>?_
   (go_simp;go_at_call 52;refine aa.o.mono ?_;rintro y w8 ⟨rfl,j⟩;have v:Below M.1.size M w8:=⟨j.os,j.tape,j.output,j.size,j.block⟩;have aq:=hid v;have KB:=hid (j7 KA.o (fun b h=>v.block b h) oq oq oq oq oq);clear j v)
   refine hK.o _ _ (fun hH=>?_) bZ410;clear hK K;refine Zy kq ?_ _;go_wp2_with fail;go_ret;exact⟨rfl,HB2.o.trans ((HB3.o.trans (aq.o.mono HB3.o.size)).mono HB2.o.size)⟩
  | false =>
   go_upto_region 5 with fail
   clear q0 q1 q2 q3 qf j0 j1 j2 j3 j4 jf o0 o1 o2 o3 o4 of x0 x1 x2 x3 xf z0 z1;refine ZO (S:=NsS fb xb jb ob ba (oa+i*2) (.slice X f.ins.length ci) (.slice an f.nods.length cn) (.slice (some ⟨bt,ot,none⟩) f.tasks.length ct) (.slice Y f.tells.length cl) (.slice (some ⟨ba,oa,none⟩) V tc) (.int .i64 sr) (.slice pa nO pc) (.int .i64 (n:Int)) (.int .i64 g) (.int .i64 m) (.int .i64 H) (.int .i64 F) (.slice D G E)) kq bZ410 (fun hH=>?_);refine tk 0 hH ?_;refine tk 1 hH ?_;refine tk 2 hH ?_;refine tk 3 hH ?_;refine tk 4 hH ?_;refine tk 5 hH ?_;refine tk 6 hH ?_;refine tk 7 hH ?_;refine tk 8 hH ?_;refine ry 9 fun K hK=>?_
   (go_simp;go_at_call 52;refine aa.o.mono ?_;rintro y w8 ⟨rfl,j⟩;have v:Below M.1.size M w8:=⟨j.os,j.tape,j.output,j.size,j.block⟩;have aq:=hid v;have KB:=hid (j7 KA.o (fun b h=>v.block b h) oq oq oq oq oq);clear j v)
   refine hK.o _ _ (fun hH=>?_) bZ410;clear hK K;refine Zy kq ?_ _;go_wp2_with fail;exact⟨hid ⟨i+1,by go_num,bw,cf.o,HB3.o.trans (aq.o.mono HB3.o.size)⟩,by simp[intOf];omega⟩
 have i1:¬(i:Int)<(V:Int):=oq;have au:br=false:=by rw[<-ao.o];have h:=bj.o;rwa [List.take_of_length_le (by rw[bi.o];omega)] at h
 subst au;clear q;go_wp2;go_ret;exact⟨rfl,HB2.o.trans (HB3.o.mono HB2.o.size)⟩
