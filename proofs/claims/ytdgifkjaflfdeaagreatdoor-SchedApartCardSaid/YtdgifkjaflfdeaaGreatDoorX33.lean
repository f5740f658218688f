/- Parts of the proof. -/
import Derived.Test.YtdgifkjaflfdeaaGreatDoorX23
import Derived.Test.YtdgifkjaflfdeaaGreatDoorX26
import Derived.Test.YtdgifkjaflfdeaaGreatDoorX29
import Derived.Test.YtdgifkjaflfdeaaGreatDoorX30
set_option linter.all false
set_option maxRecDepth 100000
set_option maxHeartbeats 16000000
namespace Go.Proofs.YtdgifkjaflfdeaaGreatDoor.syn
open Tryz
open Go.RowKit
variable {l order:List Int}{y W W' w W0 w4:World}{i n t m c wb T ci cn ct cl pb cp cj:Nat}{x u j:Int}{f:FD}{B:List (Nat × Nat)}{a:AD}{d:Array YH}{v s0 s1 s2 s3 s4 s6 v':Value}{S:Nat->Prop}{ja ai an aT al:OA}{vs:List Value}
def Qz(f:FD)(B:List (Nat × Nat))(a:AD)(n:Int):Option Int :=
 if a.src-(f.ins.length:Int)<0 then none
 else if (index.QD a.ops n).2.2=1 then some ((plP B B.length (a.src-(f.ins.length:Int)).toNat).getD (index.QD a.ops n).1.toNat 0) else none
theorem Zcg{y:Int}(h:y∈l.take i):l.idxOf y<i:=by
 obtain⟨j,g,e⟩:=Yn h;rw[Yc] at g;rw[List.getElem_take] at e;have m:l.idxOf y<=j:=by
  apply Yi;intro f;have:=List.not_of_lt_findIdx (p:=(· == y)) (xs:=l) (i:=j) (by unfold List.idxOf at f;omega);simp[e] at this
 omega
theorem Zcf(g:l.Nodup)(h:x∈l):l[l.idxOf x]?=some x:=by
 have f:=List.idxOf_lt_length_iff.2 h;rw[Ze f];have:=List.findIdx_getElem (p:=(· == x)) (xs:=l) (w:=f);exact Z4 some (eq_of_beq this)
theorem xi(h:X1 f order u B)(U:Y8 f order){C A:Int}(G:XM f a C A=true){n:Int}(T:A+n*C<u)(j:Qz f B a n=some x) :
  ∃p s k:Nat,x=(p:Int)/\B[p]?=some (s,k)/\s<f.tasks.length/\k<QC f u s/\a.src=(f.ins.length:Int)+(s:Int)/\(index.QD a.ops n).1=(k:Int)/\(plP B B.length s)[k]?=some x/\(index.QD a.ops n).2.2=1 /\
   Q9 f (s,k)<=A+n*C/\(a.ops.any Er=true->Q9 f (s,k)<A+n*C):=by
 unfold Qz at j;split at j
 .cases j
 rename_i h0
 split at j
 .rename_i h1
  injection j with j
  rcases hb:index.QD a.ops n with ⟨m,y,z⟩
  rw[hb] at h1 j;simp only at h1 j;subst h1;obtain⟨Y,sp,Z,g,H,V,E,F⟩:=uh G hb;obtain⟨s,M⟩:∃s:Nat,a.src=(f.ins.length:Int)+(s:Int):=⟨(a.src-(f.ins.length:Int)).toNat,oq⟩;have q:s<f.tasks.length:=by
   have:=za (i:=a.src) (f:=f) (by rw[g];rfl) oq;omega
  have I:=Ke q;rw[M,I] at g;rw[JP q] at g;injection g with g
  injection g with e1 e2
  subst e1;subst e2;obtain⟨k,rfl⟩:∃k:Nat,m=(k:Int):=⟨m.toNat,oq⟩;have v:=(clock.Xz.1 H).1;have L:k<QC f u s:=(QU v k).2 oq;obtain⟨X,O⟩:=h.place U q v;obtain⟨p,J,R⟩:=O k L;have D:(a.src-(f.ins.length:Int)).toNat=s:=oq;rw[D,ZR,Zf,J] at j;exact⟨p,s,k,j.symm,R,q,L,M,rfl,by rw[J];exact Z4 some j,rfl,E,F⟩
 cases j
theorem Zf9(h:X1 f order u B)(j:Y8 f order)(I:∀t,t<f.tasks.length->∀a∈(tkO f t).args,XM f a (tkO f t).per (tkO f t).ph=true)
  (ht:t<f.tasks.length)(H:1<=(tkO f t).per)(G:n<QC f u t)(A:a∈(tkO f t).args)(L:Qz f B a (n:Int)=some x) :
  ∃p s k:Nat,x=(p:Int)/\B[p]?=some (s,k)/\RJ f order (s,k) (t,n):=by
 have q:=I t ht a A;obtain⟨p,s,k,rfl,C,y,M,J,_,_,_,E,m⟩:=xi h j q ((QU H n).1 G) L;refine⟨p,s,k,rfl,C,?_⟩;unfold RJ;by_cases g:a.ops.any Er=true
 .exact .inl (m g)
 by_cases v:Q9 f (s,k)<Q9 f (t,n)
 .exact .inl v
 refine .inr ⟨by have:Q9 f (t,n)=(tkO f t).ph+(n:Int)*(tkO f t).per:=rfl;omega,?_⟩;have F:(s:Int)∈Xn f t:=by
  rw[zV (Ze ht)];unfold Y6;refine qj (List.mem_mergeSort.2 (List.mem_filterMap.2 ⟨a,by rw[JP ht];exact A,?_⟩));unfold Jc;rw[Z2 g,J];unfold ve;rw[Ke y,Z3 ⟨rfl,oq⟩];congr 1;omega
 have z:=j.all t ht;have D:=j.top _ (t:Int) (Zcf j.nd z) (s:Int) (by rw[ZR];exact F);exact Zcg D
open Go.RowKit Go.Sort
structure JH (W:World) (jb jo:Nat) (d:Array YH):Prop where
 holds:HoldsK Qu 5 W jb jo d
 lt:jb<W.1.size
theorem JH.cell{W:World}{jb f:Nat}{d:Array YH}(h:JH W jb f d){i:Nat}(hi:i<d.size) :
  (W.cell? ⟨jb,f+i*5,none⟩=some (.int .i64 d[i]!.t)/\W.cell? ⟨jb,f+i*5+1,none⟩=some (.int .i64 d[i]!.n)/\W.cell? ⟨jb,f+i*5+2,none⟩=some (.int .i64 d[i]!.r)/\W.cell? ⟨jb,f+i*5+3,none⟩=some (.int .i64 d[i]!.d)/\W.cell? ⟨jb,f+i*5+4,none⟩=some (.slice d[i]!.na d[i]!.nl d[i]!.nc)) /\
   W.frozen? ⟨jb,f+i*5+3,none⟩=false/\W.frozen? ⟨jb,f+i*5+4,none⟩=false:=by
 have m:=HoldsK.cell h.holds hi (c:=0) oq;have q:=HoldsK.cell h.holds hi (c:=1) oq;have v:=HoldsK.cell h.holds hi (c:=2) oq;have g:=HoldsK.cell h.holds hi (c:=3) oq;have j:=HoldsK.cell h.holds hi (c:=4) oq;exact⟨⟨m.1,q.1,v.1,g.1,j.1⟩,g.2,j.2⟩
theorem JH.but{jb f:Nat}(h:JH W jb f d)(hb:W'.1[jb]?=W.1[jb]?):JH W' jb f d:=by
 refine⟨fun j hj=>?_,?_⟩
 .have g:=h.holds j hj;refine⟨(Zn (w:=W) (a:=⟨jb,f+j,none⟩) hb).trans g.1,?_⟩;have:W'.frozen? ⟨jb,f+j,none⟩=W.frozen? ⟨jb,f+j,none⟩:=by unfold World.frozen?;rw[hb]
  rw[this];exact g.2
 have g:=h.lt;apply Yi;intro m;rw[Array.getElem?_eq_none oq,Yo g] at hb
 cases hb
theorem JH.put{jb m:Nat}(h:JH W jb m d)(hi:i<d.size)(I:c<5){x:YH}(D:(Qu d[i]!).set c v=Qu x):JH (W.setCell ⟨jb,m+i*5+c,none⟩ v) jb m (d.setIfInBounds i x):=by
 refine⟨fun j hj=>?_,by simpa using h.lt⟩;have f:j<d.size*5:=by simpa using hj
 have y:=h.holds j (by simpa using f);rw[get_flatK _ _ _ _ (by simpa using f)];rw[get_flatK _ _ _ _ f] at y;refine⟨?_,by rw[World.frozen?_setCell];exact y.2⟩;by_cases z:j=i*5+c
 .subst z;have E:(i*5+c)/5=i:=oq;have F:(i*5+c)%5=c:=oq;rw[E,F,getElem!_set_same _ _ _ hi,<-D];have H:((Qu d[i]!).set c v)[c]! = v:=by
   rw[getElem!_pos _ c (by simp;exact I)];simp
  show(W.setCell _ v).cell? ⟨jb,m+(i*5+c),none⟩=some (id _);rw[H,<-Nat.add_assoc];refine World.cell?_setCell_same' _ _ _ ?_;rw[Nat.add_assoc,y.1];rfl
 have G:(W.setCell ⟨jb,m+i*5+c,none⟩ v).cell? ⟨jb,m+j,none⟩=W.cell? ⟨jb,m+j,none⟩:=World.cell?_setCell_other _ _ _ _ (by intro e;injection e with _ e _;omega);rw[G,y.1];congr 2;by_cases C:j/5=i
 .rw[C,getElem!_set_same _ _ _ hi,<-D];have J:j%5≠c:=fun e=>z oq
  have q:j%5<5:=Nat.mod_lt _ oq;have A:(Qu d[i]!).length=5:=rfl;rw[getElem!_pos _ (j%5) (show j%5<(Qu d[i]!).length by rw[A];exact q),getElem!_pos _ (j%5) (show j%5<((Qu d[i]!).set c v).length by rw[List.length_set,A];exact q),List.getElem_set_ne (fun e=>J e.symm)]
 have g:j/5<d.size:=oq;have:(d.setIfInBounds i x)[j/5]! = d[j/5]!:=by
  rw[getElem!_pos d _ g,getElem!_pos (d.setIfInBounds i x) _ (by simpa using g),Array.getElem_setIfInBounds_ne (by simpa using g) (fun e=>C e.symm)]
 rw[this]
def X4(d:Array YH)(p:Nat)(x:Int):Array YH:=d.setIfInBounds p { d[p]! with d:=min d[p]!.d x }
theorem Vy(d:Array YH)(p:Nat)(x:Int):(X4 d p x).size=d.size:=by simp[X4]
def ZgB(W:World)(jb jo:Nat)(d':Array YH)(e:Ending)(w':World):Prop:=e=.returned (.tuple #[])/\JH w' jb jo d'/\But (fun k=>k=jb) W w'
theorem zK(q jb j A:Nat)(d:Array YH)(I:W.cell? ⟨q,5,none⟩=some (.slice (some ⟨jb,j,none⟩) d.size A))(f:JH W jb j d)(p:Nat)(g:p<d.size)(x:Int) :
  Calls prog 113 #[.pointer (some ⟨q,0,none⟩),.int .i64 (p:Int),.int .i64 x] W (ZgB W jb j (X4 d p x)):=by
 obtain⟨⟨D,E,F,G,H⟩,L,C⟩:=f.cell g;obtain⟨y,hy⟩:=ez (d[p]!.d);rw[hy] at G;have v:=hid f;have z:=hid hy;have M:(0:Int)<=(p:Int):=oq;have J:(p:Int)<(d.size:Int):=oq;obtain⟨n,m⟩:=ez d.size;rw[m] at I g J;clear D E F H C f hy;go_enter func113,ntmps113;go_still_tail 17,kq
 change wpList _ _ _ _ _ W.drew
 go_wp2;go_end0;refine⟨rfl,?_,?_⟩
 .rw[show X4 d p x=d.setIfInBounds p { d[p]! with d:=min y x } by unfold X4;rw[z.o]];exact(v.o.but (W':=W.drew) rfl).put (by rw[m];exact g) oq rfl
 exact((But.refl _ W).drew).then (But.set (S:=fun k=>k=jb) rfl _) (fun _ _ e=>e)
def Gs(w:World)(b o:Nat)(x:Int):Prop:=w.cell? ⟨b,o,none⟩=some (.int .i64 x)
theorem Zcm:Sta Gs:=fun w w' b o x hb hlt h=>(hb.cell (p:=⟨b,_,none⟩) hlt).trans h
def PlM(W:World)(pb:Nat)(Pl:Nat->List Int)(T:Nat):Prop:=pb<W.1.size/\∀s,s<T->∃a c,W.cell? ⟨pb,s,none⟩=some (.slice a (Pl s).length c)/\Row Gs 1 W (Pl s) a
def jE(o:Option Int):Value:=.tuple #[.int .i64 (o.getD 0),.bool o.isSome]
theorem EX(f:FD)(B:List (Nat × Nat))(R pb ci cp:Nat)(ai:OA)(hI:f.ins.length<=1000)(hT:f.tasks.length<=30)(aa:R<W.1.size)(c0:W.cell? ⟨R,0,none⟩=some (.slice ai f.ins.length ci))(c6:W.cell? ⟨R,6,none⟩=some (.slice (some ⟨pb,0,none⟩) f.tasks.length cp))
  (hP:PlM W pb (plP B B.length) f.tasks.length)(a:AD)(V:OA)(cap:Nat)(hr:Row OpR 3 W a.ops V)(hl:a.ops.length<=1000)(ag:0<=a.src/\a.src<=100000)(n:Int)
  (M:∀x,Qz f B a n=some x->∃s k:Nat,s<f.tasks.length/\a.src=(f.ins.length:Int)+(s:Int)/\(index.QD a.ops n).1=(k:Int)/\(plP B B.length s)[k]?=some x) :
  Calls prog 110 #[.pointer (some ⟨R,0,none⟩),.agg #[.int .i64 a.src,.slice V a.ops.length cap],.int .i64 n] W fun e w'=>e=.returned (jE (Qz f B a n))/\Below W.1.size W w':=by
 obtain⟨src,ops⟩:=a;simp only at hr hl ag M ⊢;have C:=hid (fun(w1:World) (hb:Below W.1.size W w1)=>index.ZbE ops V cap n w1 oq (gX (hr.below VK hb)));have z:=hid M;have HP:=hid hP;obtain⟨nI,A⟩:=ez f.ins.length;obtain⟨T,F⟩:=ez f.tasks.length;rw[A] at c0 hI z;rw[F] at c6 hT z HP;obtain⟨J,j⟩:=ez (W.alloc (.cells #[.int .i64 src,.slice V ops.length cap] 92));have hb1:Below W.1.size W J:=by rw[<-j];exact bq
 have I:J.1[W.1.size]?=some (.cells #[.int .i64 src,.slice V ops.length cap] 92 (0,0)):=by rw[<-j];exact Yx W _
 obtain⟨⟨z0,z1⟩,zf⟩:=YI I;have ak:=(hb1.cell (p:=⟨R,0,none⟩) aa).trans c0;have aq:=Zb I;have v1:IntKind.i64.wrap (src-(nI:Int))=src-(nI:Int):=ZL _ oq;have HB1:=hid hb1;have ab:=hid c6;have aj:=hid I;obtain⟨q,hq⟩:=ez (src-(nI:Int));rw[hq] at v1;have U:=hid hq;clear hr M hP c0 c6 hb1 I;by_cases h0:q<0
 .have E:Qz f B ⟨src,ops⟩ n=none:=by unfold Qz;rw[A];exact Z3 (by rw[U.o];exact h0)
  rw[E];clear E A F;go_enter func110,ntmps110;go_upto_region 1 with fail
  first|rw[j]|skip
  clear j;go_still kq
  change Exit.then _ _ Exit.normal _ J.drew
  go_wp2;refine Zl (v:=jE none) (by simp only[results,results110];go_simp;rfl) rfl ⟨rfl,HB1.o.drew⟩
 have an:decide (q<0)=false:=Z0 h0;obtain⟨s,hs⟩:∃s:Nat,q=(s:Int):=⟨q.toNat,oq⟩;obtain⟨⟨m,y,kd⟩,D⟩:∃r,index.QD ops n=r:=⟨_,rfl⟩;rw[D] at C z;unfold index.T3i at C;simp only at C z;by_cases X:kd=1
 .subst X;have E:Qz f B ⟨src,ops⟩ n=some ((plP B B.length s).getD m.toNat 0):=by
   unfold Qz;rw[A,Z2 (by rw[U.o];exact h0),U.o,hs,ZR];simp only[D];rw[Z3 trivial]
  obtain⟨O,k,ah,Z,ae,H⟩:=z.o _ E;have af:=U.o;obtain rfl:O=s:=oq;subst ae;rw[ZR] at E;obtain⟨x,hx⟩:=ez ((plP B B.length O).getD k 0);rw[ZR,hx] at H;rw[E,hx];obtain⟨pa,pc,g1,g2⟩:=HP.o.2 O ah;have Y:=(ZB.1 H).1;obtain⟨b,o,rfl,ac,g⟩:=g2.at Y;unfold Gs at g;rw[Z9,(ZB.1 H).2] at g;obtain⟨L,hL⟩:=ez ((plP B B.length O).length);rw[hL] at g1 Y;have G:=hid (Zh g1 (Zh g (Zh ac HP.o.1)));have s0:(0:Int)<=(O:Int):=oq;have s1:(O:Int)<(T:Int):=oq;have k0:(0:Int)<=(k:Int):=oq;have k1:(k:Int)<(L:Int):=oq;clear Z af;subst hs;clear E A F D H hx g1 g2 g hL z;go_enter func110,ntmps110;go_upto_region 1 with fail
  first|rw[j]|skip
  clear j;go_still kq
  change Exit.then _ _ Exit.normal _ J.drew
  go_wp2_with (go_at_call 87;refine(C.o _ HB1.o.drew).mono ?_;rintro e w2 ⟨rfl,hb2⟩;have HB2:=hid (HB1.o.drew.trans (hb2.mono (by have:=HB1.o.size;show W.1.size<=J.1.size;exact this)));have c6:=(HB2.o.cell (p:=⟨R,6,none⟩) aa).trans ab.o;have al:=(HB2.o.cell (p:=⟨pb,O,none⟩) G.o.2.2.2).trans G.o.1;have am:=(HB2.o.cell (p:=⟨b,o+k,none⟩) G.o.2.2.1).trans G.o.2.1;clear hb2);refine Zl (v:=jE (some x)) (by simp only[results,results110];go_simp;rfl) rfl ⟨rfl,HB2.o⟩
 have E:Qz f B ⟨src,ops⟩ n=none:=by
  unfold Qz;rw[A,Z2 (by rw[U.o];exact h0)];simp only[D];rw[Z2 X]
 rw[E];have ao:(kd == 1)=false:=ZZ.2 X;have ap:(kd != 1)=true:=by simp[X]
 clear E A F hs D z X;go_enter func110,ntmps110;go_upto_region 1 with fail
 first|rw[j]|skip
 clear j;go_still kq
 change Exit.then _ _ Exit.normal _ J.drew
 go_wp2_with (go_at_call 87;refine(C.o _ HB1.o.drew).mono ?_;rintro e w2 ⟨rfl,hb2⟩;have HB2:=hid (HB1.o.drew.trans (hb2.mono (by have:=HB1.o.size;show W.1.size<=J.1.size;exact this)));clear hb2);refine Zl (v:=jE none) (by simp only[results,results110];go_simp;rfl) rfl ⟨rfl,HB2.o⟩
open Go.RowKit Go.Shelf Go.Sort
attribute [local go_sem] ZU
theorem Zek:(prog.info? 128).map (fun i=>(i.zero,i.size,i.bytes))=some (some (.agg #[.int .i64 0,.int .i64 0,.int .i64 0,.int .i64 0,.slice none 0 0]),5,56):=by kernel_rfl
theorem Xf{b:Nat}{f g j m q v x:Value}{t:TypeId}(h:w.1[b]?=some (.cells #[f,g,j,m,q,v,x] t (0,0))) :
  (w.cell? ⟨b,0,none⟩=some f/\w.cell? ⟨b,1,none⟩=some g/\w.cell? ⟨b,2,none⟩=some j/\w.cell? ⟨b,3,none⟩=some m/\w.cell? ⟨b,4,none⟩=some q/\w.cell? ⟨b,5,none⟩=some v/\w.cell? ⟨b,6,none⟩=some x)/\∀o,w.frozen? ⟨b,o,none⟩=false:=by
 refine⟨⟨?_,?_,?_,?_,?_,?_,?_⟩,?_⟩
 all_goals first|(intro o;simp[World.frozen?,h])|simp[World.cell?,h]
structure NwS (w W:World) (fb wx:Array Value) (T bf bw wb pb:Nat):Prop where
 below:Below w.1.size w W
 lo:w.1.size<=bf/\w.1.size<=bw/\w.1.size<=wb/\w.1.size<=pb
 ne:bf≠bw/\bf≠wb/\bf≠pb/\bw≠wb/\bw≠pb/\wb≠pb
 bfb:W.1[bf]?=some (.cells fb 35 (0,0))
 bwb:Boxed W bw 122 (.pointer (some ⟨wb,0,none⟩))
 box:W.1[wb]?=some (.cells wx 126 (0,0))
 row:W.1[pb]?=some (.cells (List.replicate T (.slice none 0 0)).toArray 44 (0,0))
def mkJ(f:FD)(b:Nat × Nat):YH:=⟨(b.1:Int),(b.2:Int),Q9 f b,Q9 f b+(tkO f b.1).per,none,0,0⟩
structure WnJ (W0 W:World) (wb:Nat) (s0 s1 s2 s3 s4 s6 v:Value) (d:List YH):Prop where
 but:But (fun k=>k=wb) W0 W
 lt:wb<W0.1.size
 box:W.1[wb]?=some (.cells #[s0,s1,s2,s3,s4,v,s6] 126 (0,0))
 own:W.ownsRow W0.1.size 128 5 v d.length (d.flatMap Qu)
theorem WnJ.below{d:List YH}(h:WnJ W0 W wb s0 s1 s2 s3 s4 s6 v d)(hb:Below W.1.size W W'):WnJ W0 W' wb s0 s1 s2 s3 s4 s6 v d :=
 ⟨h.but.then (But.of_below (S:=fun _=>False) hb) (fun _ _ e=>e.elim),h.lt,(hb.block _ (Zb h.box)).trans h.box,own_below h.own hb⟩
theorem WnJ.grown{j:Nat}{d:List YH}(h:WnJ W0 W j s0 s1 s2 s3 s4 s6 v d){row:Option Nat}(m:W.grownBy W' row)(q:∀r,row=some r->W0.1.size<=r/\∃o:Obj,W.1[r]?=some o/\o.isCells=false):WnJ W0 W' j s0 s1 s2 s3 s4 s6 v d:=by
 have y:=h.lt;refine⟨h.but.then (But.of_grown m) (fun i hi e=>by have:=(q i e).1;omega),h.lt,(m.block j (Zb h.box) (fun e=>by have:=(q j e.symm).1;omega)).trans h.box,h.own.kept m ?_⟩;rcases h.own.2 with ⟨rfl,_⟩|⟨g,cap,cur,rfl,hb,hgg,_⟩
 .exact .inl rfl
 refine .inr (fun e=>?_);obtain⟨_,o,f,x⟩:=q g e.symm;rw[hgg] at f;injection f with f
 subst f
 cases x
theorem WnJ.app{f:Nat}{d:List YH}(h:WnJ W0 W f s0 s1 s2 s3 s4 s6 v d){x:YH}(j:w4.ownsRow W0.1.size 128 5 v' (d.length+1) (d.flatMap Qu++Qu x))(hb4:But (fun k=>v.ownBlock=some k) W w4) :
  WnJ W0 (w4.setCell ⟨f,5,none⟩ v') f s0 s1 s2 s3 s4 s6 v' (d++[x]):=by
 have q:=h.lt;have g:=QA h.own;have m:=(hb4.block f (Zb h.box) (fun e=>by have:=g f e;omega)).trans h.box;refine⟨(h.but.then hb4 (fun i hi e=>by have:=g i e;omega)).then (But.set (S:=fun k=>k=f) rfl _) (fun _ _ e=>e),h.lt,?_,?_⟩
 .have:=Zj _ f 5 _ _ v' m;simpa only [sA,sB,sC] using this
 rw[Zy,List.flatMap_append];refine Xc ?_ h.lt v';simpa using j
theorem WnJ.start(hb:W.1[wb]?=some (.cells #[s0,s1,s2,s3,s4,.slice none 0 0,s6] 126 (0,0))):WnJ W W wb s0 s1 s2 s3 s4 s6 (.slice none 0 0) [] :=
 ⟨But.refl _ _,Zb hb,hb,Yg _ _ _ _⟩
theorem kM(h:i<order.length):J0 f (order.take (i+1)) u=J0 f (order.take i) u++Xu order[i].toNat (QC f u order[i].toNat):=by
 unfold J0;rw[Zw h,List.flatMap_append];simp
theorem uv(t n:Nat):Xu t (n+1)=Xu t n++[(t,n)]:=by unfold Xu;rw[Yj,ZV];rfl
theorem vu{f:FD}{order:List Int}{u:Int}(g:zp f)(m:u<=20000)(j:∀x∈order,0<=x/\x<(f.tasks.length:Int)):∀i,i<=order.length->(J0 f (order.take i) u).length<=i*20000
 | 0,_=>by simp[J0]
 | i+1,h=>by
  rw[kM oq,Zy];have h1:=vu g m j i oq;have h2:=j order[i] (Zi oq);have h3:=GG g m (t:=order[i].toNat) oq;have h4:(Xu order[i].toNat (QC f u order[i].toNat)).length=QC f u order[i].toNat:=by simp[Xu]
  omega
open Go.RowKit Go.Shelf Go.Sort Go.Lib
theorem yi(f:l.Nodup)(hi:i<l.length):l.idxOf l[i]=i:=by
 have q:=Zcf f (Zi hi);obtain⟨j,m⟩:=ZB.1 q;rw[List.nodup_iff_pairwise_ne,List.pairwise_iff_getElem] at f;apply Yi;intro g;rcases Nat.lt_or_gt_of_ne g with h|h
 .exact f _ _ j hi h m
 exact f _ _ hi j h m.symm
theorem ZdP(g:Y8 f order):(J0 f order u).Pairwise (fun a b=>order.idxOf (a.1:Int)<order.idxOf (b.1:Int)\/(a.1=b.1/\a.2<b.2)):=by
 unfold J0;rw[List.pairwise_flatMap];refine⟨fun t _=>?_,?_⟩
 .unfold Xu;rw[List.pairwise_map];exact List.pairwise_lt_range.imp (fun h=>.inr ⟨rfl,h⟩)
 rw[List.pairwise_iff_getElem];intro i j hi v q x z y hy;unfold Xu at z hy;obtain⟨k,_,rfl⟩:=Yf.1 z;obtain⟨m,_,rfl⟩:=Yf.1 hy;have A:=g.rng _ (Zi hi);have C:=g.rng _ (Zi v);refine .inl ?_;show order.idxOf ((order[i].toNat:Nat):Int)<order.idxOf ((order[j].toNat:Nat):Int);rw[show((order[i].toNat:Nat):Int)=order[i] by omega,show((order[j].toNat:Nat):Int)=order[j] by omega,yi g.nd hi,yi g.nd v];exact q
def jb(x:YH):Nat × Nat:=(x.t.toNat,x.n.toNat)
theorem yb(f:FD)(b:Nat × Nat):jb (mkJ f b)=b:=by unfold jb mkJ;simp
theorem ZbK(x y:YH):ltOf cfJ x y=decide (x.r<y.r):=by
 unfold ltOf cfJ ZbN;by_cases h:x.r<y.r
 .rw[Z3 h];simp[h]
 rw[Z2 h];by_cases f:y.r<x.r
 .rw[Z3 f];simp[h]
 rw[Z2 f];simp[h]
theorem ZeS(V:Y8 f order)(hc:zp f){g:Array YH}(h:Ki (ltOf cfJ) ((J0 f order u).map (mkJ f)).toArray g):∃B,g=(B.map (mkJ f)).toArray/\X1 f order u B:=by
 obtain⟨⟨E,_,X⟩,hs⟩:=h;have U:g.toList.Perm ((J0 f order u).map (mkJ f)):=by
  have F:(g.extract 0 ((J0 f order u).map (mkJ f)).toArray.size)=g:=by rw[<-E];simp
  have G:(((J0 f order u).map (mkJ f)).toArray.extract 0 ((J0 f order u).map (mkJ f)).toArray.size)=((J0 f order u).map (mkJ f)).toArray:=Array.extract_size;rw[F,G] at X;simpa using X
 have C:∀x∈g.toList,mkJ f (jb x)=x:=fun x hx=>by
  obtain⟨b,_,rfl⟩:=Yf.1 (U.mem_iff.1 hx);rw[yb]
 have hB:(g.toList.map jb).map (mkJ f)=g.toList:=by
  rw[List.map_map]
  conv=>rhs;rw[<-List.map_id g.toList]
  exact List.map_congr_left (fun x hx=>C x hx)
 refine⟨g.toList.map jb,by rw[hB],?_,?_⟩
 .have A:=U.map jb;rw[List.map_map] at A;have H:(J0 f order u).map (jb∘mkJ f)=J0 f order u:=by
   conv=>rhs;rw[<-List.map_id (J0 f order u)]
   exact List.map_congr_left (fun b _=>yb f b)
  rw[H] at A;exact A.symm
 have Y:=hs (fun x y=>RJ f order (jb x) (jb y)) (fun x y z A H=>A.trans H) ?_
 .rw[List.pairwise_map,List.pairwise_iff_getElem];intro i j hi T L;have R:=Y i j (Zk _) L (by rw[<-E];simpa using T);rw[getElem!_pos g i (by simpa using hi),getElem!_pos g j (by simpa using T)] at R;simpa using R
 intro p q O hq;have D:q<(J0 f order u).length:=by simpa using hq
 have m:p<(J0 f order u).length:=oq;have F:((J0 f order u).map (mkJ f)).toArray[p]! = mkJ f (J0 f order u)[p]:=by rw[getElem!_pos _ p (by simpa using m)];simp
 have G:((J0 f order u).map (mkJ f)).toArray[q]! = mkJ f (J0 f order u)[q]:=by rw[getElem!_pos _ q (by simpa using D)];simp
 rw[F,G];have v:=List.pairwise_iff_getElem.1 (ZdP V (u:=u)) p q m D O;obtain⟨a,I⟩:=ez ((J0 f order u)[p]);obtain⟨b,hb⟩:=ez ((J0 f order u)[q]);have M:a∈J0 f order u:=by rw[<-I];exact Zi m
 rw[I,hb] at v;rw[I,hb];refine⟨fun hlt=>?_,fun hlt=>?_⟩
 .show RJ f order (jb (mkJ f a)) (jb (mkJ f b));rw[yb,yb];rw[ZbK] at hlt;have h6:¬Q9 f b<Q9 f a:=of_decide_eq_false hlt;unfold RJ;rcases v with v|⟨v,h7⟩
  .by_cases Z:Q9 f a<Q9 f b
   .exact .inl Z
   exact .inr ⟨oq,v⟩
  refine .inl ?_;have J:=(ZcF V (u:=u) (t:=a.1) (n:=a.2)).1 M;have aa:=(hc a.1 J.1).1;unfold Q9;rw[<-v];have h9:=Int.mul_le_mul_of_nonneg_right (show(a.2:Int)+1<=(b.2:Int) by omega) (show 0<=(tkO f a.1).per by omega);rw[Int.add_mul] at h9;omega
 show RJ f order (jb (mkJ f b)) (jb (mkJ f a));rw[yb,yb];rw[ZbK] at hlt;exact .inl (Yk hlt)
theorem Zap{f:List YH}(h:t<f.length*5):(f.flatMap Qu)[t]?=some (Qu f.toArray[t/5]!)[t%5]!:=by
 induction f generalizing t with
 | nil=>simp at h
 | cons x f ih =>
  rw[List.flatMap_cons];by_cases ht:t<5
  .rw[List.getElem?_append_left (show t<(Qu x).length from ht)];have g:t/5=0:=oq;have j:t%5=t:=oq;rw[g,j];have:(x::f).toArray[0]! = x:=rfl;rw[this,getElem!_pos _ t (show t<(Qu x).length from ht),Ze]
  rw[List.getElem?_append_right (show(Qu x).length<=t by show 5<=t;omega)];have q:(Qu x).length=5:=rfl;rw[q,ih (t:=t-5) (by simp at h;omega)];have g:t/5=(t-5)/5+1:=oq;have j:(t-5)%5=t%5:=oq;rw[g,j];have m:(t-5)/5<f.length:=by simp at h;omega
  have:(x::f).toArray[(t-5)/5+1]! = f.toArray[(t-5)/5]!:=by
   rw[getElem!_pos _ _ (by simp;exact m),getElem!_pos _ _ (by simpa using m)];simp
  rw[this]
theorem ZaG{base g c:Nat}{j:List YH}(h:W.ownsRow base 128 5 (.slice (some ⟨g,0,none⟩) j.length c) j.length (j.flatMap Qu)):JH W g 0 j.toArray:=by
 rcases h.2 with ⟨e,_⟩|⟨g',cap,cur,e,hb,hg,hnc,hcm,hcs,htk⟩
 .cases e
 injection e with e1 e2 e3
 injection e1 with e1
 injection e1 with e1
 subst e1;refine⟨fun t ht=>?_,Zb hg⟩;have f:t<j.length*5:=by simpa using ht
 rw[get_flatK _ _ _ _ (by simpa using f),ZE];refine⟨?_,by simp[World.frozen?,hg]⟩;rw[Z8 W g t cur _ (0,0) hg,<-Array.getElem?_toList];have m:=Zap f;rw[<-htk,Yp f] at m;exact m
theorem jY(w:World):Calls prog 108 #[.slice none 0 0,.func (.func 109) #[] #[]] w fun e w'=>e=.returned (.tuple #[])/\Below w.1.size w w':=by
 have f:∀W,Calls prog 214 #[.slice none 0 0,.int .i64 0,.int .i64 0,.func (.func 109) #[] #[]] W fun e w'=>e=.returned (.tuple #[])/\Below W.1.size W w':=fun W=>by
  go_enter func214,ntmps214;go_wp2;go_loopw [8] (fun s8 W'=>Hid (s8=.int .i64 1/\Below W.1.size W W')) (fun _ _=>0)
  case atStart=>exact⟨by go_num,bq⟩
  obtain⟨rfl,hb⟩:=hrel.o;clear hrel;have HB:=hid hb;clear hb;go_wp2;go_end0;exact⟨rfl,HB.o⟩
 have g:∀W,Calls prog 175 #[.slice none 0 0,.int .i64 0,.func (.func 109) #[] #[]] W fun e w'=>e=.returned (.tuple #[])/\Below W.1.size W w':=fun W=>by
  go_enter func175,ntmps175;go_wp2;go_loopw [7,8] (fun s7 s8 W'=>Hid (s7=.int .i64 0/\s8=.int .i64 20/\Below W.1.size W W')) (fun _ _ _=>0)
  case atStart=>exact⟨rfl,rfl,Zg _ _⟩
  obtain⟨rfl,rfl,hb⟩:=hrel.o;clear hrel;have HB:=hid hb;clear hb;go_wp2_with (go_at_call 214;refine(f _).mono ?_;rintro e j ⟨rfl,hb2⟩;have HB2:=hid (HB.o.trans (hb2.mono HB.o.size));clear hb2);go_loopw [6] (fun s6 W'=>Hid (s6=.int .i64 20/\Below W.1.size W W')) (fun _ _=>0)
  case atStart=>exact⟨rfl,HB2.o⟩
  obtain⟨rfl,hb⟩:=hrel.o;clear hrel;have HB3:=hid hb;clear hb;go_wp2;go_end0;exact⟨rfl,HB3.o⟩
 go_enter func108,ntmps108;go_wp2_with (go_at_call 175;refine(g _).mono ?_;rintro e j ⟨rfl,hb2⟩);go_end0;exact⟨rfl,hb2⟩
theorem ZeX{α:Type}[Inhabited α]{enc:α->List Value}{k:Nat}{f off:Nat}{d:Array α}(h:SWK enc k w f off d W'):But (fun b=>b=f) w W':=by
 obtain⟨m,os,rfl⟩:=h;refine⟨rfl,rfl,rfl,?_,fun b hb hne=>?_⟩
 .simp[sortWorldK,putRowK,putRow,mapBlock,grow,ahead]
 unfold sortWorldK;rw[heap_grow_old _ _ (by simpa [putRowK,putRow,mapBlock,ahead] using hb)];simp only[putRowK,putRow,mapBlock,ahead,Array.getElem?_modify];rw[Z2 (fun e=>hne e.symm)];rfl
def jaB(ja:OA):Option Nat:=ja.map (·.block)
structure BC (S:Nat->Prop) (W W':World):Prop where
 size:W.1.size<=W'.1.size
 block:∀(k:Nat)(cs:Array Value)(t:TypeId)(fr:Nat × Nat),W.1[k]?=some (.cells cs t fr)->¬S k->W'.1[k]?=some (.cells cs t fr)
theorem BC.of_but(h:But S W W'):BC S W W':=⟨h.size,fun k _ _ _ hk hs=>(h.block k (Zb hk) hs).trans hk⟩
theorem BC.of_mk{lo:Nat}(h:MkW lo W W'):BC S W W':=⟨Nat.le_of_eq h.size.symm,fun k cs t fr hk _=>h.cells k _ hk rfl⟩
theorem BC.then{A B C:World}(h:BC S A B)(k:BC S B C):BC S A C:=⟨Zm h.size k.size,fun j cs t fr hj hs=>k.block j cs t fr (h.block j cs t fr hj hs) hs⟩
theorem BC.own{w w':World}{base:Nat}{e:TypeId}{size n:Nat}{xs:List Value}(h:BC S w w')(f:w.ownsRow base e size v n xs)(j:∀k,v.ownBlock=some k->¬S k):w'.ownsRow base e size v n xs:=by
 refine⟨f.1,?_⟩;rcases f.2 with hn|⟨g,cap,cur,rfl,hb,hgg,rest⟩
 .exact .inl hn
 exact .inr ⟨g,cap,cur,rfl,hb,h.block g _ _ _ hgg (j g rfl),rest⟩
def JR(W:World)(ja:OA)(d:Array YH):Prop:=d.size=0\/∃g,ja=some ⟨g,0,none⟩/\JH W g 0 d
theorem JR.bc{f:OA}(h:JR W f d)(hb:BC S W W')(q:∀g,jaB f=some g->¬S g):JR W' f d:=by
 by_cases m:d.size=0
 .exact .inl m
 rcases h with h|⟨g,rfl,h⟩
 .exact .inl h
 refine .inr ⟨g,rfl,h.but ?_⟩;have j:=(h.cell (i:=0) oq).1.1;have v:=h.lt
 cases ho:W.1[g]? with
 | none=>simp[World.cell?,ho] at j
 | some o =>
  cases o with
  | cells cs t fr=>exact hb.block g cs t fr ho (q g rfl)
  | _=>simp[World.cell?,ho] at j
theorem JR.but(h:JR W ja d)(hb:But S W W')(hS:∀g,jaB ja=some g->¬S g):JR W' ja d:=h.bc (BC.of_but hb) hS
theorem JR.below(h:JR W ja d)(hb:Below W.1.size W W'):JR W' ja d:=h.but (But.of_below (S:=fun _=>False) hb) (fun _ _ e=>e)
theorem jZ{base x:Nat}{v:OA}(H:Y8 f order)(G:zp f)(N:Nat)(F:((J0 f order u).map (mkJ f)).length=N)(z:N<=1000000)(m:W.ownsRow base 128 5 (.slice v N x) N (((J0 f order u).map (mkJ f)).flatMap Qu)) :
  Calls prog 108 #[.slice v N x,.func (.func 109) #[] #[]] W fun e w'=>e=.returned (.tuple #[])/\(∃B,X1 f order u B/\B.length=N/\JR w' v (B.map (mkJ f)).toArray)/\But (fun b=>jaB v=some b) W w':=by
 subst F;rcases m.2 with ⟨e,hn⟩|⟨g,cap,cur,e,hb,hg,_⟩
 .rw[e];injection e with e1 e2 e3
  subst e1;refine(jY W).mono ?_;rintro y w' ⟨rfl,hb⟩;have D:J0 f order u=[]:=by
   have:=hn;rw[Zo] at this;exact Ye this
  refine⟨rfl,⟨[],⟨by rw[D],List.Pairwise.nil⟩,by rw[D];rfl,.inl rfl⟩,But.of_below hb⟩
 injection e with e1 e2 e3
 subst e1;have j:=ZaG m;have h:=xC g 0 x ((J0 f order u).map (mkJ f)).toArray W j.holds j.lt (by simp at z ⊢;omega);rw[ZJ] at h;refine h.mono ?_;rintro y w' ⟨rfl,I,A,q⟩;obtain⟨B,rfl,C⟩:=ZeS H G A;have E:B.length=((J0 f order u).map (mkJ f)).length:=by rw[Zo];exact C.perm.length_eq.symm
 refine⟨rfl,⟨B,C,E,.inr ⟨g,rfl,⟨q.holds j.lt j.holds (by simp[E]),q.lt j.lt⟩⟩⟩,(ZeX q).imp (fun b _ e=>by rw[e];rfl)⟩
structure PlW (W3 W:World) (pb T:Nat) (vs:List Value) (B:List (Nat × Nat)) (i:Nat):Prop where
 but:But (fun k=>k=pb) W3 W
 lt:pb<W3.1.size
 len:vs.length=T
 row:W.1[pb]?=some (.cells vs.toArray 44 (0,0))
 fam:Fam W W3.1.size 3 vs ((List.range T).map (fun t=>ints (plP B i t)))
theorem PlW.start{f T:Nat}(h:W.1[f]?=some (.cells (List.replicate T (.slice none 0 0)).toArray 44 (0,0))):PlW W W f T (List.replicate T (.slice none 0 0)) B 0:=by
 refine⟨But.refl _ _,Zb h,by simp,h,?_⟩;have g:=Fam.nils W W.1.size 3 T;have j:(List.range T).map (fun t=>ints (plP B 0 t))=List.replicate T []:=by
  rw[List.eq_replicate_iff];refine⟨by simp,fun x hx=>?_⟩;obtain⟨t,_,rfl⟩:=Yf.1 hx;rfl
 rw[j];exact g
theorem PlW.at{g W:World}{f T:Nat}{vs:List Value}{B:List (Nat × Nat)}{i:Nat}(h:PlW g W f T vs B i){t:Nat}(ht:t<T):∃v,vs[t]?=some v/\W.cell? ⟨f,t,none⟩=some v/\W.frozen? ⟨f,t,none⟩=false/\W.ownsRow g.1.size 3 1 v (plP B i t).length (ints (plP B i t)):=by
 have j:=h.len;refine⟨vs[t],Ze oq,?_,by simp[World.frozen?,h.row],?_⟩
 .rw[Z8 W f t _ _ _ h.row];simp[j,ht]
 have:=h.fam.own t vs[t] (ints (plP B i t)) (Ze oq) (by simp[ht])
 rwa [Q1] at this
theorem PlW.app{f T:Nat}(h:PlW y W f T vs B i)(ht:t<T)(G:(B.getD i (0,0)).1=t)(C:vs[t]?=some v)(hb4:But (fun k=>v.ownBlock=some k) W w4)
  (x:w4.ownsRow y.1.size 3 1 v' ((plP B i t).length+1) (ints (plP B i t)++[.int .i64 (i:Int)]))(A:∀k,v'.ownBlock=some k->v.ownBlock=some k\/W.1.size<=k):PlW y (w4.setCell ⟨f,t,none⟩ v') f T (vs.set t v') B (i+1):=by
 have J:=h.lt;have q:=h.len;have m:=fun k hk=>h.fam.block C k hk
 have z:∀k,v.ownBlock=some k->k≠f:=fun k hk e=>by have:=m k hk;omega
 have D:=(hb4.block f (Zb h.row) (fun e=>z f e rfl)).trans h.row;have g:But (fun k=>v.ownBlock=some k\/k=f) W (w4.setCell ⟨f,t,none⟩ v'):=(hb4.imp (fun _ _ e=>.inl e)).then (But.set (S:=fun k=>k=f) rfl _) (fun _ _ e=>.inr e);refine⟨h.but.then g (fun k hk e=>by rcases e with e|e<;>first|exact e|(have:=m k e;omega)),h.lt,by rw[List.length_set];exact q,?_,?_⟩
 .have E:=Zj _ f t _ _ v' D;rw[E];simp
 have F:(List.range T).map (fun t=>ints (plP B (i+1) t))=((List.range T).map (fun t=>ints (plP B i t))).set t (ints (plP B i t)++[.int .i64 (i:Int)]):=by
  apply List.ext_getElem
  .simp
  intro j H I;rw[List.getElem_set];simp only[List.getElem_map,List.getElem_range];rw[Zc0,G];by_cases e:t=j
  .subst e;rw[Z3 rfl,Z3 rfl,<-Jt]
  rw[Z2 e,Z2 e,List.append_nil]
 rw[F];refine h.fam.put C (g.imp (fun k _ e=>by rcases e with e|e<;>first|exact .inl e|exact .inr oq)) ?_ A;rw[Zy,Q1];exact Xc x h.lt v'
theorem PlW.done(h:PlW y W m T vs B i)(z:∀k,S k->k<y.1.size/\k≠m)(hb:BC S W W'):PlM W' m (plP B i) T:=by
 have f:W'.1[m]?=_:=hb.block m _ _ _ h.row (fun e=>(z _ e).2 rfl);refine⟨Zb f,fun t ht=>?_⟩;obtain⟨v,E,A,_,x⟩:=h.at ht;obtain⟨a,c,rfl⟩:=YC x;refine⟨a,c,(Zn (w:=W) (a:=⟨m,t,none⟩) (f.trans h.row.symm)).trans A,?_⟩;have q:=hb.own x (fun k hk hs=>by have C:=(z k hs).1;have D:=QA x k hk;omega);rcases q.2 with ⟨_,hn⟩|⟨g,cap,cur,e,hb2,hg,_⟩
 .exact .inl (Ye hn)
 injection e with e1 e2 e3
 subst e1;refine .inr ⟨g,0,rfl,Zb hg,fun j hj=>?_⟩;rw[Z9,ZE];refine(World.ownsRow.cellAt q j (by rw[Z9];exact hj)).trans ?_;rw[ints_at hj,Zf,Ze hj];rfl
structure QF (W:World) (f:FD) (ai an aT al:OA) (ci cn ct cl:Nat) (u:Int) (wb pb cp:Nat) (ja:OA) (cj:Nat) (B:List (Nat × Nat)) (d:Array YH):Prop where
 box:W.1[wb]?=some (.cells #[.slice ai f.ins.length ci,.slice an f.nods.length cn,.slice aT f.tasks.length ct,.slice al f.tells.length cl,.int .i64 u,.slice ja d.size cj,.slice (some ⟨pb,0,none⟩) f.tasks.length cp] 126 (0,0))
 ne:jaB ja≠some wb
 jobs:JR W ja d
 pl:∀W',BC (fun b=>jaB ja=some b) W W'->PlM W' pb (plP B B.length) f.tasks.length
 sz:d.size=B.length
theorem QF.but{d d':Array YH}(h:QF W f ai an aT al ci cn ct cl u wb pb cp ja cj B d)(hb:But (fun b=>jaB ja=some b) W W')(hs:d'.size=d.size)(hj:JR W' ja d'):QF W' f ai an aT al ci cn ct cl u wb pb cp ja cj B d' :=
 ⟨by rw[hs];exact(hb.block wb (Zb h.box) h.ne).trans h.box,h.ne,hj,fun W2 h2=>h.pl W2 ((BC.of_but hb).then h2),hs.trans h.sz⟩
theorem QF.below{W W':World}{f:FD}{ai an aT al:OA}{ci cn ct cl:Nat}{u:Int}{wb pb cp:Nat}{ja:OA}{cj:Nat}{B:List (Nat × Nat)}{d:Array YH}(h:QF W f ai an aT al ci cn ct cl u wb pb cp ja cj B d)(hb:Below W.1.size W W'):QF W' f ai an aT al ci cn ct cl u wb pb cp ja cj B d :=
 h.but (But.of_below hb) rfl (h.jobs.below hb)
theorem QF.mk'(h:QF W f ai an aT al ci cn ct cl u wb pb cp ja cj B d){lo:Nat}(hm:MkW lo W W'):QF W' f ai an aT al ci cn ct cl u wb pb cp ja cj B d :=
 ⟨hm.cells _ _ h.box rfl,h.ne,h.jobs.bc (BC.of_mk (S:=fun _=>False) hm) (fun _ _ e=>e),fun W2 h2=>h.pl W2 ((BC.of_mk hm).then h2),h.sz⟩
theorem Uc:∀(l:List index.Op3)(p q p' q':Int),clock.YG p q=true->clock.YL p q l=(p',q',0)->clock.YG p' q'=true
 | [],p,q,p',q',hr,h=>by
  simp only[clock.YL,Z5] at h;obtain⟨rfl,rfl,_⟩:=h;exact hr
 | o::r,p,q,p',q',hr,h=>by
  obtain⟨k,N,d⟩:=o;rw[clock.YL] at h;rcases ha:clock.YD p q k N d with ⟨p1,f1,e1⟩
  simp only[ha] at h;split at h
  .rename_i he
   subst he;exact Uc r p1 f1 p' q' (Jf ha).2.1 h
  rename_i he
  simp only[Z5] at h;exact absurd h.2.2 he
theorem QK{m j:Int}(h:XM f a m j=true):clock.YG m j=true/\(XV f a.src).isSome=true/\a.ops.length<=20:=by
 unfold XM at h
 cases hs:XV f a.src with
 | none=>rw[hs] at h;cases h
 | some s =>
  obtain⟨z,y⟩:=s;rw[hs] at h;simp only[ZC,Yl] at h;obtain⟨A,g,q,v⟩:=h;unfold clock.V9 at g q v;by_cases x:clock.YG z y=true
  .rw[Z3 x] at g q v;exact⟨Uc a.ops z y m j x (by rw[<-g,<-q,<-v]),rfl,A⟩
  rw[Z2 x] at g;simp at g
structure RgF (f:FD):Prop where
 few:f.tasks.length<=30
 clk:zp f
 fits:∀t,t<f.tasks.length->∀a∈(tkO f t).args,XM f a (tkO f t).per (tkO f t).ph=true
 node:∀t,t<f.tasks.length->∃k:Nat,(tkO f t).node=(k:Int)/\∃h:k<f.nods.length,1<=f.nods[k].bud/\f.nods[k].bud<=1000
 tel:∀t∈f.tells,(1<=t.dl/\t.dl<=1000)/\XM f t.arg t.per t.ph=true
theorem QS(h:Xd f=true):RgF f:=by
 unfold Xd at h;simp only[ZC,List.all_eq_true,Yl] at h;obtain⟨_,v,x,y,z⟩:=h;have key:∀t,t<f.tasks.length->(∃k:Nat,(tkO f t).node=(k:Int)/\∃h:k<f.nods.length,1<=f.nods[k].bud/\f.nods[k].bud<=1000)/\(tkO f t).args≠[]/\∀a∈(tkO f t).args,XM f a (tkO f t).per (tkO f t).ph=true:=by
  intro t ht;have g:=x f.tasks[t] (Zi ht);rw[JP ht] at g;by_cases D:(tkO f t).node<0\/(f.nods.length:Int)<=(tkO f t).node
  .rw[V8 D] at g;cases g
  have j:(tkO f t).node.toNat<f.nods.length:=oq;have q:(tkO f t).node=((tkO f t).node.toNat:Int):=oq;rw[KX j q] at g;simp only[ZC,List.all_eq_true,Yl] at g;refine⟨⟨_,q,j,?_⟩,fun e=>g.1 (by rw[e];rfl),g.2.2⟩;have:=v _ (Zi j);unfold Vu at this;simpa using this
 refine⟨z,fun t ht=>?_,fun t ht=>(key t ht).2.2,fun t ht=>(key t ht).1,fun t ht=>?_⟩
 .obtain⟨_,m,C⟩:=key t ht;obtain⟨a,A⟩:=List.exists_mem_of_ne_nil _ m;exact clock.Xz.1 (QK (C a A)).1
 have:=y t ht;unfold K1 Vu at this;simpa using this
theorem yp{m j:Int}(y:f.tasks.length<=30)(x:f.ins.length<=1000)(h:XM f a m j=true):0<=a.src/\a.src<=100000:=by
 have g:=(QK h).2.1;by_cases q:a.src<0
 .rw[eF q] at g;cases g
 by_cases v:(f.ins.length:Int)<=a.src
 .have:=za g v;omega
 omega
def Uj(f:FD)(B:List (Nat × Nat))(i:Nat):List Int:=(tkO f (B.getD i (0,0)).1).args.filterMap (fun a=>Qz f B a ((B.getD i (0,0)).2:Int))
def XK(f:FD)(B:List (Nat × Nat))(i:Nat):List Int:=Lib.compact ((Uj f B i).mergeSort (fun x y=>decide (x<=y)))
theorem ZcN(h:x∈XK f B i):x∈Uj f B i:=List.mem_mergeSort.1 (Gg (Nat.le_of_eq (by simp)) x h)
theorem Zes(g:X1 f order u B)(z:Y8 f order)(A:RgF f)(hi:i<B.length)(h:x∈XK f B i):∃p:Nat,x=(p:Int)/\p<i:=by
 have y:=ZcN h;unfold Uj at y;obtain⟨a,j,v⟩:=List.mem_filterMap.1 y;have hb:B[i]?=some (B.getD i (0,0)):=by rw[Zf,Ze hi];rfl
 obtain⟨⟨t,n⟩,m⟩:=ez (B.getD i (0,0));rw[m] at j v hb;simp only at j v;have q:=(g.mem z).1 (Yb hb);obtain⟨p,s,k,rfl,C,D⟩:=Zf9 g z A.fits q.1 (A.clk t q.1).1 q.2 j v;exact⟨p,rfl,g.lt C hb D⟩
structure NdS (W:World) (f:FD) (B:List (Nat × Nat)) (ja:OA) (d:Array YH) (i:Nat):Prop where
 base:∀k,k<B.length->d[k]!.t=((B.getD k (0,0)).1:Int)/\d[k]!.n=((B.getD k (0,0)).2:Int)/\d[k]!.r=Q9 f (B.getD k (0,0))/\d[k]!.d=Q9 f (B.getD k (0,0))+(tkO f (B.getD k (0,0)).1).per
 nd:∀k,k<i->d[k]!.nl=(XK f B k).length/\∀W',BC (fun b=>jaB ja=some b) W W'->Row Gs 1 W' (XK f B k) d[k]!.na
theorem NdS.start(W:World)(f:FD)(B:List (Nat × Nat))(g:OA):NdS W f B g (B.map (mkJ f)).toArray 0:=by
 refine⟨fun k hk=>?_,fun k hk=>oq⟩;have:(B.map (mkJ f)).toArray[k]! = mkJ f (B.getD k (0,0)):=by
  rw[getElem!_pos _ k (by simpa using hk)];simp[Zf,hk]
 rw[this];exact⟨rfl,rfl,rfl,rfl⟩
theorem Kb(hi:i<d.size)(x:YH)(k:Nat):(d.setIfInBounds i x)[k]! = if k=i then x else d[k]!:=by
 by_cases h:k=i
 .subst h;rw[Z3 rfl,getElem!_set_same _ _ _ hi]
 rw[Z2 h];by_cases f:k<d.size
 .rw[getElem!_pos d k f,getElem!_pos (d.setIfInBounds i x) k (by simpa using f),Array.getElem_setIfInBounds_ne (by simpa using f) (fun e=>h e.symm)]
 rw[getElem!_neg d k f,getElem!_neg (d.setIfInBounds i x) k (by simpa using f)]
theorem NdS.put{g:OA}(h:NdS W f B g d i)(hb:BC (fun b=>jaB g=some b) W W')(hi:i<d.size)(m:d.size=B.length){a:OA}(j:∀W2,BC (fun b=>jaB g=some b) W' W2->Row Gs 1 W2 (XK f B i) a) :
  NdS W' f B g (d.setIfInBounds i { d[i]! with na:=a,nl:=(XK f B i).length,nc:=c }) (i+1):=by
 refine⟨fun k hk=>?_,fun k hk=>?_⟩
 .rw[Kb hi];by_cases e:k=i
  .subst e;rw[Z3 rfl];exact h.base k hk
  rw[Z2 e];exact h.base k hk
 rw[Kb hi];by_cases e:k=i
 .subst e;rw[Z3 rfl];exact⟨rfl,j⟩
 rw[Z2 e];exact⟨(h.nd k oq).1,fun W2 h2=>(h.nd k oq).2 W2 (hb.then h2)⟩
theorem Zc3{base:Nat}{a:OA}(h:QV W base (.slice a n c) l)(m:∀k,S k->k<base)(hb:BC S W W'):n=l.length/\Row Gs 1 W' l a:=by
 have f:=hb.own h (fun k hk hs=>by have q:=m k hs;have v:=QA h k hk;omega);rcases f.2 with ⟨e,hn⟩|⟨g,cap,cur,e,_,hg,_⟩
 .cases e
  rw[Ye hn];exact⟨rfl,.inl rfl⟩
 injection e with e1 e2 e3
 subst e1;subst e2;subst e3;refine⟨rfl,.inr ⟨g,0,rfl,Zb hg,fun j hj=>?_⟩⟩;rw[Z9,ZE];refine(World.ownsRow.cellAt f j (by rw[Z9];exact hj)).trans ?_;rw[ints_at hj,Zf,Ze hj];rfl
