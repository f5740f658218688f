/- Parts of the proof. -/
import Derived.Test.YtdgifkjaflfdeaaGreatDoorJ44
set_option linter.all false
set_option maxRecDepth 100000
set_option maxHeartbeats 16000000
namespace Go.Proofs.YtdgifkjaflfdeaaGreatDoor.syn
open Tryz
open Go.RowKit Go.Sort
variable {x:TD}{D u:Int}{n i g:Nat}{l:List Int}{f:FD}{b:Nat × Nat}{B:List (Nat × Nat)}{W W':World}
def K6(x:TD)(D:Int):Option Nat:=if D<x.ph\/(D-x.ph).tmod x.per≠0 then none else some ((D-x.ph).tdiv x.per).toNat
theorem Uc(v:1<=x.per)(h:K6 x D=some n):D=x.ph+(n:Int)*x.per:=by
 unfold K6 at h;split at h
 .cases h
 rename_i hc
 have f:0<=D-x.ph:=oq;rw[Int.tdiv_eq_ediv_of_nonneg f] at h;rw[Int.tmod_eq_emod_of_nonneg f] at hc;have j:(D-x.ph)%x.per=0:=oq;have m:=Int.mul_ediv_add_emod (D-x.ph) x.per;have q:0<=(D-x.ph)/x.per:=Int.ediv_nonneg f oq;injection h with h
 have g:(n:Int)=(D-x.ph)/x.per:=oq;rw[g,Int.mul_comm];omega
theorem ZeP(j:1<=x.per)(h:D=x.ph+(n:Int)*x.per):K6 x D=some n:=by
 have g:D-x.ph=(n:Int)*x.per:=oq;have f:0<=(n:Int)*x.per:=Int.mul_nonneg oq oq;unfold K6;rw[g,Int.tdiv_eq_ediv_of_nonneg f,Int.tmod_eq_emod_of_nonneg f,Int.mul_emod_left,Int.mul_ediv_cancel _ oq,Z0 oq];simp
def QD(f:FD)(D:Nat)(l:List Int):List (Nat × Nat):=l.filterMap (fun t=>(K6 (tkO f t.toNat) (D:Int)).map (fun n=>(t.toNat,n)))
def QE(f:FD)(l:List Int)(D:Nat):List (Nat × Nat):=(List.range D).flatMap (fun D=>QD f D l)
theorem Vr(f:FD)(l:List Int)(D:Nat):QE f l (D+1)=QE f l D++QD f D l:=by unfold QE;rw[Yh,List.flatMap_append];simp
theorem kI(f:FD)(D:Nat){t:Int}(h:l[i]?=some t):QD f D (l.take (i+1))=QD f D (l.take i)++(match K6 (tkO f t.toNat) (D:Int) with|none=>[]|some n=>[(t.toNat,n)]):=by
 unfold QD;rw[List.take_add_one,h,Option.toList_some,List.filterMap_append];congr 1
 cases hj:K6 (tkO f t.toNat) (D:Int)<;>simp[hj]
theorem jI(m:Vj f)(v:YQ f l){D:Nat}(h:b∈QD f D l):b.1<f.tasks.length/\XQ f b=(D:Int)/\(b.1:Int)∈l:=by
 unfold QD at h;obtain⟨t,ht,j⟩:=List.mem_filterMap.1 h;obtain⟨n,q,rfl⟩:=Option.map_eq_some_iff.1 j;have x:=v.rng t ht;have g:t.toNat<f.tasks.length:=oq;have:=Uc (m t.toNat g).1 q;exact⟨g,this.symm,by show((t.toNat:Nat):Int)∈l;rw[show((t.toNat:Nat):Int)=t by omega];exact ht⟩
theorem Zdd(g:Vj f)(j:YQ f l){D t n:Nat}(ht:t<f.tasks.length)(h:XQ f (t,n)=(D:Int)):(t,n)∈QD f D l:=by
 unfold QD;refine List.mem_filterMap.2 ⟨(t:Int),j.all t ht,?_⟩;rw[ZQ,ZeP (n:=n) (g t ht).1 h.symm];rfl
theorem qU(f:l.Nodup)(hi:i<l.length):l.idxOf l[i]=i:=by
 have h:=kB f (Zi hi);obtain⟨j,g⟩:=ZA.1 h;exact(List.getElem_inj f).1 g
theorem Zc4(z:Vj f)(g:YQ f l)(D:Nat):(QD f D l).Pairwise (RJ f l):=by
 unfold QD;rw[List.pairwise_filterMap];have G:l.Pairwise (fun a b=>l.idxOf a<l.idxOf b):=by
  rw[List.pairwise_iff_getElem];intro i j hi C v;rw[qU g.nd hi,qU g.nd C];exact v
 refine(List.Pairwise.and_mem.1 G).imp ?_;rintro a b ⟨A,hb,q⟩ x H y hy;obtain⟨n,F,rfl⟩:=Option.map_eq_some_iff.1 H;obtain⟨m,E,rfl⟩:=Option.map_eq_some_iff.1 hy;have L:=g.rng a A;have M:=g.rng b hb;have I:=Uc (z a.toNat oq).1 F;have J:=Uc (z b.toNat oq).1 E;refine .inr ⟨?_,?_⟩
 .show(tkO f a.toNat).ph+(n:Int)*(tkO f a.toNat).per=(tkO f b.toNat).ph+(m:Int)*(tkO f b.toNat).per;omega
 show l.idxOf ((a.toNat:Nat):Int)<l.idxOf ((b.toNat:Nat):Int);rw[show((a.toNat:Nat):Int)=a by omega,show((b.toNat:Nat):Int)=b by omega];exact q
theorem jK{f:FD}(hc:Vj f){l:List Int}(ho:YQ f l):∀D:Nat,(QE f l D).Pairwise (RJ f l)/\∀b∈QE f l D,XQ f b<(D:Int)/\b.1<f.tasks.length
 | 0=>⟨List.Pairwise.nil,fun b hb=>by cases hb⟩
 | D+1=>by
  obtain⟨h1,h2⟩:=jK hc ho D;rw[Vr];refine⟨List.pairwise_append.2 ⟨h1,Zc4 hc ho D,fun a ha b hb=>.inl ?_⟩,fun b hb=>?_⟩
  .have:=(h2 a ha).1;have:=(jI hc ho hb).2.1;omega
  rcases List.mem_append.1 hb with hb|hb
  .have:=h2 b hb;exact⟨oq,this.2⟩
  have:=jI hc ho hb;exact⟨oq,this.1⟩
theorem jT{f:FD}(hc:Vj f){l:List Int}(ho:YQ f l){t n:Nat}(ht:t<f.tasks.length):∀D:Nat,XQ f (t,n)<(D:Int)->(t,n)∈QE f l D
 | 0,h=>by
  have h1:XQ f (t,n)=(tkO f t).ph+(n:Int)*(tkO f t).per:=rfl;have:=hc t ht;have:=Int.mul_nonneg (show 0<=(n:Int) by omega) (show 0<=(tkO f t).per by omega);omega
 | D+1,h=>by
  rw[Vr];by_cases hd:XQ f (t,n)<(D:Int)
  .exact List.mem_append_left _ (jT hc ho ht D hd)
  exact List.mem_append_right _ (Zdd hc ho ht oq)
theorem UI{α:Type}{R:α->α->Prop}(f:∀a b,R a b->R b a->False):∀(l m:List α),l.Pairwise R->m.Pairwise R->(∀x,x∈l↔x∈m)->l=m
 | [],[],_,_,_=>rfl
 | [],b::m,_,_,h=>by have:=(h b).2 (List.mem_cons_self ..);cases this
 | a::l,[],_,_,h=>by have:=(h a).1 (List.mem_cons_self ..);cases this
 | a::l,b::m,h1,h2,h=>by
  obtain⟨a1,a2⟩:=List.pairwise_cons.1 h1;obtain⟨b1,b2⟩:=List.pairwise_cons.1 h2;have hab:a=b:=by
   rcases ZR.1 ((h a).1 (List.mem_cons_self ..)) with e|e
   .exact e
   rcases ZR.1 ((h b).2 (List.mem_cons_self ..)) with e2|e2
   .exact e2.symm
   exact absurd (b1 a e) (fun k=>f _ _ k (a1 b e2))
  subst hab;congr 1;refine UI f l m a2 b2 (fun x=>⟨fun hx=>?_,fun hx=>?_⟩)
  .rcases ZR.1 ((h x).1 (List.mem_cons_of_mem _ hx)) with e|e
   .subst e;exact absurd (a1 x hx) (fun k=>f _ _ k k)
   exact e
  rcases ZR.1 ((h x).2 (List.mem_cons_of_mem _ hx)) with e|e
  .subst e;exact absurd (b1 x hx) (fun k=>f _ _ k k)
  exact e
theorem Zc5(g:Vj f)(j:YQ f l){u:Nat}(m:Xg f l (u:Int) B):QE f l u=B:=by
 obtain⟨q,v⟩:=jK g j u;refine UI (fun a b h k=>h.asymm k) _ _ q m.srt (fun b=>?_);obtain⟨t,n⟩:=b;rw[m.mem j];constructor
 .intro h;have:=v _ h;exact⟨this.2,(XN (g t this.2).1 n).2 this.1⟩
 rintro⟨ht,x⟩;exact jT g j ht u ((XN (g t ht).1 n).1 x)
theorem uF:∀(l:List Int),l.Pairwise (·<=·)->(Lib.compact l).Pairwise (·<·):=by
 intro l v;unfold Lib.compact Lib.compactUpTo;have key:∀n,n<=l.length->(((List.range n).filter (fun j=>Lib.keeps l.toArray j)).map (fun j=>l.toArray[j]!)).Pairwise (·<·)/\∀x∈(((List.range n).filter (fun j=>Lib.keeps l.toArray j)).map (fun j=>l.toArray[j]!)),∀h:0<n,x<=l.toArray[n-1]!:=by
  intro n
  induction n with
  | zero=>intro _;exact⟨List.Pairwise.nil,fun x hx=>by cases hx⟩
  | succ n ih =>
   intro A;obtain⟨q,m⟩:=ih oq;have g:∀h:0<n,l.toArray[n-1]!<=l.toArray[n]!:=fun h=>by
    have:=List.pairwise_iff_getElem.1 v (n-1) n oq oq oq;rw[getElem!_pos l.toArray (n-1) (by simp;omega),getElem!_pos l.toArray n (by simp;omega)];simpa using this
   rw[Yh,List.filter_append,ZU]
   cases hk:Lib.keeps l.toArray n with
   | false =>
    rw[List.filter_cons_of_neg (by simp[hk]),List.filter_nil,List.map_nil,List.append_nil];refine⟨q,fun x hx _=>?_⟩;by_cases f:0<n
    .have:=m x hx f;have:=g f;rw[Nat.add_sub_cancel];omega
    obtain rfl:n=0:=oq
    cases hx
   | true =>
    rw[List.filter_cons_of_pos (by simp[hk]),List.filter_nil,List.map_cons,List.map_nil];refine⟨List.pairwise_append.2 ⟨q,List.pairwise_singleton _ _,fun a ha b hb=>?_⟩,fun x hx _=>?_⟩
    .rw[List.mem_singleton.1 hb];by_cases f:0<n
     .have:=m a ha f;have z:=g f;have y:l.toArray[n]!≠l.toArray[n-1]!:=fun e=>by rw[Lib.keeps_neg f e] at hk;cases hk
      omega
     obtain rfl:n=0:=oq
     cases ha
    rw[Nat.add_sub_cancel];rcases List.mem_append.1 hx with hx|hx
    .by_cases f:0<n
     .have:=m x hx f;have:=g f;omega
     obtain rfl:n=0:=oq
     cases hx
    rw[List.mem_singleton.1 hx];exact Int.le_refl _
 exact(key l.length (Zc _)).1
theorem ZbM(y:Xg f l u B){i j:Nat}(hi:B[i]?=some b)(z:B[j]?=some b):i=j:=by
 obtain⟨q,g⟩:=ZA.1 hi;obtain⟨v,m⟩:=ZA.1 z;have x:=List.pairwise_iff_getElem.1 y.srt;rcases Nat.lt_trichotomy i j with h|h|h
 .have:=x i j q v h;rw[g,m] at this;exact absurd this (fun k=>k.asymm k)
 .exact h
 have:=x j i v q h;rw[g,m] at this;exact absurd this (fun k=>k.asymm k)
theorem EJ(j:Xg f l u B)(C:YQ f l)(L:Vj f){k s m:Nat}(z:B[k]?=some (s,m)){a:AD}{F E:Int}(y:Xt f a F E=true){n:Int}(x:E+n*F<u) :
  JP f a n (s:Int) (m:Int)=true↔Qk f B a n=some (k:Int):=by
 have A:=(j.mem C).1 (Z9 z);constructor
 .intro h;unfold JP at h;obtain⟨v,R,G⟩:=Yi h;unfold Qk;rw[Z0 oq,Z1 v,show(a.src-(f.ins.length:Int)).toNat=s by omega,G,ZQ];obtain⟨T,H⟩:=j.place C A.1 (L s A.1).1;obtain⟨p,I,J⟩:=H m A.2;rw[Zf,I,ZbM j J z];rfl
 intro h;obtain⟨p,X,V,U,q,O,M,g,D,_,v,_,_⟩:=Ge j C y x h;have:p=k:=oq;subst this;rw[z] at q;injection q with q
 injection q with e1 e2
 subst e1;subst e2;unfold JP;exact ZZ ⟨v,g,D⟩
def Ve(f:FD)(B:List (Nat × Nat))(i:Nat):Nat->List Int
 | 0=>[]
 | c+1=>Ve f B i c++(if GE f (B.getD i (0,0)).1 ((B.getD i (0,0)).2:Int) ((B.getD c (0,0)).1:Int) ((B.getD c (0,0)).2:Int)=true then [(c:Int)] else [])
theorem zq{f:FD}{B:List (Nat × Nat)}{i:Nat}{x:Int}:∀c,x∈Ve f B i c↔∃k:Nat,k<c/\x=(k:Int)/\GE f (B.getD i (0,0)).1 ((B.getD i (0,0)).2:Int) ((B.getD k (0,0)).1:Int) ((B.getD k (0,0)).2:Int)=true
 | 0=>⟨fun h=>(by cases h),fun ⟨k,h,_⟩=>oq⟩
 | c+1=>by
  rw[Ve,List.mem_append,zq c];constructor
  .rintro (⟨k,h1,h2,h3⟩|h)
   .exact⟨k,oq,h2,h3⟩
   split at h
   .rename_i hn;exact⟨c,oq,List.mem_singleton.1 h,hn⟩
   cases h
  rintro⟨k,h1,h2,h3⟩;by_cases hk:k<c
  .exact .inl ⟨k,hk,h2,h3⟩
  obtain rfl:k=c:=oq;exact .inr (by rw[Z1 h3,h2];exact List.mem_singleton.2 rfl)
theorem vu{f:FD}{B:List (Nat × Nat)}{i:Nat}:∀c,(Ve f B i c).Pairwise (·<·)
 | 0=>List.Pairwise.nil
 | c+1=>by
  rw[Ve];refine List.pairwise_append.2 ⟨vu c,?_,fun a ha b hb=>?_⟩
  .split
   .exact List.pairwise_singleton _ _
   exact List.Pairwise.nil
  obtain⟨k,h1,h2,_⟩:=(zq c).1 ha;split at hb
  .have:=List.mem_singleton.1 hb;omega
  cases hb
theorem Zdm(f:FD)(B:List (Nat × Nat))(i:Nat):(YR f B i).Pairwise (·<·):=by
 unfold YR;refine uF _ ?_;have h:=List.pairwise_mergeSort (le:=fun x y:Int=>decide (x<=y)) (fun a b c h1 h2=>by simp at *;omega) (fun a b=>by simp;omega) (VD f B i);exact h.imp (fun hab=>Yi hab)
theorem Zdk{x:Int}(h:x∈VD f B i):x∈YR f B i:=Gz (List.mem_mergeSort.2 h)
theorem Gh(D:Xg f l u B)(G:YQ f l)(y:RgF f)(hi:i<B.length):Ve f B i B.length=YR f B i:=by
 refine UI (R:=fun a b:Int=>a<b) (fun a b h k=>oq) _ _ (vu _) (Zdm f B i) (fun x=>?_);have hb:B[i]?=some (B.getD i (0,0)):=by rw[Zf,Ze hi];rfl
 obtain⟨⟨t,n⟩,g⟩:=ez (B.getD i (0,0));have z:=hb;rw[g] at z;have F:=(D.mem G).1 (Z9 z);have A:=(XN (y.clk t F.1).1 n).1 F.2;rw[zq];constructor
 .rintro⟨k,E,rfl,I⟩;have j:B[k]?=some (B.getD k (0,0)):=by rw[Zf,Ze E];rfl
  rw[g] at I;unfold GE at I;obtain⟨a,v,H⟩:=List.any_eq_true.1 I;refine Zdk (List.mem_filterMap.2 ⟨a,by rw[g];exact v,?_⟩);rw[g];exact(EJ D G y.clk (s:=(B.getD k (0,0)).1) (m:=(B.getD k (0,0)).2) j (y.fits t F.1 a v) A).1 H
 intro J;obtain⟨k,E,M⟩:=Kj D G y hi J;have C:k<B.length:=oq;have j:B[k]?=some (B.getD k (0,0)):=by rw[Zf,Ze C];rfl
 have L:=jV J;obtain⟨a,v,q⟩:=List.mem_filterMap.1 L;rw[g] at v q;refine⟨k,C,E,?_⟩;rw[g];unfold GE;refine List.any_eq_true.2 ⟨a,v,?_⟩;rw[E] at q;exact(EJ D G y.clk (s:=(B.getD k (0,0)).1) (m:=(B.getD k (0,0)).2) j (y.fits t F.1 a v) A).2 q
def tl1(f:FD)(jt jn:Int)(t:LD)(x:Int):Nat->Int
 | 0=>x
 | n+1=>if JP f t.arg (n:Int) jt jn=true then min (tl1 f jt jn t x n) (t.ph+(n:Int)*t.per+t.dl) else tl1 f jt jn t x n
def tlL(f:FD)(jt jn:Int)(u:Int)(x:Int)(l:List LD):Int:=l.foldl (fun x t=>tl1 f jt jn t x (QK t.per t.ph u)) x
theorem Zd6{jt jn u x:Int}{l:List LD}{t:LD}(h:l[i]?=some t):tlL f jt jn u x (l.take (i+1))=tl1 f jt jn t (tlL f jt jn u x (l.take i)) (QK t.per t.ph u):=by
 unfold tlL;rw[List.take_add_one,h,Option.toList_some,List.foldl_append];rfl
theorem Zar{f:FD}{l:List Int}{u:Int}{B:List (Nat × Nat)}(j:Xg f l u B)(q:YQ f l)(x:RgF f){t:LD}(ht:t∈f.tells){d:Array YK}(hd:d.size=B.length){k s m:Nat}(z:B[k]?=some (s,m)):∀n,n<=QK t.per t.ph u->(tellN f B t d n)[k]!.d=tl1 f (s:Int) (m:Int) t d[k]!.d n
 | 0,_=>rfl
 | n+1,hn=>by
  have ih:=Zar j q x ht hd z n oq;have hfit:=(x.tel t ht).2;have hper:=(clock.Y1.1 (XR hfit).1).1;have hdt:=(XN hper n).1 (show n<QK t.per t.ph u by omega);have hfo:=EJ j q x.clk z hfit hdt;rw[JG,tl1]
  cases hor:Qk f B t.arg (n:Int) with
  | none =>
   have:JP f t.arg (n:Int) (s:Int) (m:Int)=false:=by
    cases hb:JP f t.arg (n:Int) (s:Int) (m:Int) with
    | false=>rfl
    | true=>rw[hfo.1 hb] at hor;cases hor
   rw[Z0 (by rw[this];simp)];exact ih
  | some p =>
   obtain⟨E,F,D,C,v,_⟩:=Ge j q hfit hdt hor;have A:=(ZA.1 v).1;have y:=(Vx f B t d n).1;show(Xb (tellN f B t d n) p.toNat _)[k]!.d=_;rw[J6 (by rw[y,hd];omega),ih];by_cases g:k=p.toNat
   .rw[Z1 g,Z1 (hfo.2 (by rw[hor];congr 1;omega))]
   rw[Z0 g,Z0 (fun e=>g (by have:=hfo.1 e;rw[hor] at this;injection this;omega))]
theorem zJ{f:FD}{l:List Int}{u:Int}{B:List (Nat × Nat)}(hB:Xg f l u B)(ho:YQ f l)(hr:RgF f){k s m:Nat}(hk:B[k]?=some (s,m)):∀(q:List LD)(d:Array YK),(∀t∈q,t∈f.tells)->d.size=B.length->(X9 f B u d q)[k]!.d=tlL f (s:Int) (m:Int) u d[k]!.d q
 | [],d,_,_=>rfl
 | t::q,d,hq,hd=>by
  show(X9 f B u (tellN f B t d (QK t.per t.ph u)) q)[k]!.d=_;rw[zJ hB ho hr hk q _ (fun x hx=>hq x (List.mem_cons_of_mem _ hx)) ((Vx f B t d _).1.trans hd),Zar hB ho hr (hq t (List.mem_cons_self ..)) hd hk _ (Zc _)];rfl
structure JbR (W:World) (g o N:Nat) (f:FD) (B:List (Nat × Nat)) (dd:Nat->Int) (nd:Nat->List Int):Prop where
 lt:g<W.1.size
 c:∀k,k<N->W.cell? ⟨g,o+k*5,none⟩=some (.int .i64 ((B.getD k (0,0)).1:Int))/\W.cell? ⟨g,o+k*5+1,none⟩=some (.int .i64 ((B.getD k (0,0)).2:Int))/\W.cell? ⟨g,o+k*5+2,none⟩=some (.int .i64 (XQ f (B.getD k (0,0))))/\W.cell? ⟨g,o+k*5+3,none⟩=some (.int .i64 (dd k)) /\
  ∃na nc,W.cell? ⟨g,o+k*5+4,none⟩=some (.slice na (nd k).length nc)/\qi W (Value.int .i64) na (nd k)
theorem JbR.below{g o N:Nat}{m:Nat->Int}{q:Nat->List Int}(h:JbR W g o N f B m q)(hb:Below W.1.size W W'):JbR W' g o N f B m q:=by
 have j:=fun o=>hb.cell (p:=⟨g,o,none⟩) h.lt
 refine⟨Zd h.lt hb.size,fun k hk=>?_⟩;obtain⟨v,x,y,z,D,E,A,C⟩:=h.c k hk;exact⟨(j _).trans v,(j _).trans x,(j _).trans y,(j _).trans z,D,E,(j _).trans A,C.keep hb.block⟩
def SjS(g1 p1 g2 p2:Nat)(x0 x1 x2 x3:Int)(na1:Option Addr)(nl nc1:Nat)(na2:Option Addr)(nc2:Nat)(W:World):Prop :=
 W.cell? ⟨g1,p1,none⟩=some (.int .i64 x0)/\W.cell? ⟨g1,p1+1,none⟩=some (.int .i64 x1)/\W.cell? ⟨g1,p1+2,none⟩=some (.int .i64 x2)/\W.cell? ⟨g1,p1+3,none⟩=some (.int .i64 x3)/\W.cell? ⟨g1,p1+4,none⟩=some (.slice na1 nl nc1) /\
 W.cell? ⟨g2,p2,none⟩=some (.int .i64 x0)/\W.cell? ⟨g2,p2+1,none⟩=some (.int .i64 x1)/\W.cell? ⟨g2,p2+2,none⟩=some (.int .i64 x2)/\W.cell? ⟨g2,p2+3,none⟩=some (.int .i64 x3)/\W.cell? ⟨g2,p2+4,none⟩=some (.slice na2 nl nc2)
theorem QJ{f x g p2:Nat}{y z A C:Int}{j:Option Addr}{nl q:Nat}{m:Option Addr}{v:Nat}(h:SjS f x g p2 y z A C j nl q m v W)(D:W'.1[f]?=W.1[f]?)(E:W'.1[g]?=W.1[g]?):SjS f x g p2 y z A C j nl q m v W':=by
 obtain⟨s0,s1,s2,s3,s4,s5,s6,s7,s8,s9⟩:=h;have c1:=fun o=>Zn (w:=W) (w':=W') (a:=⟨f,o,none⟩) D
 have c2:=fun o=>Zn (w:=W) (w':=W') (a:=⟨g,o,none⟩) E
 exact⟨(c1 _).trans s0,(c1 _).trans s1,(c1 _).trans s2,(c1 _).trans s3,(c1 _).trans s4,(c2 _).trans s5,(c2 _).trans s6,(c2 _).trans s7,(c2 _).trans s8,(c2 _).trans s9⟩
def InS(p q g1 e1 g2 e2:Nat)(v1 v2:Value)(z:Int)(W:World):Prop:=W.cell? ⟨p,4,none⟩=some v1/\W.cell? ⟨q,4,none⟩=some v2/\W.cell? ⟨g1,e1,none⟩=some (.int .i64 z)/\W.cell? ⟨g2,e2,none⟩=some (.int .i64 z)
theorem Zb2(w:World)(a b:Obj):(((w.alloc a).alloc b).drew).1[(w.alloc a).1.size]?=some b:=Yx (w.alloc a) b
theorem Zeq(w:World)(a b:Obj):(((w.alloc a).alloc b).drew).1[w.1.size+1]?=some b:=by have h:=Zb2 w a b;rwa [show(w.alloc a).1.size=w.1.size+1 by simp] at h
theorem Zep(w:World)(a b:Obj):(((w.alloc a).alloc b).drew).1[w.1.size]?=some a:=by
 have hb:RowKit.Below (w.alloc a).1.size (w.alloc a) ((w.alloc a).alloc b).drew:=bq;exact(hb.block w.1.size (by simp)).trans (Yx w a)
theorem bZ460{p:Prop}(h:p:=by first|with_reducible exact KA.o|exact QJ KA.o ((show Below j.1.size j _ from bq).block A F) ((show Below j.1.size j _ from bq).block C G)):p:=h
theorem gA(f:FD)(B:List (Nat × Nat))(N:Nat)(dd:Nat->Int)(X:Nat->List Int)(a1 a2:Option Addr)(c1 c2:Nat)(hN:N<=1000000)(v:∀k,k<N->(X k).length<=1000000)
  (h1:N=0\/∃g o,a1=some ⟨g,o,none⟩/\JbR W g o N f B dd X)(h2:N=0\/∃g o,a2=some ⟨g,o,none⟩/\JbR W g o N f B dd X) :
  Calls prog 20 #[.slice a1 N c1,.slice a2 N c2] W fun y W'=>y=.returned (.bool true)/\Below W.1.size W W':=by
 have H1:=hid h1;have H2:=hid h2;have Y:=hid v;clear h1 h2 v;go_enter func20,ntmps20;go_wp2;go_loopw [5] (fun s5 wr=>Hid (∃i:Nat,s5=.int .i64 (i:Int)/\i<=N/\Below W.1.size W wr)) (fun s _=>N-(intOf s).toNat)
 case atStart=>exact⟨0,rfl,Zk _,Zg _ _⟩
 obtain⟨j,rfl⟩:=ey wr;obtain⟨i,rfl,hi,hb3⟩:=hrel.o;clear hrel;have HB3:=hid hb3;by_cases M:i<N
 .have i0:(0:Int)<=(i:Int):=oq;have i1:(i:Int)<(N:Int):=oq;obtain⟨A,o1,rfl,af⟩:=H1.o.resolve_left oq;obtain⟨C,o2,rfl,ag⟩:=H2.o.resolve_left oq;have O:=af.below hb3;have R:=ag.below hb3;have l1:=O.lt;have l2:=R.lt;obtain⟨p0,p1,p2,p3,T,D,p4,ah⟩:=O.c i M;obtain⟨q0,q1,q2,q3,V,E,q4,ai⟩:=R.c i M;obtain⟨x0,aj⟩:=ez (((B.getD i (0,0)).1:Int));obtain⟨x1,ak⟩:=ez (((B.getD i (0,0)).2:Int));obtain⟨x2,al⟩:=ez (XQ f (B.getD i (0,0)));obtain⟨x3,am⟩:=ez (dd i);obtain⟨x,v⟩:=ez ((X i).length);rw[aj] at p0 q0;rw[ak] at p1 q1;rw[al] at p2 q2;rw[am] at p3 q3;rw[v] at p4 q4;have av:x<=1000000:=by rw[<-v];exact Y.o i M
  have J:=hid ah;have L:=hid ai;have Z:=hid v;have KA:=hid (show SjS A (o1+i*5) C (o2+i*5) x0 x1 x2 x3 T x D V E j.drew from ⟨p0,p1,p2,p3,p4,q0,q1,q2,q3,q4⟩);clear hb3 af ag O R ah ai aj ak al am v p0 p1 p2 p3 p4 q0 q1 q2 q3 q4;go_upto_region 6 with fail
  go_cut [6,7] (fun s6 s7 U=>Hid (∃p q,s6=.pointer (some ⟨p,0,none⟩)/\s7=.pointer (some ⟨q,0,none⟩)/\j.1.size<=p/\j.1.size<=q/\U.1[p]?=some (.cells #[.int .i64 x0,.int .i64 x1,.int .i64 x2,.int .i64 x3,.slice T x D] 128 (0,0))/\U.1[q]?=some (.cells #[.int .i64 x0,.int .i64 x1,.int .i64 x2,.int .i64 x3,.slice V x E] 128 (0,0))/\Below j.1.size j U))
  case first =>
   have F:A<j.1.size:=l1;have G:C<j.1.size:=l2;clear H1 H2 Y J L;have ax:True:=trivial;refine ZO (S:=SjS A (o1+i*5) C (o2+i*5) x0 x1 x2 x3 T x D V E) kq bZ460 (fun hH=>?_);refine tk 0 hH ?_;refine tk 1 hH ?_;refine tk 2 hH ?_;refine tk 3 hH ?_;refine tk 4 hH ?_;refine tk 5 hH ?_;refine tk 6 hH ?_;refine tk 7 hH ?_;refine rz 8 9 (fun K hK=>?_) fun K hK=>?_
   .go_simp;refine hK.o _ _ (fun hH=>?_) bZ460;clear hK K;refine ry 9 fun K hK=>?_
    go_simp;refine hK.o _ _ (fun hH=>?_) bZ460;clear hK K;refine ry 10 fun K hK=>?_
    go_simp;refine hK.o _ _ (fun hH=>?_) bZ460;clear hK K;refine ry 11 fun K hK=>?_
    go_simp;refine hK.o _ _ (fun hH=>?_) bZ460;clear hK K;refine Zy kq ?_ _;go_wp2_with fail;go_meet;exact hid ⟨_,_,rfl,rfl,by simp,by simp,by first|exact Zep _ _ _|exact Zb2 _ _ _|exact Zeq _ _ _,by first|exact Zep _ _ _|exact Zb2 _ _ _|exact Zeq _ _ _,bq⟩
   go_simp;refine hK.o _ _ (fun hH=>?_) bZ460;clear hK K;refine ry 8 fun K hK=>?_
   go_simp;refine hK.o _ _ (fun hH=>?_) bZ460;clear hK K;refine ry 10 fun K hK=>?_
   go_simp;refine hK.o _ _ (fun hH=>?_) bZ460;clear hK K;refine ry 11 fun K hK=>?_
   go_simp;refine hK.o _ _ (fun hH=>?_) bZ460;clear hK K;refine Zy kq ?_ _;go_wp2_with fail;go_meet;exact hid ⟨_,_,rfl,rfl,by simp,by simp,by first|exact Zep _ _ _|exact Zb2 _ _ _|exact Zeq _ _ _,by first|exact Zep _ _ _|exact Zb2 _ _ _|exact Zeq _ _ _,bq⟩
  obtain⟨p,q,rfl,rfl,hp,hq,H,I,hb4⟩:=hcut.o;clear hcut KA;obtain⟨W4,rfl⟩:=ey wc;have aw:=hb4.size;have aa:=hid (J.o.keep hb4.block);have ab:=hid (L.o.keep hb4.block);have HB4:=hid (HB3.o.trans (hb4.mono HB3.o.size));have an:=hid H;have ao:=hid I;have lp:p<W4.1.size:=Zb H;have lq:q<W4.1.size:=Zb I;obtain⟨⟨b0,b1,b2,b3,b4⟩,bf⟩:=Q1 H;obtain⟨⟨d0,d1,d2,d3,d4⟩,df⟩:=Q1 I;clear hb4 H I J L H1 H2 HB3;go_upto_region 9 with fail
  clear b0 b1 b2 b3 b4 d0 d1 d2 d3 d4 bf df;go_wp2;go_loopw [8] (fun s8 wr=>Hid (∃k:Nat,s8=.int .i64 (k:Int)/\k<=x/\Below W4.1.size W4 wr)) (fun s _=>x-(intOf s).toNat)
  case atStart=>exact⟨0,rfl,Zk _,Zg _ _⟩
  obtain⟨W5,rfl⟩:=ey wr;obtain⟨k,rfl,hk,hb5⟩:=hrel.o;clear hrel;obtain⟨⟨b0,b1,b2,b3,b4⟩,bf⟩:=Q1 ((hb5.block _ lp).trans an.o);obtain⟨⟨d0,d1,d2,d3,d4⟩,df⟩:=Q1 ((hb5.block _ lq).trans ao.o);have HB5:=hid hb5;by_cases ap:k<x
  .have k0:(0:Int)<=(k:Int):=oq;have k1:(k:Int)<(x:Int):=oq;have m:k<(X i).length:=by rw[Z.o];exact ap
   obtain⟨r1,m1,rfl,aq,ac⟩:=aa.o.resolve_left (fun e=>by rw[e] at m;simp at m);obtain⟨r2,m2,rfl,ar,ae⟩:=ab.o.resolve_left (fun e=>by rw[e] at m;simp at m);obtain⟨z,hz⟩:=ez ((X i)[k]'m);have z1:=(hb5.cell (p:=⟨r1,m1+k,none⟩) aq).trans (ac k _ (Ze m));have z2:=(hb5.cell (p:=⟨r2,m2+k,none⟩) ar).trans (ae k _ (Ze m));rw[hz] at z1 z2;clear hb5 hz m ac ae;go_upto_region 12 with fail
   have KI:=hid (show InS p q r1 (m1+k) r2 (m2+k) (.slice (some ⟨r1,m1,none⟩) x D) (.slice (some ⟨r2,m2,none⟩) x E) z W5.drew from ⟨b4,d4,z1,z2⟩);refine ZO (S:=InS p q r1 (m1+k) r2 (m2+k) (.slice (some ⟨r1,m1,none⟩) x D) (.slice (some ⟨r2,m2,none⟩) x E) z) kq (by exact KI.o) (fun hH=>?_);refine tk 0 hH ?_;refine tk 1 hH ?_;refine tk 2 hH ?_;refine tk 3 hH ?_;refine tk 4 hH ?_;refine tk 5 hH ?_;refine tk 6 hH ?_;refine tk 7 hH ?_;refine tk 8 hH ?_;refine tk 9 hH ?_;refine tk 10 hH ?_;refine Zy kq ?_ _;clear hH KI;go_wp2;exact⟨hid ⟨k+1,rfl,oq,HB5.o.trans ((show Below W5.1.size W5 _ from bq).mono HB5.o.size)⟩,by simp[intOf];omega⟩
  have au:decide ((k:Int)<(x:Int))=false:=ZY oq;clear hb5;go_wp2;exact⟨hid ⟨i+1,rfl,oq,HB4.o.trans (HB5.o.mono HB4.o.size)⟩,by simp[intOf];omega⟩
 have au:decide ((i:Int)<(N:Int))=false:=ZY oq;clear hb3;go_wp2;go_ret;exact⟨rfl,HB3.o⟩
theorem Zcw{w0 W:World}(f:FD)(R an O T:Option Addr)(Y Z ct cl:Nat)(hf:FAP w0 f R an O T)(D:Below w0.1.size w0 W)(u:Int)(x:∀t∈f.tasks,t.per≠0) :
  Calls prog 19 #[fv f R an O T Y Z ct cl,.int .i64 u] W fun y W'=>(∃z:Int,y=.returned (.int .i64 z))/\Below W.1.size W W':=by
 have j:=hf.lens;have X:=hid hf.tasks;have V:=hid x;unfold fv at *;obtain⟨G,g⟩:=ez (W.alloc (.cells #[.slice R f.ins.length Y,.slice an f.nods.length Z,.slice O f.tasks.length ct,.slice T f.tells.length cl] 35));have hb1:Below W.1.size W G:=by rw[<-g];exact bq
 have m:G.1[W.1.size]?=some (.cells #[.slice R f.ins.length Y,.slice an f.nods.length Z,.slice O f.tasks.length ct,.slice T f.tells.length cl] 35 (0,0)):=by rw[<-g];exact Yx W _
 obtain⟨fb,C⟩:=ez W.1.size;obtain⟨F,v⟩:=ez f.tasks.length;have ae:F<=1000000:=by rw[<-v];exact Zm j.2.2.1 oq
 have U:=hid v;rw[v] at m g ⊢;have q:=hid (D.trans (hb1.mono D.size));rw[C] at m;have aa:fb<G.1.size:=Zb m;have A:=hid m;have HB1:=hid hb1;clear j x D hb1 m hf v;go_enter func19,ntmps19;go_upto_region 1 with fail
 first|rw[g]|skip
 clear g;have af:=hid C;clear C;go_wp2;go_loopw [5,6] (fun s5 s6 wr=>Hid (∃(z:Int)(i:Nat),s5=.int .i64 z/\s6=.int .i64 (i:Int)/\i<=F/\Below G.1.size G wr)) (fun _ s _=>F-(intOf s).toNat)
 case atStart=>exact⟨0,0,rfl,rfl,Zk _,Zg _ _⟩
 obtain⟨W3,rfl⟩:=ey wr;obtain⟨z,i,rfl,rfl,hi,hb3⟩:=hrel.o;clear hrel;have HB3:=hid hb3;obtain⟨⟨f0,f1,f2,f3⟩,ff⟩:=Yy ((hb3.block _ aa).trans A.o);by_cases ab:i<F
 .have i0:(0:Int)<=(i:Int):=oq;have i1:(i:Int)<(F:Int):=oq;have hit:i<f.tasks.length:=by rw[U.o];exact ab
  obtain⟨bt,ot,rfl,H,I⟩:=X.o.resolve_left (fun e=>by rw[e] at hit;simp at hit);obtain⟨u0,u1,u2,ta,tc,u3,M⟩:=I i hit;have E:=q.o.trans (hb3.mono q.o.size);have y1:=(E.cell (p:=⟨bt,_,none⟩) H).trans u1;have y2:=(E.cell (p:=⟨bt,_,none⟩) H).trans u2;have ac:=V.o f.tasks[i] (Zi hit);obtain⟨per,J⟩:∃per,f.tasks[i].per=per:=⟨_,rfl⟩;obtain⟨ph,L⟩:∃ph,f.tasks[i].ph=ph:=⟨_,rfl⟩;rw[J] at y1 ac;rw[L] at y2;clear E u0 u1 u2 u3 M I hb3 J L hit X V A q;go_wp2
  all_goals exact⟨hid ⟨_,i+1,rfl,rfl,oq,HB3.o.trans ((show Below W3.1.size W3 _ from bq).mono HB3.o.size)⟩,by simp[intOf];omega⟩
 have ag:decide ((i:Int)<(F:Int))=false:=ZY oq;clear hb3 X V A q;go_wp2;go_ret;exact⟨⟨_,rfl⟩,HB1.o.trans (HB3.o.mono HB1.o.size)⟩
