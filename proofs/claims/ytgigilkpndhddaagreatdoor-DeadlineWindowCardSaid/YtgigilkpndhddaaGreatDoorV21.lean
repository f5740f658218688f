/- Parts of the proof. -/
import Derived.Test.YtgigilkpndhddaaGreatDoorV10
import Derived.Test.YtgigilkpndhddaaGreatDoorV17
import Derived.Test.YtgigilkpndhddaaGreatDoorV18
set_option linter.all false
set_option maxRecDepth 100000
set_option maxHeartbeats 16000000
namespace Go.Proofs.YtgigilkpndhddaaGreatDoor.syn
open Tryz
open Go.RowKit Go.Sort
structure JH (W:World) (jb jo:Nat) (d:Array YK):Prop where
 holds:HoldsK Qx 5 W jb jo d
 lt:jb<W.heap.size
theorem JH.cell{W:World}{jb f:Nat}{d:Array YK}(h:JH W jb f d){i:Nat}(hi:i<d.size):
  (W.cell? ⟨jb,f+i*5,none⟩=some (.int .i64 d[i]!.t)∧W.cell? ⟨jb,f+i*5+1,none⟩=some (.int .i64 d[i]!.n)∧W.cell? ⟨jb,f+i*5+2,none⟩=some (.int .i64 d[i]!.r)∧W.cell? ⟨jb,f+i*5+3,none⟩=some (.int .i64 d[i]!.d)∧W.cell? ⟨jb,f+i*5+4,none⟩=some (.slice d[i]!.na d[i]!.nl d[i]!.nc)) ∧
   W.frozen? ⟨jb,f+i*5+3,none⟩=false∧W.frozen? ⟨jb,f+i*5+4,none⟩=false:=by
 have m:=HoldsK.cell h.holds hi (c:=0) oq;have q:=HoldsK.cell h.holds hi (c:=1) oq;have v:=HoldsK.cell h.holds hi (c:=2) oq;have g:=HoldsK.cell h.holds hi (c:=3) oq;have j:=HoldsK.cell h.holds hi (c:=4) oq;exact⟨⟨m.1,q.1,v.1,g.1,j.1⟩,g.2,j.2⟩
theorem JH.but{W W':World}{jb f:Nat}{d:Array YK}(h:JH W jb f d)(hb:W'.heap[jb]?=W.heap[jb]?):JH W' jb f d:=by
 refine⟨fun j hj=>?_,?_⟩
 ·have g:=h.holds j hj;refine⟨(Zn (w:=W) (a:=⟨jb,f+j,none⟩) hb).trans g.1,?_⟩;have:W'.frozen? ⟨jb,f+j,none⟩=W.frozen? ⟨jb,f+j,none⟩:=by unfold World.frozen?;rw[hb]
  rw[this];exact g.2
 have g:=h.lt;apply Yh;intro m;rw[Array.getElem?_eq_none oq,Yn g]at hb
 cases hb
theorem JH.put{W:World}{jb m:Nat}{d:Array YK}(h:JH W jb m d){i c:Nat}(hi:i<d.size)(I:c<5){v:Value}{x:YK}(D:(Qx d[i]!).set c v=Qx x):JH (W.setCell ⟨jb,m+i*5+c,none⟩ v) jb m (d.setIfInBounds i x):=by
 refine⟨fun j hj=>?_,by simpa using h.lt⟩;have f:j<d.size*5:=by simpa using hj
 have y:=h.holds j (by simpa using f);rw[get_flatK _ _ _ _ (by simpa using f)];rw[get_flatK _ _ _ _ f]at y;refine⟨?_,by rw[World.frozen?_setCell];exact y.2⟩;by_cases z:j=i*5+c
 ·subst z;have E:(i*5+c)/5=i:=oq;have F:(i*5+c)%5=c:=oq;rw[E,F,getElem!_set_same _ _ _ hi,←D];have H:((Qx d[i]!).set c v)[c]! = v:=by
   rw[getElem!_pos _ c (by simp;exact I)];simp
  show(W.setCell _ v).cell? ⟨jb,m+(i*5+c),none⟩=some (id _);rw[H,←Nat.add_assoc];refine World.cell?_setCell_same' _ _ _ ?_;rw[Nat.add_assoc,y.1];rfl
 have G:(W.setCell ⟨jb,m+i*5+c,none⟩ v).cell? ⟨jb,m+j,none⟩=W.cell? ⟨jb,m+j,none⟩:=World.cell?_setCell_other _ _ _ _ (by intro e;injection e with _ e _;omega);rw[G,y.1];congr 2;by_cases C:j/5=i
 ·rw[C,getElem!_set_same _ _ _ hi,←D];have J:j%5≠c:=fun e=>z oq
  have q:j%5<5:=Nat.mod_lt _ oq;have A:(Qx d[i]!).length=5:=rfl;rw[getElem!_pos _ (j%5) (show j%5<(Qx d[i]!).length by rw[A];exact q),getElem!_pos _ (j%5) (show j%5<((Qx d[i]!).set c v).length by rw[List.length_set,A];exact q),List.getElem_set_ne (fun e=>J e.symm)]
 have g:j/5<d.size:=oq;have:(d.setIfInBounds i x)[j/5]! = d[j/5]!:=by
  rw[getElem!_pos d _ g,getElem!_pos (d.setIfInBounds i x) _ (by simpa using g),Array.getElem_setIfInBounds_ne (by simpa using g) (fun e=>C e.symm)]
 rw[this]
def X9(d:Array YK)(p:Nat)(x:Int):Array YK:=d.setIfInBounds p { d[p]! with d:=min d[p]!.d x }
theorem Vy(d:Array YK)(p:Nat)(x:Int):(X9 d p x).size=d.size:=by simp[X9]
def ZfI(W:World)(jb jo:Nat)(d':Array YK)(e:Ending)(w':World):Prop:=e=.returned (.tuple #[])∧JH w' jb jo d'∧But (fun k=>k=jb) W w'
theorem zC{W:World}(q jb j A:Nat)(d:Array YK)(I:W.cell? ⟨q,5,none⟩=some (.slice (some ⟨jb,j,none⟩) d.size A))(f:JH W jb j d)(p:Nat)(g:p<d.size)(x:Int):
  Calls prog 72 #[.pointer (some ⟨q,0,none⟩),.int .i64 (p:Int),.int .i64 x] W (ZfI W jb j (X9 d p x)):=by
 obtain⟨⟨D,E,F,G,H⟩,L,C⟩:=f.cell g;obtain⟨y,hy⟩:=ez (d[p]!.d);rw[hy]at G;have v:=hid f;have z:=hid hy;have M:(0:Int)≤(p:Int):=oq;have J:(p:Int)<(d.size:Int):=oq;obtain⟨n,m⟩:=ez d.size;rw[m]at I g J;clear D E F H C f hy;go_enter func72,ntmps72;go_still_tail 17,kq
 change wpList _ _ _ _ _ W.drew
 go_wp2;go_end0;refine⟨rfl,?_,?_⟩
 ·rw[show X9 d p x=d.setIfInBounds p { d[p]! with d:=min y x } by unfold X9;rw[z.out]];exact(v.out.but (W':=W.drew) rfl).put (by rw[m];exact g) oq rfl
 exact((But.refl _ W).drew).then (But.set (S:=fun k=>k=jb) rfl _) (fun _ _ e=>e)
open Go.RowKit Go.Shelf Go.Sort
attribute [local go_sem] ZT
theorem ZdD:(prog.info? 43).map (fun i=>(i.zero,i.size,i.bytes))=some (some (.agg #[.int .i64 0,.int .i64 0,.int .i64 0,.int .i64 0,.slice none 0 0]),5,56):=by kernel_rfl
theorem Xf{w:World}{b:Nat}{f g j m q v x:Value}{t:TypeId}(h:w.heap[b]?=some (.cells #[f,g,j,m,q,v,x] t (0,0))):
  (w.cell? ⟨b,0,none⟩=some f∧w.cell? ⟨b,1,none⟩=some g∧w.cell? ⟨b,2,none⟩=some j∧w.cell? ⟨b,3,none⟩=some m∧w.cell? ⟨b,4,none⟩=some q∧w.cell? ⟨b,5,none⟩=some v∧w.cell? ⟨b,6,none⟩=some x)∧∀o,w.frozen? ⟨b,o,none⟩=false:=by
 refine⟨⟨?_,?_,?_,?_,?_,?_,?_⟩,?_⟩
 all_goals first|(intro o;simp[World.frozen?,h])|simp[World.cell?,h]
structure NwS (w W:World) (fb wx:Array Value) (T bf bw wb pb:Nat):Prop where
 below:Below w.heap.size w W
 lo:w.heap.size≤bf∧w.heap.size≤bw∧w.heap.size≤wb∧w.heap.size≤pb
 ne:bf≠bw∧bf≠wb∧bf≠pb∧bw≠wb∧bw≠pb∧wb≠pb
 bfb:W.heap[bf]?=some (.cells fb 34 (0,0))
 bwb:Boxed W bw 80 (.pointer (some ⟨wb,0,none⟩))
 box:W.heap[wb]?=some (.cells wx 84 (0,0))
 row:W.heap[pb]?=some (.cells (List.replicate T (.slice none 0 0)).toArray 41 (0,0))
def mkJ(f:FD)(b:Nat×Nat):YK:=⟨(b.1:Int),(b.2:Int),Jm f b,Jm f b+(tkO f b.1).per,none,0,0⟩
structure WnJ (W0 W:World) (wb:Nat) (s0 s1 s2 s3 s4 s6 v:Value) (d:List YK):Prop where
 but:But (fun k=>k=wb) W0 W
 lt:wb<W0.heap.size
 box:W.heap[wb]?=some (.cells #[s0,s1,s2,s3,s4,v,s6] 84 (0,0))
 own:W.ownsRow W0.heap.size 43 5 v d.length (d.flatMap Qx)
theorem WnJ.below{W0 W W':World}{wb:Nat}{s0 s1 s2 s3 s4 s6 v:Value}{d:List YK}(h:WnJ W0 W wb s0 s1 s2 s3 s4 s6 v d)(hb:Below W.heap.size W W'):WnJ W0 W' wb s0 s1 s2 s3 s4 s6 v d :=
 ⟨h.but.then (But.of_below (S:=fun _=>False) hb) (fun _ _ e=>e.elim),h.lt,(hb.block _ (Zb h.box)).trans h.box,own_below h.own hb⟩
theorem WnJ.grown{W0 W W':World}{j:Nat}{s0 s1 s2 s3 s4 s6 v:Value}{d:List YK}(h:WnJ W0 W j s0 s1 s2 s3 s4 s6 v d){row:Option Nat}(m:W.grownBy W' row)(q:∀r,row=some r→W0.heap.size≤r∧∃o:Obj,W.heap[r]?=some o∧o.isCells=false):WnJ W0 W' j s0 s1 s2 s3 s4 s6 v d:=by
 have y:=h.lt;refine⟨h.but.then (But.of_grown m) (fun i hi e=>by have:=(q i e).1;omega),h.lt,(m.block j (Zb h.box) (fun e=>by have:=(q j e.symm).1;omega)).trans h.box,h.own.kept m ?_⟩;rcases h.own.2 with ⟨rfl,_⟩|⟨g,cap,cur,rfl,hb,hgg,_⟩
 ·exact .inl rfl
 refine .inr (fun e=>?_);obtain⟨_,o,f,x⟩:=q g e.symm;rw[hgg]at f;injection f with f
 subst f
 cases x
theorem WnJ.app{W0 W w4:World}{f:Nat}{s0 s1 s2 s3 s4 s6 v v':Value}{d:List YK}(h:WnJ W0 W f s0 s1 s2 s3 s4 s6 v d){x:YK}(j:w4.ownsRow W0.heap.size 43 5 v' (d.length+1) (d.flatMap Qx++Qx x))(hb4:But (fun k=>v.ownBlock=some k) W w4):
  WnJ W0 (w4.setCell ⟨f,5,none⟩ v') f s0 s1 s2 s3 s4 s6 v' (d++[x]):=by
 have q:=h.lt;have g:=X3 h.own;have m:=(hb4.block f (Zb h.box) (fun e=>by have:=g f e;omega)).trans h.box;refine⟨(h.but.then hb4 (fun i hi e=>by have:=g i e;omega)).then (But.set (S:=fun k=>k=f) rfl _) (fun _ _ e=>e),h.lt,?_,?_⟩
 ·have:=Zj _ f 5 _ _ v' m;simpa only [sA,sB,sC] using this
 rw[Zx,List.flatMap_append];refine Xg ?_ h.lt v';simpa using j
theorem WnJ.start{W:World}{wb:Nat}{s0 s1 s2 s3 s4 s6:Value}(hb:W.heap[wb]?=some (.cells #[s0,s1,s2,s3,s4,.slice none 0 0,s6] 84 (0,0))):WnJ W W wb s0 s1 s2 s3 s4 s6 (.slice none 0 0) [] :=
 ⟨But.refl _ _,Zb hb,hb,Yf _ _ _ _⟩
theorem uV{f:FD}{order:List Int}{u:Int}{i:Nat}(h:i<order.length):J0 f (order.take (i+1)) u=J0 f (order.take i) u++XC order[i].toNat (QE f u order[i].toNat):=by
 unfold J0;rw[Zv h,List.flatMap_append];simp
theorem ug(t n:Nat):XC t (n+1)=XC t n++[(t,n)]:=by unfold XC;rw[Yi,ZU];rfl
theorem ve{f:FD}{order:List Int}{u:Int}(g:zi f)(m:u≤20000)(j:∀x∈order,0≤x∧x<(f.tasks.length:Int)):∀i,i≤order.length→(J0 f (order.take i) u).length≤i*20000
 | 0,_=>by simp[J0]
 | i+1,h=>by
  rw[uV oq,Zx];have h1:=ve g m j i oq;have h2:=j order[i] (Zi oq);have h3:=GC g m (t:=order[i].toNat) oq;have h4:(XC order[i].toNat (QE f u order[i].toNat)).length=QE f u order[i].toNat:=by simp[XC]
  omega
open Go.RowKit Go.Shelf Go.Sort Go.Lib
theorem yd{l:List Int}(f:l.Nodup){i:Nat}(hi:i<l.length):l.idxOf l[i]=i:=by
 have q:=ZbI f (Zi hi);obtain⟨j,m⟩:=ZA.1 q;rw[List.nodup_iff_pairwise_ne,List.pairwise_iff_getElem]at f;apply Yh;intro g;rcases Nat.lt_or_gt_of_ne g with h|h
 ·exact f _ _ j hi h m
 exact f _ _ hi j h m.symm
theorem Zdc{f:FD}{order:List Int}{u:Int}(g:Xa f order):(J0 f order u).Pairwise (fun a b=>order.idxOf (a.1:Int)<order.idxOf (b.1:Int)∨(a.1=b.1∧a.2<b.2)):=by
 unfold J0;rw[List.pairwise_flatMap];refine⟨fun t _=>?_,?_⟩
 ·unfold XC;rw[List.pairwise_map];exact List.pairwise_lt_range.imp (fun h=>.inr ⟨rfl,h⟩)
 rw[List.pairwise_iff_getElem];intro i j hi v q x z y hy;unfold XC at z hy;obtain⟨k,_,rfl⟩:=Ye.1 z;obtain⟨m,_,rfl⟩:=Ye.1 hy;have A:=g.rng _ (Zi hi);have C:=g.rng _ (Zi v);refine .inl ?_;show order.idxOf ((order[i].toNat:Nat):Int)<order.idxOf ((order[j].toNat:Nat):Int);rw[show((order[i].toNat:Nat):Int)=order[i] by omega,show((order[j].toNat:Nat):Int)=order[j] by omega,yd g.nd hi,yd g.nd v];exact q
def jb(x:YK):Nat×Nat:=(x.t.toNat,x.n.toNat)
theorem zW(f:FD)(b:Nat×Nat):jb (mkJ f b)=b:=by unfold jb mkJ;simp
theorem Zbi(x y:YK):ltOf cfJ x y=decide (x.r<y.r):=by
 unfold ltOf cfJ Zbk;by_cases h:x.r<y.r
 ·rw[Z2 h];simp[h]
 rw[Z1 h];by_cases f:y.r<x.r
 ·rw[Z2 f];simp[h]
 rw[Z1 f];simp[h]
theorem Zec{f:FD}{order:List Int}{u:Int}(V:Xa f order)(hc:zi f){g:Array YK}(h:Kl (ltOf cfJ) ((J0 f order u).map (mkJ f)).toArray g):∃B,g=(B.map (mkJ f)).toArray∧X6 f order u B:=by
 obtain⟨⟨E,_,X⟩,hs⟩:=h;have U:g.toList.Perm ((J0 f order u).map (mkJ f)):=by
  have F:(g.extract 0 ((J0 f order u).map (mkJ f)).toArray.size)=g:=by rw[←E];simp
  have G:(((J0 f order u).map (mkJ f)).toArray.extract 0 ((J0 f order u).map (mkJ f)).toArray.size)=((J0 f order u).map (mkJ f)).toArray:=Array.extract_size;rw[F,G]at X;simpa using X
 have C:∀x∈g.toList,mkJ f (jb x)=x:=fun x hx=>by
  obtain⟨b,_,rfl⟩:=Ye.1 (U.mem_iff.1 hx);rw[zW]
 have hB:(g.toList.map jb).map (mkJ f)=g.toList:=by
  rw[List.map_map]
  conv=>rhs;rw[←List.map_id g.toList]
  exact List.map_congr_left (fun x hx=>C x hx)
 refine⟨g.toList.map jb,by rw[hB],?_,?_⟩
 ·have A:=U.map jb;rw[List.map_map]at A;have H:(J0 f order u).map (jb∘mkJ f)=J0 f order u:=by
   conv=>rhs;rw[←List.map_id (J0 f order u)]
   exact List.map_congr_left (fun b _=>zW f b)
  rw[H]at A;exact A.symm
 have Y:=hs (fun x y=>RJ f order (jb x) (jb y)) (fun x y z A H=>A.trans H) ?_
 ·rw[List.pairwise_map,List.pairwise_iff_getElem];intro i j hi T L;have R:=Y i j (Zk _) L (by rw[←E];simpa using T);rw[getElem!_pos g i (by simpa using hi),getElem!_pos g j (by simpa using T)]at R;simpa using R
 intro p q O hq;have D:q<(J0 f order u).length:=by simpa using hq
 have m:p<(J0 f order u).length:=oq;have F:((J0 f order u).map (mkJ f)).toArray[p]! = mkJ f (J0 f order u)[p]:=by rw[getElem!_pos _ p (by simpa using m)];simp
 have G:((J0 f order u).map (mkJ f)).toArray[q]! = mkJ f (J0 f order u)[q]:=by rw[getElem!_pos _ q (by simpa using D)];simp
 rw[F,G];have v:=List.pairwise_iff_getElem.1 (Zdc V (u:=u)) p q m D O;obtain⟨a,I⟩:=ez ((J0 f order u)[p]);obtain⟨b,hb⟩:=ez ((J0 f order u)[q]);have M:a∈J0 f order u:=by rw[←I];exact Zi m
 rw[I,hb]at v;rw[I,hb];refine⟨fun hlt=>?_,fun hlt=>?_⟩
 ·show RJ f order (jb (mkJ f a)) (jb (mkJ f b));rw[zW,zW];rw[Zbi]at hlt;have h6:¬Jm f b<Jm f a:=of_decide_eq_false hlt;unfold RJ;rcases v with v|⟨v,h7⟩
  ·by_cases Z:Jm f a<Jm f b
   ·exact .inl Z
   exact .inr ⟨oq,v⟩
  refine .inl ?_;have J:=(Zb8 V (u:=u) (t:=a.1) (n:=a.2)).1 M;have aa:=(hc a.1 J.1).1;unfold Jm;rw[←v];have h9:=Int.mul_le_mul_of_nonneg_right (show(a.2:Int)+1≤(b.2:Int) by omega) (show 0≤(tkO f a.1).per by omega);rw[Int.add_mul]at h9;omega
 show RJ f order (jb (mkJ f b)) (jb (mkJ f a));rw[zW,zW];rw[Zbi]at hlt;exact .inl (Yj hlt)
theorem e9{f:List YK}{t:Nat}(h:t<f.length*5):(f.flatMap Qx)[t]?=some (Qx f.toArray[t/5]!)[t%5]!:=by
 induction f generalizing t with
 | nil=>simp at h
 | cons x f ih =>
  rw[List.flatMap_cons];by_cases ht:t<5
  ·rw[List.getElem?_append_left (show t<(Qx x).length from ht)];have g:t/5=0:=oq;have j:t%5=t:=oq;rw[g,j];have:(x::f).toArray[0]! = x:=rfl;rw[this,getElem!_pos _ t (show t<(Qx x).length from ht),Ze]
  rw[List.getElem?_append_right (show(Qx x).length≤t by show 5≤t;omega)];have q:(Qx x).length=5:=rfl;rw[q,ih (t:=t-5) (by simp at h;omega)];have g:t/5=(t-5)/5+1:=oq;have j:(t-5)%5=t%5:=oq;rw[g,j];have m:(t-5)/5<f.length:=by simp at h;omega
  have:(x::f).toArray[(t-5)/5+1]! = f.toArray[(t-5)/5]!:=by
   rw[getElem!_pos _ _ (by simp;exact m),getElem!_pos _ _ (by simpa using m)];simp
  rw[this]
theorem Zas{W:World}{base g c:Nat}{j:List YK}(h:W.ownsRow base 43 5 (.slice (some ⟨g,0,none⟩) j.length c) j.length (j.flatMap Qx)):JH W g 0 j.toArray:=by
 rcases h.2 with ⟨e,_⟩|⟨g',cap,cur,e,hb,hg,hnc,hcm,hcs,htk⟩
 ·cases e
 injection e with e1 e2 e3
 injection e1 with e1
 injection e1 with e1
 subst e1;refine⟨fun t ht=>?_,Zb hg⟩;have f:t<j.length*5:=by simpa using ht
 rw[get_flatK _ _ _ _ (by simpa using f),ZD];refine⟨?_,by simp[World.frozen?,hg]⟩;rw[Z7 W g t cur _ (0,0) hg,←Array.getElem?_toList];have m:=e9 f;rw[←htk,Yo f]at m;exact m
theorem jP(w:World):Calls prog 66 #[.slice none 0 0,.func (.func 67) #[] #[]] w fun e w'=>e=.returned (.tuple #[])∧Below w.heap.size w w':=by
 have f:∀W,Calls prog 137 #[.slice none 0 0,.int .i64 0,.int .i64 0,.func (.func 67) #[] #[]] W fun e w'=>e=.returned (.tuple #[])∧Below W.heap.size W w':=fun W=>by
  go_enter func137,ntmps137;go_wp2;go_loopw [8] (fun s8 W'=>Hid (s8=.int .i64 1∧Below W.heap.size W W')) (fun _ _=>0)
  case atStart=>exact⟨by go_num,bq⟩
  obtain⟨rfl,hb⟩:=hrel.out;clear hrel;have HB:=hid hb;clear hb;go_wp2;go_end0;exact⟨rfl,HB.out⟩
 have g:∀W,Calls prog 110 #[.slice none 0 0,.int .i64 0,.func (.func 67) #[] #[]] W fun e w'=>e=.returned (.tuple #[])∧Below W.heap.size W w':=fun W=>by
  go_enter func110,ntmps110;go_wp2;go_loopw [7,8] (fun s7 s8 W'=>Hid (s7=.int .i64 0∧s8=.int .i64 20∧Below W.heap.size W W')) (fun _ _ _=>0)
  case atStart=>exact⟨rfl,rfl,Zg _ _⟩
  obtain⟨rfl,rfl,hb⟩:=hrel.out;clear hrel;have HB:=hid hb;clear hb;go_wp2_with (go_at_call 137;refine(f _).mono ?_;rintro e j ⟨rfl,hb2⟩;have HB2:=hid (HB.out.trans (hb2.mono HB.out.size));clear hb2);go_loopw [6] (fun s6 W'=>Hid (s6=.int .i64 20∧Below W.heap.size W W')) (fun _ _=>0)
  case atStart=>exact⟨rfl,HB2.out⟩
  obtain⟨rfl,hb⟩:=hrel.out;clear hrel;have HB3:=hid hb;clear hb;go_wp2;go_end0;exact⟨rfl,HB3.out⟩
 go_enter func66,ntmps66;go_wp2_with (go_at_call 110;refine(g _).mono ?_;rintro e j ⟨rfl,hb2⟩);go_end0;exact⟨rfl,hb2⟩
theorem Zeg{α:Type}[Inhabited α]{enc:α→List Value}{k:Nat}{w W':World}{f off:Nat}{d:Array α}(h:SWK enc k w f off d W'):But (fun b=>b=f) w W':=by
 obtain⟨m,os,rfl⟩:=h;refine⟨rfl,rfl,rfl,?_,fun b hb hne=>?_⟩
 ·simp[sortWorldK,putRowK,putRow,mapBlock,grow,ahead]
 unfold sortWorldK;rw[heap_grow_old _ _ (by simpa [putRowK,putRow,mapBlock,ahead] using hb)];simp only[putRowK,putRow,mapBlock,ahead,Array.getElem?_modify];rw[Z1 (fun e=>hne e.symm)];rfl
def jaB(ja:Option Addr):Option Nat:=ja.map (·.block)
structure BC (S:Nat→Prop) (W W':World):Prop where
 size:W.heap.size≤W'.heap.size
 block:∀(k:Nat)(cs:Array Value)(t:TypeId)(fr:Nat×Nat),W.heap[k]?=some (.cells cs t fr)→¬S k→W'.heap[k]?=some (.cells cs t fr)
theorem BC.of_but{S:Nat→Prop}{W W':World}(h:But S W W'):BC S W W':=⟨h.size,fun k _ _ _ hk hs=>(h.block k (Zb hk) hs).trans hk⟩
theorem BC.of_mk{S:Nat→Prop}{lo:Nat}{W W':World}(h:MkW lo W W'):BC S W W':=⟨Nat.le_of_eq h.size.symm,fun k cs t fr hk _=>h.cells k _ hk rfl⟩
theorem BC.then{S:Nat→Prop}{A B C:World}(h:BC S A B)(k:BC S B C):BC S A C:=⟨Zm h.size k.size,fun j cs t fr hj hs=>k.block j cs t fr (h.block j cs t fr hj hs) hs⟩
theorem BC.own{S:Nat→Prop}{w w':World}{base:Nat}{e:TypeId}{size n:Nat}{v:Value}{xs:List Value}(h:BC S w w')(f:w.ownsRow base e size v n xs)(j:∀k,v.ownBlock=some k→¬S k):w'.ownsRow base e size v n xs:=by
 refine⟨f.1,?_⟩;rcases f.2 with hn|⟨g,cap,cur,rfl,hb,hgg,rest⟩
 ·exact .inl hn
 exact .inr ⟨g,cap,cur,rfl,hb,h.block g _ _ _ hgg (j g rfl),rest⟩
def JR(W:World)(ja:Option Addr)(d:Array YK):Prop:=d.size=0∨∃g,ja=some ⟨g,0,none⟩∧JH W g 0 d
theorem JR.bc{W W':World}{f:Option Addr}{d:Array YK}(h:JR W f d){S:Nat→Prop}(hb:BC S W W')(q:∀g,jaB f=some g→¬S g):JR W' f d:=by
 by_cases m:d.size=0
 ·exact .inl m
 rcases h with h|⟨g,rfl,h⟩
 ·exact .inl h
 refine .inr ⟨g,rfl,h.but ?_⟩;have j:=(h.cell (i:=0) oq).1.1;have v:=h.lt
 cases ho:W.heap[g]? with
 | none=>simp[World.cell?,ho]at j
 | some o =>
  cases o with
  | cells cs t fr=>exact hb.block g cs t fr ho (q g rfl)
  | _=>simp[World.cell?,ho]at j
theorem JR.but{W W':World}{ja:Option Addr}{d:Array YK}(h:JR W ja d){S:Nat→Prop}(hb:But S W W')(hS:∀g,jaB ja=some g→¬S g):JR W' ja d:=h.bc (BC.of_but hb) hS
theorem JR.below{W W':World}{ja:Option Addr}{d:Array YK}(h:JR W ja d)(hb:Below W.heap.size W W'):JR W' ja d:=h.but (But.of_below (S:=fun _=>False) hb) (fun _ _ e=>e)
theorem jQ{W:World}{base x:Nat}{v:Option Addr}{f:FD}{order:List Int}{u:Int}(H:Xa f order)(G:zi f)(N:Nat)(F:((J0 f order u).map (mkJ f)).length=N)(z:N≤1000000)(m:W.ownsRow base 43 5 (.slice v N x) N (((J0 f order u).map (mkJ f)).flatMap Qx)):
  Calls prog 66 #[.slice v N x,.func (.func 67) #[] #[]] W fun e w'=>e=.returned (.tuple #[])∧(∃B,X6 f order u B∧B.length=N∧JR w' v (B.map (mkJ f)).toArray)∧But (fun b=>jaB v=some b) W w':=by
 subst F;rcases m.2 with ⟨e,hn⟩|⟨g,cap,cur,e,hb,hg,_⟩
 ·rw[e];injection e with e1 e2 e3
  subst e1;refine(jP W).mono ?_;rintro y w' ⟨rfl,hb⟩;have D:J0 f order u=[]:=by
   have:=hn;rw[Zo]at this;exact Yd this
  refine⟨rfl,⟨[],⟨by rw[D],List.Pairwise.nil⟩,by rw[D];rfl,.inl rfl⟩,But.of_below hb⟩
 injection e with e1 e2 e3
 subst e1;have j:=Zas m;have h:=xt g 0 x ((J0 f order u).map (mkJ f)).toArray W j.holds j.lt (by simp at z ⊢;omega);rw[ZI]at h;refine h.mono ?_;rintro y w' ⟨rfl,I,A,q⟩;obtain⟨B,rfl,C⟩:=Zec H G A;have E:B.length=((J0 f order u).map (mkJ f)).length:=by rw[Zo];exact C.perm.length_eq.symm
 refine⟨rfl,⟨B,C,E,.inr ⟨g,rfl,⟨q.holds j.lt j.holds (by simp[E]),q.lt j.lt⟩⟩⟩,(Zeg q).imp (fun b _ e=>by rw[e];rfl)⟩
structure PlW (W3 W:World) (pb T:Nat) (vs:List Value) (B:List (Nat×Nat)) (i:Nat):Prop where
 but:But (fun k=>k=pb) W3 W
 lt:pb<W3.heap.size
 len:vs.length=T
 row:W.heap[pb]?=some (.cells vs.toArray 41 (0,0))
 fam:Fam W W3.heap.size 3 vs ((List.range T).map (fun t=>ints (plP B i t)))
theorem PlW.start{W:World}{f T:Nat}{B:List (Nat×Nat)}(h:W.heap[f]?=some (.cells (List.replicate T (.slice none 0 0)).toArray 41 (0,0))):PlW W W f T (List.replicate T (.slice none 0 0)) B 0:=by
 refine⟨But.refl _ _,Zb h,by simp,h,?_⟩;have g:=Fam.nils W W.heap.size 3 T;have j:(List.range T).map (fun t=>ints (plP B 0 t))=List.replicate T []:=by
  rw[List.eq_replicate_iff];refine⟨by simp,fun x hx=>?_⟩;obtain⟨t,_,rfl⟩:=Ye.1 hx;rfl
 rw[j];exact g
theorem PlW.at{g W:World}{f T:Nat}{vs:List Value}{B:List (Nat×Nat)}{i:Nat}(h:PlW g W f T vs B i){t:Nat}(ht:t<T):∃v,vs[t]?=some v∧W.cell? ⟨f,t,none⟩=some v∧W.frozen? ⟨f,t,none⟩=false∧W.ownsRow g.heap.size 3 1 v (plP B i t).length (ints (plP B i t)):=by
 have j:=h.len;refine⟨vs[t],Ze oq,?_,by simp[World.frozen?,h.row],?_⟩
 ·rw[Z7 W f t _ _ _ h.row];simp[j,ht]
 have:=h.fam.own t vs[t] (ints (plP B i t)) (Ze oq) (by simp[ht])
 rwa [JC]at this
theorem PlW.app{y W w4:World}{f T:Nat}{vs:List Value}{B:List (Nat×Nat)}{i:Nat}(h:PlW y W f T vs B i){t:Nat}(ht:t<T)(G:(B.getD i (0,0)).1=t){v v':Value}(C:vs[t]?=some v)(hb4:But (fun k=>v.ownBlock=some k) W w4)
  (x:w4.ownsRow y.heap.size 3 1 v' ((plP B i t).length+1) (ints (plP B i t)++[.int .i64 (i:Int)]))(A:∀k,v'.ownBlock=some k→v.ownBlock=some k∨W.heap.size≤k):PlW y (w4.setCell ⟨f,t,none⟩ v') f T (vs.set t v') B (i+1):=by
 have J:=h.lt;have q:=h.len;have m:=fun k hk=>h.fam.block C k hk
 have z:∀k,v.ownBlock=some k→k≠f:=fun k hk e=>by have:=m k hk;omega
 have D:=(hb4.block f (Zb h.row) (fun e=>z f e rfl)).trans h.row;have g:But (fun k=>v.ownBlock=some k∨k=f) W (w4.setCell ⟨f,t,none⟩ v'):=(hb4.imp (fun _ _ e=>.inl e)).then (But.set (S:=fun k=>k=f) rfl _) (fun _ _ e=>.inr e);refine⟨h.but.then g (fun k hk e=>by rcases e with e|e<;>first|exact e|(have:=m k e;omega)),h.lt,by rw[List.length_set];exact q,?_,?_⟩
 ·have E:=Zj _ f t _ _ v' D;rw[E];simp
 have F:(List.range T).map (fun t=>ints (plP B (i+1) t))=((List.range T).map (fun t=>ints (plP B i t))).set t (ints (plP B i t)++[.int .i64 (i:Int)]):=by
  apply List.ext_getElem
  ·simp
  intro j H I;rw[List.getElem_set];simp only[List.getElem_map,List.getElem_range];rw[Zcr,G];by_cases e:t=j
  ·subst e;rw[Z2 rfl,Z2 rfl,←J5]
  rw[Z1 e,Z1 e,List.append_nil]
 rw[F];refine h.fam.put C (g.imp (fun k _ e=>by rcases e with e|e<;>first|exact .inl e|exact .inr oq)) ?_ A;rw[Zx,JC];exact Xg x h.lt v'
theorem PlW.done{y W:World}{m T:Nat}{vs:List Value}{B:List (Nat×Nat)}{i:Nat}(h:PlW y W m T vs B i){S:Nat→Prop}(z:∀k,S k→k<y.heap.size∧k≠m){W':World}(hb:BC S W W'):PlM W' m (plP B i) T:=by
 have f:W'.heap[m]?=_:=hb.block m _ _ _ h.row (fun e=>(z _ e).2 rfl);refine⟨Zb f,fun t ht=>?_⟩;obtain⟨v,E,A,_,x⟩:=h.at ht;obtain⟨a,c,rfl⟩:=YI x;refine⟨a,c,(Zn (w:=W) (a:=⟨m,t,none⟩) (f.trans h.row.symm)).trans A,?_⟩;have q:=hb.own x (fun k hk hs=>by have C:=(z k hs).1;have D:=X3 x k hk;omega);rcases q.2 with ⟨_,hn⟩|⟨g,cap,cur,e,hb2,hg,_⟩
 ·exact .inl (Yd hn)
 injection e with e1 e2 e3
 subst e1;refine .inr ⟨g,0,rfl,Zb hg,fun j hj=>?_⟩;rw[Z8,ZD];refine(World.ownsRow.cellAt q j (by rw[Z8];exact hj)).trans ?_;rw[ints_at hj,Zf,Ze hj];rfl
structure QI (W:World) (f:FD) (ai an aT al:Option Addr) (ci cn ct cl:Nat) (u:Int) (wb pb cp:Nat) (ja:Option Addr) (cj:Nat) (B:List (Nat×Nat)) (d:Array YK):Prop where
 box:W.heap[wb]?=some (.cells #[.slice ai f.ins.length ci,.slice an f.nods.length cn,.slice aT f.tasks.length ct,.slice al f.tells.length cl,.int .i64 u,.slice ja d.size cj,.slice (some ⟨pb,0,none⟩) f.tasks.length cp] 84 (0,0))
 ne:jaB ja≠some wb
 jobs:JR W ja d
 pl:∀W',BC (fun b=>jaB ja=some b) W W'→PlM W' pb (plP B B.length) f.tasks.length
 sz:d.size=B.length
theorem QI.but{W W':World}{f:FD}{ai an aT al:Option Addr}{ci cn ct cl:Nat}{u:Int}{wb pb cp:Nat}{ja:Option Addr}{cj:Nat}{B:List (Nat×Nat)}{d d':Array YK}(h:QI W f ai an aT al ci cn ct cl u wb pb cp ja cj B d)(hb:But (fun b=>jaB ja=some b) W W')(hs:d'.size=d.size)(hj:JR W' ja d'):QI W' f ai an aT al ci cn ct cl u wb pb cp ja cj B d' :=
 ⟨by rw[hs];exact(hb.block wb (Zb h.box) h.ne).trans h.box,h.ne,hj,fun W2 h2=>h.pl W2 ((BC.of_but hb).then h2),hs.trans h.sz⟩
theorem QI.below{W W':World}{f:FD}{ai an aT al:Option Addr}{ci cn ct cl:Nat}{u:Int}{wb pb cp:Nat}{ja:Option Addr}{cj:Nat}{B:List (Nat×Nat)}{d:Array YK}(h:QI W f ai an aT al ci cn ct cl u wb pb cp ja cj B d)(hb:Below W.heap.size W W'):QI W' f ai an aT al ci cn ct cl u wb pb cp ja cj B d :=
 h.but (But.of_below hb) rfl (h.jobs.below hb)
theorem QI.mk'{W W':World}{f:FD}{ai an aT al:Option Addr}{ci cn ct cl:Nat}{u:Int}{wb pb cp:Nat}{ja:Option Addr}{cj:Nat}{B:List (Nat×Nat)}{d:Array YK}(h:QI W f ai an aT al ci cn ct cl u wb pb cp ja cj B d){lo:Nat}(hm:MkW lo W W'):QI W' f ai an aT al ci cn ct cl u wb pb cp ja cj B d :=
 ⟨hm.cells _ _ h.box rfl,h.ne,h.jobs.bc (BC.of_mk (S:=fun _=>False) hm) (fun _ _ e=>e),fun W2 h2=>h.pl W2 ((BC.of_mk hm).then h2),h.sz⟩
theorem Ud:∀(l:List index.Op3)(p q p' q':Int),clock.YF p q=true→clock.YO p q l=(p',q',0)→clock.YF p' q'=true
 | [],p,q,p',q',hr,h=>by
  simp only[clock.YO,Z4]at h;obtain⟨rfl,rfl,_⟩:=h;exact hr
 | o::r,p,q,p',q',hr,h=>by
  obtain⟨k,N,d⟩:=o;rw[clock.YO]at h;rcases ha:clock.YB p q k N d with ⟨p1,f1,e1⟩
  simp only[ha]at h;split at h
  ·rename_i he
   subst he;exact Ud r p1 f1 p' q' (Ji ha).2.1 h
  rename_i he
  simp only[Z4]at h;exact absurd h.2.2 he
theorem QO{f:FD}{a:AD}{m j:Int}(h:X2 f a m j=true):clock.YF m j=true∧(XR f a.src).isSome=true∧a.ops.length≤20:=by
 unfold X2 at h
 cases hs:XR f a.src with
 | none=>rw[hs]at h;cases h
 | some s =>
  obtain⟨z,y⟩:=s;rw[hs]at h;simp only[ZB,Yk]at h;obtain⟨A,g,q,v⟩:=h;unfold clock.Ur at g q v;by_cases x:clock.YF z y=true
  ·rw[Z2 x]at g q v;exact⟨Ud a.ops z y m j x (by rw[←g,←q,←v]),rfl,A⟩
  rw[Z1 x]at g;simp at g
structure RgF (f:FD):Prop where
 few:f.tasks.length≤30
 clk:zi f
 fits:∀t,t<f.tasks.length→∀a∈(tkO f t).args,X2 f a (tkO f t).per (tkO f t).ph=true
 node:∀t,t<f.tasks.length→∃k:Nat,(tkO f t).node=(k:Int)∧∃h:k<f.nods.length,1≤f.nods[k].bud∧f.nods[k].bud≤1000
 tel:∀t∈f.tells,(1≤t.dl∧t.dl≤1000)∧X2 f t.arg t.per t.ph=true
theorem yi{f:FD}(h:Xp f=true):RgF f:=by
 unfold Xp at h;simp only[ZB,List.all_eq_true,Yk]at h;obtain⟨_,v,x,y,z⟩:=h;have key:∀t,t<f.tasks.length→(∃k:Nat,(tkO f t).node=(k:Int)∧∃h:k<f.nods.length,1≤f.nods[k].bud∧f.nods[k].bud≤1000)∧(tkO f t).args≠[]∧∀a∈(tkO f t).args,X2 f a (tkO f t).per (tkO f t).ph=true:=by
  intro t ht;have g:=x f.tasks[t] (Zi ht);rw[UC ht]at g;by_cases D:(tkO f t).node<0∨(f.nods.length:Int)≤(tkO f t).node
  ·rw[K1 D]at g;cases g
  have j:(tkO f t).node.toNat<f.nods.length:=oq;have q:(tkO f t).node=((tkO f t).node.toNat:Int):=oq;rw[yp j q]at g;simp only[ZB,List.all_eq_true,Yk]at g;refine⟨⟨_,q,j,?_⟩,fun e=>g.1 (by rw[e];rfl),g.2.2⟩;have:=v _ (Zi j);unfold Vu at this;simpa using this
 refine⟨z,fun t ht=>?_,fun t ht=>(key t ht).2.2,fun t ht=>(key t ht).1,fun t ht=>?_⟩
 ·obtain⟨_,m,C⟩:=key t ht;obtain⟨a,A⟩:=List.exists_mem_of_ne_nil _ m;exact clock.Xq.1 (QO (C a A)).1
 have:=y t ht;unfold K2 Vu at this;simpa using this
theorem yk{f:FD}{a:AD}{m j:Int}(y:f.tasks.length≤30)(x:f.ins.length≤1000)(h:X2 f a m j=true):0≤a.src∧a.src≤100000:=by
 have g:=(QO h).2.1;by_cases q:a.src<0
 ·rw[gK q]at g;cases g
 by_cases v:(f.ins.length:Int)≤a.src
 ·have:=E1 g v;omega
 omega
def Uk(f:FD)(B:List (Nat×Nat))(i:Nat):List Int:=(tkO f (B.getD i (0,0)).1).args.filterMap (fun a=>QC f B a ((B.getD i (0,0)).2:Int))
def XP(f:FD)(B:List (Nat×Nat))(i:Nat):List Int:=Lib.compact ((Uk f B i).mergeSort (fun x y=>decide (x≤y)))
theorem Zcd{f:FD}{B:List (Nat×Nat)}{i:Nat}{x:Int}(h:x∈XP f B i):x∈Uk f B i:=List.mem_mergeSort.1 (Gg (Nat.le_of_eq (by simp)) x h)
theorem ZdM{f:FD}{order:List Int}{u:Int}{B:List (Nat×Nat)}(g:X6 f order u B)(z:Xa f order)(A:RgF f){i:Nat}(hi:i<B.length){x:Int}(h:x∈XP f B i):∃p:Nat,x=(p:Int)∧p<i:=by
 have y:=Zcd h;unfold Uk at y;obtain⟨a,j,v⟩:=List.mem_filterMap.1 y;have hb:B[i]?=some (B.getD i (0,0)):=by rw[Zf,Ze hi];rfl
 obtain⟨⟨t,n⟩,m⟩:=ez (B.getD i (0,0));rw[m]at j v hb;simp only at j v;have q:=(g.mem z).1 (Ya hb);obtain⟨p,s,k,rfl,C,D⟩:=Zfk g z A.fits q.1 (A.clk t q.1).1 q.2 j v;exact⟨p,rfl,g.lt C hb D⟩
structure NdS (W:World) (f:FD) (B:List (Nat×Nat)) (ja:Option Addr) (d:Array YK) (i:Nat):Prop where
 base:∀k,k<B.length→d[k]!.t=((B.getD k (0,0)).1:Int)∧d[k]!.n=((B.getD k (0,0)).2:Int)∧d[k]!.r=Jm f (B.getD k (0,0))∧d[k]!.d=Jm f (B.getD k (0,0))+(tkO f (B.getD k (0,0)).1).per
 nd:∀k,k<i→d[k]!.nl=(XP f B k).length∧∀W',BC (fun b=>jaB ja=some b) W W'→Row Gp 1 W' (XP f B k) d[k]!.na
theorem NdS.start(W:World)(f:FD)(B:List (Nat×Nat))(g:Option Addr):NdS W f B g (B.map (mkJ f)).toArray 0:=by
 refine⟨fun k hk=>?_,fun k hk=>oq⟩;have:(B.map (mkJ f)).toArray[k]! = mkJ f (B.getD k (0,0)):=by
  rw[getElem!_pos _ k (by simpa using hk)];simp[Zf,hk]
 rw[this];exact⟨rfl,rfl,rfl,rfl⟩
theorem Kc{d:Array YK}{i:Nat}(hi:i<d.size)(x:YK)(k:Nat):(d.setIfInBounds i x)[k]! = if k=i then x else d[k]!:=by
 by_cases h:k=i
 ·subst h;rw[Z2 rfl,getElem!_set_same _ _ _ hi]
 rw[Z1 h];by_cases f:k<d.size
 ·rw[getElem!_pos d k f,getElem!_pos (d.setIfInBounds i x) k (by simpa using f),Array.getElem_setIfInBounds_ne (by simpa using f) (fun e=>h e.symm)]
 rw[getElem!_neg d k f,getElem!_neg (d.setIfInBounds i x) k (by simpa using f)]
theorem NdS.put{W W':World}{f:FD}{B:List (Nat×Nat)}{g:Option Addr}{d:Array YK}{i:Nat}(h:NdS W f B g d i)(hb:BC (fun b=>jaB g=some b) W W')(hi:i<d.size)(m:d.size=B.length){a:Option Addr}{c:Nat}(j:∀W2,BC (fun b=>jaB g=some b) W' W2→Row Gp 1 W2 (XP f B i) a):
  NdS W' f B g (d.setIfInBounds i { d[i]! with na:=a,nl:=(XP f B i).length,nc:=c }) (i+1):=by
 refine⟨fun k hk=>?_,fun k hk=>?_⟩
 ·rw[Kc hi];by_cases e:k=i
  ·subst e;rw[Z2 rfl];exact h.base k hk
  rw[Z1 e];exact h.base k hk
 rw[Kc hi];by_cases e:k=i
 ·subst e;rw[Z2 rfl];exact⟨rfl,j⟩
 rw[Z1 e];exact⟨(h.nd k oq).1,fun W2 h2=>(h.nd k oq).2 W2 (hb.then h2)⟩
theorem Zcu{W:World}{base:Nat}{a:Option Addr}{n c:Nat}{l:List Int}(h:QV W base (.slice a n c) l){S:Nat→Prop}(m:∀k,S k→k<base){W':World}(hb:BC S W W'):n=l.length∧Row Gp 1 W' l a:=by
 have f:=hb.own h (fun k hk hs=>by have q:=m k hs;have v:=X3 h k hk;omega);rcases f.2 with ⟨e,hn⟩|⟨g,cap,cur,e,_,hg,_⟩
 ·cases e
  rw[Yd hn];exact⟨rfl,.inl rfl⟩
 injection e with e1 e2 e3
 subst e1;subst e2;subst e3;refine⟨rfl,.inr ⟨g,0,rfl,Zb hg,fun j hj=>?_⟩⟩;rw[Z8,ZD];refine(World.ownsRow.cellAt f j (by rw[Z8];exact hj)).trans ?_;rw[ints_at hj,Zf,Ze hj];rfl
attribute [local go_sem] ZT
def ZfW(w:World)(f:FD)(ai an aT al:Option Addr)(ci cn ct cl:Nat)(order:List Int)(u:Int)(e:Ending)(w':World):Prop :=
 ∃wb pb ja cj B,e=.returned (.pointer (some ⟨wb,0,none⟩))∧X6 f order u B∧QI w' f ai an aT al ci cn ct cl u wb pb f.tasks.length ja cj B (B.map (mkJ f)).toArray∧Below w.heap.size w w'∧(∀b,jaB ja=some b→w.heap.size≤b)
def S15(bw wb b14 pb T:Nat)(tt:Int)(w':World):Prop:=w'.cell? ⟨bw,0,none⟩=some (.pointer (some ⟨wb,0,none⟩))∧w'.cell? ⟨wb,6,none⟩=some (.slice (some ⟨pb,0,none⟩) T T)∧w'.cell? ⟨b14,0,none⟩=some (.int .i64 tt)
theorem ZcF{bw wb b14 pb T:Nat}{tt:Int}{W W':World}(h:S15 bw wb b14 pb T tt W)(h1:W'.heap[bw]?=W.heap[bw]?)(h2:W'.heap[wb]?=W.heap[wb]?)(h3:W'.heap[b14]?=W.heap[b14]?):S15 bw wb b14 pb T tt W' :=
 ⟨(Zn (w:=W) (a:=⟨bw,0,none⟩) h1).trans h.1,(Zn (w:=W) (a:=⟨wb,6,none⟩) h2).trans h.2.1,(Zn (w:=W) (a:=⟨b14,0,none⟩) h3).trans h.2.2⟩
theorem Zbj{A B:World}{row:Option Nat}{b:Nat}{p f:Int}(h:K6 A b p f)(hg:A.grownBy B row)(hr:∀r,row=some r→∃o:Obj,A.heap[r]?=some o∧o.isCells=false):K6 B b p f :=
 (hg.block b (Zb h) (fun e=>by obtain⟨o,ho,hc⟩:=hr b e.symm;rw[show A.heap[b]?=_ from h]at ho;injection ho with ho;subst ho;cases hc)).trans h
theorem V6{B:Nat}{W w4:World}{v v':Value}{f o base n:Nat}{xs:List Value}{t e:TypeId}{sz:Nat}(q:W.ownsRow base e sz v n xs)(hb:But (fun k=>v.ownBlock=some k) W w4){x:Array Value}(y:W.heap[f]?=some (.cells x t (0,0))):KeepsFrom B W (w4.setCell ⟨f,o,none⟩ v'):=by
 refine⟨by simpa using hb.size,fun k ob _ hk hc=>?_⟩;have j:v.ownBlock≠some k:=fun e=>by
  rcases q.2 with ⟨rfl,_⟩|⟨g,cap,cur,rfl,_,hg,_⟩
  ·cases e
  injection e with e
  subst e;rw[hg]at hk;injection hk with hk
  subst hk
  cases hc
 have m:k≠f:=fun e=>by subst e;rw[y]at hk;injection hk with hk;subst hk;cases hc
 exact(Zr _ _ _ _ (fun e=>m e)).trans ((hb.block k (Zb hk) j).trans hk)
def S9(bw wb b9 b10:Nat)(t per:Int)(w':World):Prop:=w'.cell? ⟨bw,0,none⟩=some (.pointer (some ⟨wb,0,none⟩))∧w'.cell? ⟨b9,0,none⟩=some (.int .i64 t)∧w'.cell? ⟨b10,0,none⟩=some (.int .i64 per)
theorem Zd8{bw wb b9 b10:Nat}{t per:Int}{W W':World}(h:S9 bw wb b9 b10 t per W)(h1:W'.heap[bw]?=W.heap[bw]?)(h2:W'.heap[b9]?=W.heap[b9]?)(h3:W'.heap[b10]?=W.heap[b10]?):S9 bw wb b9 b10 t per W' :=
 ⟨(Zn (w:=W) (a:=⟨bw,0,none⟩) h1).trans h.1,(Zn (w:=W) (a:=⟨b9,0,none⟩) h2).trans h.2.1,(Zn (w:=W) (a:=⟨b10,0,none⟩) h3).trans h.2.2⟩
theorem zm{w:World}(f:FD)(ai an aT al:Option Addr)(ci cn ct cl:Nat)(hf:FAP w f ai an aT al)(hc:zi f)(hT:f.tasks.length≤30)(order:List Int)(ao:Option Addr)(co:Nat)(gx:Row Gp 1 w order ao)(ho:Xa f order)(u:Int)(hu:u≤20000):
  CallsIn Fence.wide 6 prog 24 #[fv f ai an aT al ci cn ct cl,.slice ao order.length co,.int .i64 u] w (ZfW w f ai an aT al ci cn ct cl order u):=by
 have dg:=hid hf.tasks;have cy:=hid hc;have bn:=hid (fun t ht=>GC (t:=t) hc hu ht);have bs:=hid (ve hc hu ho.rng);have de:=hid gx;have HO:=hid ho;have am:=hid ho.rng;have jw:order.length≤30:=by
  have:=List.Nodup.length_le_of_subset (l₂:=(List.range f.tasks.length).map (fun k:Nat=>(k:Int))) ho.nd (by
   intro y hy;have:=ho.rng y hy;exact Ye.2 ⟨y.toNat,List.mem_range.2 oq,oq⟩)
  rw[Zo,List.length_range]at this;omega
 clear hf hc gx ho;unfold fv;obtain⟨T,eq⟩:=ez f.tasks.length;rw[eq]at hT bn am ⊢;have ap:=hid eq;clear eq;obtain⟨no,fa⟩:=ez order.length;rw[fa]at jw bs ⊢;have ak:=hid fa;clear fa;refine callsIn_of_wp_marks func24 rfl trivial ?_ rfl;simp only[ntmps24,ZI,Zp,Zw,Nat.reduceAdd,Nat.reduceSub,ZF,ZE,ZL,ZJ,ZM,ZC];have bg:=fun W=>run_make_row' (P:=prog) 82 41 (.slice none 0 0) 24 underlying82 ZbN rfl .i64 .i64 T oq oq W
 gi_upto_region 1 with fail
 obtain⟨W1,bz⟩:=ez (w.alloc (.cells #[.slice ai f.ins.length ci,.slice an f.nods.length cn,.slice aT T ct,.slice al f.tells.length cl] 34));have ep:Below w.heap.size w W1:=by rw[←bz];exact bq
 have jy:W1.heap.size=w.heap.size+1:=by rw[←bz];simp
 have dp:W1.heap[w.heap.size]?=some (.cells #[.slice ai f.ins.length ci,.slice an f.nods.length cn,.slice aT T ct,.slice al f.tells.length cl] 34 (0,0)):=by rw[←bz];exact Yw w _
 rw[bz];clear bz;refine wpIn_cut (fun a' W'=>Hid (∃G E V,a'.defers=[]∧a'.tmps.size=93∧slt a'.tmps 1=.slice ao no co∧slt a'.tmps 2=.int .i64 u∧slt a'.tmps 3=.pointer (some ⟨w.heap.size,0,none⟩)∧slt a'.tmps 6=.pointer none∧slt a'.tmps 7=.pointer (some ⟨V,0,none⟩)∧NwS w W' #[.slice ai f.ins.length ci,.slice an f.nods.length cn,.slice aT T ct,.slice al f.tells.length cl] #[.slice ai f.ins.length ci,.slice an f.nods.length cn,.slice aT T ct,.slice al f.tells.length cl,.int .i64 u,.slice none 0 0,.slice (some ⟨G,0,none⟩) T T] T w.heap.size V E G)) ?rest ?first
 case first =>
  clear dg cy bn bs de HO am ap ak;intro J0 K0 ga gb;have bl:=hid ga;have ed:=hid gb;clear ga gb;obtain⟨⟨x0,x1,x2,x3⟩,xf⟩:=Yx dp;have ew:w.heap.size<W1.heap.size:=oq;have KS0:=hid (show(fun w'=>w'.cell? ⟨w.heap.size,0,none⟩=some (.slice ai f.ins.length ci)∧w'.cell? ⟨w.heap.size,1,none⟩=some (.slice an f.nods.length cn)∧w'.cell? ⟨w.heap.size,2,none⟩=some (.slice aT T ct)∧w'.cell? ⟨w.heap.size,3,none⟩=some (.slice al f.tells.length cl)) W1.drew from ⟨x0,x1,x2,x3⟩);have ek:=hid (fun(W':World)(h:W'.heap[w.heap.size]?=W1.heap[w.heap.size]?)=>(show(fun w'=>w'.cell? ⟨w.heap.size,0,none⟩=some (.slice ai f.ins.length ci)∧w'.cell? ⟨w.heap.size,1,none⟩=some (.slice an f.nods.length cn)∧w'.cell? ⟨w.heap.size,2,none⟩=some (.slice aT T ct)∧w'.cell? ⟨w.heap.size,3,none⟩=some (.slice al f.tells.length cl)) W' from ⟨(Zn (w:=W1) (a:=⟨w.heap.size,0,none⟩) h).trans x0,(Zn (w:=W1) (a:=⟨w.heap.size,1,none⟩) h).trans x1,(Zn (w:=W1) (a:=⟨w.heap.size,2,none⟩) h).trans x2,(Zn (w:=W1) (a:=⟨w.heap.size,3,none⟩) h).trans x3⟩));have KS1:=hid (fun(o:Obj)=>ek.out (W1.alloc o).drew (Za W1 o _ ew));have KS2:=hid (fun(o o':Obj)=>ek.out ((W1.alloc o).alloc o').drew ((Za _ _ _ (by simp;omega)).trans (Za W1 o _ ew)));have KS3:=hid (fun(o o' o2:Obj)=>ek.out (((W1.alloc o).alloc o').alloc o2).drew ((Za _ _ _ (by simp;omega)).trans ((Za _ _ _ (by simp;omega)).trans (Za W1 o _ ew))));clear x0 x1 x2 x3 xf;have HB1:=hid ep;have ei:=hid dp;clear ep dp;refine wpIn_wide.2 (wp_region_noPanic ?_);refine ZO (S:=(fun w'=>w'.cell? ⟨w.heap.size,0,none⟩=some (.slice ai f.ins.length ci)∧w'.cell? ⟨w.heap.size,1,none⟩=some (.slice an f.nods.length cn)∧w'.cell? ⟨w.heap.size,2,none⟩=some (.slice aT T ct)∧w'.cell? ⟨w.heap.size,3,none⟩=some (.slice al f.tells.length cl))) kq (by first|with_reducible exact KS0.out|with_reducible exact KS1.out _|with_reducible exact KS2.out _ _|with_reducible exact KS3.out _ _ _|(trace_state;fail)) (fun hHeld=>?_);refine tk 0 hHeld ?_;refine tk 1 hHeld ?_;refine tk 2 hHeld ?_;refine tk 3 hHeld ?_;refine tk 4 hHeld ?_;refine rz 5 8 (fun K hK=>?_) fun K hK=>?_
  ·go_simp;refine hK.out _ _ (fun hHeld=>?_);clear hK K;refine tk 6 hHeld ?_;refine rz 7 8 (fun K hK=>?_) fun K hK=>?_
   ·go_simp;refine hK.out _ _ (fun hHeld=>?_);clear hK K;refine ry 8 fun K hK=>?_
    go_simp;refine hK.out _ _ (fun hHeld=>?_);clear hK K;refine ry 9 fun K hK=>?_
    go_simp;refine hK.out _ _ (fun hHeld=>?_);clear hK K;refine Zy kq ?_ _;refine NoPanic.normal ?_;exact ed.out _ _ (Met.intro (bl.out _ _ (hid ⟨w.heap.size+1,w.heap.size+1+1,w.heap.size+1+1+1,rfl,rfl,rfl,rfl,rfl,rfl,rfl,⟨HB1.out.trans (bq:Below w.heap.size W1 _),oq,oq,(by exact(Za _ _ _ oq).trans ((Za _ _ _ oq).trans ((Za _ _ _ oq).trans ei.out))),(by first|exact Yz oq|exact(Za _ _ _ oq).trans (Yz oq)|exact(Za _ _ _ oq).trans ((Za _ _ _ oq).trans (Yz oq))),(by first|exact Yz oq|exact(Za _ _ _ oq).trans (Yz oq)|exact(Za _ _ _ oq).trans ((Za _ _ _ oq).trans (Yz oq))),(by rw[←VI];exact(by first|exact Yz oq|exact(Za _ _ _ oq).trans (Yz oq)|exact(Za _ _ _ oq).trans ((Za _ _ _ oq).trans (Yz oq))))⟩⟩)))
   go_simp;refine hK.out _ _ (fun hHeld=>?_);clear hK K;refine ry 7 fun K hK=>?_
   go_simp;refine hK.out _ _ (fun hHeld=>?_);clear hK K;refine ry 9 fun K hK=>?_
   go_simp;refine hK.out _ _ (fun hHeld=>?_);clear hK K;refine Zy kq ?_ _;refine NoPanic.normal ?_;exact ed.out _ _ (Met.intro (bl.out _ _ (hid ⟨w.heap.size+1,w.heap.size+1+1+1,w.heap.size+1+1,rfl,rfl,rfl,rfl,rfl,rfl,rfl,⟨HB1.out.trans (bq:Below w.heap.size W1 _),oq,oq,(by exact(Za _ _ _ oq).trans ((Za _ _ _ oq).trans ((Za _ _ _ oq).trans ei.out))),(by first|exact Yz oq|exact(Za _ _ _ oq).trans (Yz oq)|exact(Za _ _ _ oq).trans ((Za _ _ _ oq).trans (Yz oq))),(by first|exact Yz oq|exact(Za _ _ _ oq).trans (Yz oq)|exact(Za _ _ _ oq).trans ((Za _ _ _ oq).trans (Yz oq))),(by rw[←VI];exact(by first|exact Yz oq|exact(Za _ _ _ oq).trans (Yz oq)|exact(Za _ _ _ oq).trans ((Za _ _ _ oq).trans (Yz oq))))⟩⟩)))
  go_simp;refine hK.out _ _ (fun hHeld=>?_);clear hK K;refine ry 5 fun K hK=>?_
  go_simp;refine hK.out _ _ (fun hHeld=>?_);clear hK K;refine tk 6 hHeld ?_;refine ry 7 fun K hK=>?_
  go_simp;refine hK.out _ _ (fun hHeld=>?_);clear hK K;refine ry 9 fun K hK=>?_
  go_simp;refine hK.out _ _ (fun hHeld=>?_);clear hK K;refine Zy kq ?_ _;refine NoPanic.normal ?_;exact ed.out _ _ (Met.intro (bl.out _ _ (hid ⟨w.heap.size+1+1,w.heap.size+1+1+1,w.heap.size+1,rfl,rfl,rfl,rfl,rfl,rfl,rfl,⟨HB1.out.trans (bq:Below w.heap.size W1 _),oq,oq,(by exact(Za _ _ _ oq).trans ((Za _ _ _ oq).trans ((Za _ _ _ oq).trans ei.out))),(by first|exact Yz oq|exact(Za _ _ _ oq).trans (Yz oq)|exact(Za _ _ _ oq).trans ((Za _ _ _ oq).trans (Yz oq))),(by first|exact Yz oq|exact(Za _ _ _ oq).trans (Yz oq)|exact(Za _ _ _ oq).trans ((Za _ _ _ oq).trans (Yz oq))),(by rw[←VI];exact(by first|exact Yz oq|exact(Za _ _ _ oq).trans (Yz oq)|exact(Za _ _ _ oq).trans ((Za _ _ _ oq).trans (Yz oq))))⟩⟩)))
 clear ep jy dp bg W1;rintro⟨t,bx⟩ W0 hcut;obtain⟨G,E,V,hd,H,h1,h2,h3,h6,h7,hN⟩:=hcut.out;clear hcut;simp only at hd H h1 h2 h3 h6 h7;subst hd;rw[yA H,h1,h2,h3,h6,h7];generalize slt t 0=u0,slt t 4=u4,slt t 5=u5,slt t 8=u8,slt t 9=u9,slt t 10=u10,slt t 11=u11,slt t 12=u12,slt t 13=u13,slt t 14=u14,slt t 15=u15,slt t 16=u16,slt t 17=u17,slt t 18=u18,slt t 19=u19,slt t 20=u20,slt t 21=u21,slt t 22=u22,slt t 23=u23,slt t 24=u24,slt t 25=u25,slt t 26=u26,slt t 27=u27,slt t 28=u28,slt t 29=u29,slt t 30=u30,slt t 31=u31,slt t 32=u32,slt t 33=u33,slt t 34=u34,slt t 35=u35,slt t 36=u36,slt t 37=u37,slt t 38=u38,slt t 39=u39,slt t 40=u40,slt t 41=u41,slt t 42=u42,slt t 43=u43,slt t 44=u44,slt t 45=u45,slt t 46=u46,slt t 47=u47,slt t 48=u48,slt t 49=u49,slt t 50=u50,slt t 51=u51,slt t 52=u52,slt t 53=u53,slt t 54=u54,slt t 55=u55,slt t 56=u56,slt t 57=u57,slt t 58=u58,slt t 59=u59,slt t 60=u60,slt t 61=u61,slt t 62=u62,slt t 63=u63,slt t 64=u64,slt t 65=u65,slt t 66=u66,slt t 67=u67,slt t 68=u68,slt t 69=u69,slt t 70=u70,slt t 71=u71,slt t 72=u72,slt t 73=u73,slt t 74=u74,slt t 75=u75,slt t 76=u76,slt t 77=u77,slt t 78=u78,slt t 79=u79,slt t 80=u80,slt t 81=u81,slt t 82=u82,slt t 83=u83,slt t 84=u84,slt t 85=u85,slt t 86=u86,slt t 87=u87,slt t 88=u88,slt t 89=u89,slt t 90=u90,slt t 91=u91,slt t 92=u92;clear H h1 h2 h3 h6 h7 t;have HN:=hid hN;clear hN;gi_wp2;refine wpIn_loop (fun a' wr=>Hid (∃(i:Nat)(ds:List Deferred)(v:Value),a'.defers=ds∧a'.tmps.size=93∧slt a'.tmps 2=.int .i64 u∧slt a'.tmps 3=.pointer (some ⟨w.heap.size,0,none⟩)∧slt a'.tmps 6=.pointer none∧slt a'.tmps 7=.pointer (some ⟨V,0,none⟩)∧slt a'.tmps 23=.slice ao no co∧slt a'.tmps 24=.int .i64 (no:Int)∧slt a'.tmps 25=.int .i64 (i:Int) ∧
  i≤no∧WnJ W0 wr E (.slice ai f.ins.length ci) (.slice an f.nods.length cn) (.slice aT T ct) (.slice al f.tells.length cl) (.int .i64 u) (.slice (some ⟨G,0,none⟩) T T) v ((J0 f (order.take i) u).map (mkJ f))∧Mk W0.heap.size wr.heap.size ds wr)) (fun a' _=>no-(intOf (slt a'.tmps 25)).toNat) ?start1 ?round1
 case start1=>exact hid ⟨0,_,_,rfl,rfl,rfl,rfl,rfl,rfl,rfl,rfl,rfl,Zk _,WnJ.start HN.out.box,Mk.nil _ _ _⟩
 rintro⟨t,bx⟩ wr hI;obtain⟨i,ds,v,h0,H,h2,h3,h6,h7,el,em,dj,hi,I,bg⟩:=hI.out;clear hI;simp only at h0 H h2 h3 h6 h7 el em dj;subst h0;have ch:(no-(intOf (slt (⟨t,bx⟩:Act).tmps 25)).toNat)=no-i:=by show no-(intOf (slt t 25)).toNat=_;rw[dj];simp[intOf]
 rw[ch];clear ch;rw[yA H,h2,h3,h6,h7,el,em,dj];generalize slt t 0=u0,slt t 1=u1,slt t 4=u4,slt t 5=u5,slt t 8=u8,slt t 9=u9,slt t 10=u10,slt t 11=u11,slt t 12=u12,slt t 13=u13,slt t 14=u14,slt t 15=u15,slt t 16=u16,slt t 17=u17,slt t 18=u18,slt t 19=u19,slt t 20=u20,slt t 21=u21,slt t 22=u22,slt t 26=u26,slt t 27=u27,slt t 28=u28,slt t 29=u29,slt t 30=u30,slt t 31=u31,slt t 32=u32,slt t 33=u33,slt t 34=u34,slt t 35=u35,slt t 36=u36,slt t 37=u37,slt t 38=u38,slt t 39=u39,slt t 40=u40,slt t 41=u41,slt t 42=u42,slt t 43=u43,slt t 44=u44,slt t 45=u45,slt t 46=u46,slt t 47=u47,slt t 48=u48,slt t 49=u49,slt t 50=u50,slt t 51=u51,slt t 52=u52,slt t 53=u53,slt t 54=u54,slt t 55=u55,slt t 56=u56,slt t 57=u57,slt t 58=u58,slt t 59=u59,slt t 60=u60,slt t 61=u61,slt t 62=u62,slt t 63=u63,slt t 64=u64,slt t 65=u65,slt t 66=u66,slt t 67=u67,slt t 68=u68,slt t 69=u69,slt t 70=u70,slt t 71=u71,slt t 72=u72,slt t 73=u73,slt t 74=u74,slt t 75=u75,slt t 76=u76,slt t 77=u77,slt t 78=u78,slt t 79=u79,slt t 80=u80,slt t 81=u81,slt t 82=u82,slt t 83=u83,slt t 84=u84,slt t 85=u85,slt t 86=u86,slt t 87=u87,slt t 88=u88,slt t 89=u89,slt t 90=u90,slt t 91=u91,slt t 92=u92;clear H h2 h3 h6 h7 el em dj t;have bc:=hid I;have eh:=hid bg;have ks:=I.but.size;have gk:=bs.out i hi;obtain⟨kd,gs,ke,ck,dz,cm⟩:=HN.out.ne;have gp:=Zb HN.out.bfb;have cg:=HN.out.bwb.lt;have gq:=I.lt;have gi:wr.heap[w.heap.size]?=_:=(I.but.block _ gp gs).trans HN.out.bfb;have gd:Boxed wr V 80 (.pointer (some ⟨E,0,none⟩)):=(I.but.block _ cg ck).trans HN.out.bwb;have aw:Below w.heap.size w wr:=HN.out.below.trans (I.but.below HN.out.below.size (fun k e=>by have:=HN.out.lo.2.2.1;omega));have cz:=hid gi;have HBW:=hid gd;have bt:=hid aw;clear I bg gi gd;by_cases ag:i<no
 ·obtain⟨bo,oo,rfl,kl,dn⟩:=(de.out.below ue aw).at (i:=i) (by rw[ak.out];exact ag);unfold Gp at dn;rw[Z8]at dn;have gw:=am.out (order[i]'(by rw[ak.out];exact ag)) (Zi _);obtain⟨k,hk⟩:∃k:Nat,order[i]'(by rw[ak.out];exact ag)=(k:Int):=⟨(order[i]'(by rw[ak.out];exact ag)).toNat,oq⟩;rw[hk]at dn gw;have et:=uV (f:=f) (u:=u) (show i<order.length by rw[ak.out];exact ag);rw[hk,ZQ]at et;have bl:=hid et;have ev:k<T:=oq;obtain⟨b,o,ad,cap,gc,hb,y0,y1,y2,y3,_⟩:=xA (dg.out.below zd aw) (i:=k) (by rw[ap.out];exact ev);have dm:=cy.out k (by rw[ap.out];exact ev);have jt:=bn.out k ev;obtain⟨ay,dt⟩:=ez (tkO f k);have ec:=hid (show QE f u k=Vh ay.per ay.ph u by unfold QE;rw[dt]);have eg:=hid (show ∀x:Nat,mkJ f (k,x)=⟨(k:Int),(x:Int),ay.ph+(x:Int)*ay.per,ay.ph+(x:Int)*ay.per+ay.per,none,0,0⟩ from fun x=>by unfold mkJ Jm;simp only;rw[dt]);rw[dt]at y0 y1 y2 y3 dm;obtain⟨node,R,ph,args⟩:=ay;simp only at y0 y1 y2 y3 dm ec eg;have ah:=hid dm;have i1:(i:Int)<(no:Int):=oq;have k0:(0:Int)≤(k:Int):=oq;have k1:(k:Int)<(T:Int):=oq;have fh:=hid (fun W=>Kt (w:=W) R ph u);obtain⟨⟨z0,z1,z2,z3⟩,zf⟩:=Yx cz.out;rw[gc]at z2;clear gc;have kr:=Zb cz.out;clear dt aw dm hk et gw;gi_wp2_with (refine⟨trivial,?_⟩;gi_at_call 65;refine(Zt.2 (fh.out _)).mono ?_;rintro e w2 ⟨rfl,hb2,dr,go,jc⟩;have HB2:=hid hb2;have fw:=hid dr;have fl:=hid (Zh go jc);clear hb2 dr go jc);clear y0 y1 y2 y3 z0 z1 z2 z3 zf dn;have hb2:=HB2.out;have dr:=fw.out;simp only[Zu]at dr;have bh:=fl.out;simp only[Zu]at bh ⊢;have es:Below wr.heap.size wr w2:=((Zg _ wr).alloc (Zc _) _).alloc (by simp) _ |>.trans (hb2.mono (by simp;omega))
  have q9:Boxed w2 wr.heap.size 3 (.int .i64 (k:Int)):=(hb2.block _ (by simp;omega)).trans ((Boxed.new wr 3 (.int .i64 (k:Int))).alloc _);have jh:K6 w2 (wr.heap.size+1) R ph:=(hb2.block _ (by simp)).trans (by have:=Yw (wr.alloc (.cells #[.int .i64 (k:Int)] 3)) (.cells #[.int .i64 R,.int .i64 ph] 62);simpa using this);have br:=hid (Zh (bc.out.below es) (Zh q9 (Zh jh (eh.out.below es))));have fx:=hid (World.ownsRow.lt bc.out.own);clear hb2 es q9 jh;refine xk (F:=Fence.wide) (gf:=108) (lb:=#[.pointer (some ⟨wr.heap.size+1+1,0,none⟩),.pointer (some ⟨wr.heap.size+1+1+1,0,none⟩)]) rfl oq rfl trivial (enters_of func108 kq rfl)
   (Ku R ph u ah.out hu (wr.heap.size+1+1) (wr.heap.size+1+1+1) _ w2 bh.1 bh.2) (fun h k=>h.trans k) (fun W l o o' _ h hc=>KD.putObj W l o o' h hc) (fun W W' h=>KD.of_below h) (fun _=>rfl)
   (fun pre W=>∃v',WnJ W0 W E (.slice ai f.ins.length ci) (.slice an f.nods.length cn) (.slice aT T ct) (.slice al f.tells.length cl) (.int .i64 u) (.slice (some ⟨G,0,none⟩) T T) v' ((J0 f (order.take i) u++XC k pre.length).map (mkJ f))∧Boxed W wr.heap.size 3 (.int .i64 (k:Int))∧K6 W (wr.heap.size+1) R ph∧Mk W0.heap.size wr.heap.size bx W∧(∀g,v'.ownBlock=some g→g<wr.heap.size∨w2.heap.size≤g)∧w2.heap.size≤W.heap.size)
   (fun s A B row hs hg hrw=>by
    obtain⟨v',g1,g2,g3,g4,g5,g6⟩:=hs;exact⟨v',g1.grown hg (fun r e=>⟨by have:=(hrw r e).1;omega,(hrw r e).2⟩),boxed_own _ _ (fun(_:Unit)=>Value.int .i64 (k:Int)) () A B row g2 hg (fun r e=>(hrw r e).2),Zbj g3 hg (fun r e=>(hrw r e).2),Mk.own (β:=Unit) (show wr.heap.size≤w2.heap.size by omega) () A B row g4 hg hrw,g5,Zm g6 hg.size⟩)
   (fun _ _ _=>trivial) ⟨v,by simpa [XC] using br.out.1,br.out.2.1,br.out.2.2.1,br.out.2.2.2,(fun g e=>.inl (fx.out g e).2),Zc _⟩
   (fun pre x a' _=>x=pre.length∧x<Vh R ph u∧a'.tmps.size=93∧slt a'.tmps 7=.pointer (some ⟨V,0,none⟩)∧slt a'.tmps 9=.pointer (some ⟨wr.heap.size,0,none⟩)∧slt a'.tmps 10=.pointer (some ⟨wr.heap.size+1,0,none⟩)∧slt a'.tmps 11=.int .i64 (x:Int)∧slt a'.tmps 12=.int .i64 (ph+(x:Int)*R)∧a'.defers=[])
   (fun pre x a' s A B row hs _ _=>hs) ?assign ?body ?done
  case assign =>
   rintro l pre x W K hi ⟨rfl,hx⟩ hK;gi_wp2;exact hK _ _ (Zg _ _) hi ⟨by simp,hx,by simp,by simp[slt],by simp[slt],by simp[slt],by simp[slt],by simp[slt],rfl⟩
  case body =>
   rintro l pre x ⟨t,d⟩ W hl hr ⟨v',g1,g2,g3,g4,g5,kj⟩ ⟨rfl,hx,H,s7,s9,s10,s11,s12,hd⟩;simp only at H s7 s9 s10 s11 s12 hd;subst hd;rw[yA H,s7,s9,s10,s11,s12];generalize slt t 0=u0,slt t 1=u1,slt t 2=u2,slt t 3=u3,slt t 4=u4,slt t 5=u5,slt t 6=u6,slt t 8=u8,slt t 13=u13,slt t 14=u14,slt t 15=u15,slt t 16=u16,slt t 17=u17,slt t 18=u18,slt t 19=u19,slt t 20=u20,slt t 21=u21,slt t 22=u22,slt t 23=u23,slt t 24=u24,slt t 25=u25,slt t 26=u26,slt t 27=u27,slt t 28=u28,slt t 29=u29,slt t 30=u30,slt t 31=u31,slt t 32=u32,slt t 33=u33,slt t 34=u34,slt t 35=u35,slt t 36=u36,slt t 37=u37,slt t 38=u38,slt t 39=u39,slt t 40=u40,slt t 41=u41,slt t 42=u42,slt t 43=u43,slt t 44=u44,slt t 45=u45,slt t 46=u46,slt t 47=u47,slt t 48=u48,slt t 49=u49,slt t 50=u50,slt t 51=u51,slt t 52=u52,slt t 53=u53,slt t 54=u54,slt t 55=u55,slt t 56=u56,slt t 57=u57,slt t 58=u58,slt t 59=u59,slt t 60=u60,slt t 61=u61,slt t 62=u62,slt t 63=u63,slt t 64=u64,slt t 65=u65,slt t 66=u66,slt t 67=u67,slt t 68=u68,slt t 69=u69,slt t 70=u70,slt t 71=u71,slt t 72=u72,slt t 73=u73,slt t 74=u74,slt t 75=u75,slt t 76=u76,slt t 77=u77,slt t 78=u78,slt t 79=u79,slt t 80=u80,slt t 81=u81,slt t 82=u82,slt t 83=u83,slt t 84=u84,slt t 85=u85,slt t 86=u86,slt t 87=u87,slt t 88=u88,slt t 89=u89,slt t 90=u90,slt t 91=u91,slt t 92=u92;clear H s7 s9 s10 s11 s12 t;have jv:=(Jl (u:=u) ah.out.1 pre.length).1 hx;have ex:=eg.out pre.length;have ju:0≤ph+(pre.length:Int)*R:=by have:=Int.mul_nonneg (show 0≤(pre.length:Int) by omega) (show 0≤R by have:=ah.out.1;omega);have:=ah.out.2.2.1;omega
   obtain⟨dd,ge⟩:=ez (ph+(pre.length:Int)*R);rw[ge]at jv ex ju ⊢;have km:=ah.out.1;have kn:=ah.out.2.1;rw[ec.out]at jt;have kf:IntKind.i64.wrap (dd+R)=dd+R:=ZK _ oq;have gm:((J0 f (order.take i) u++XC k pre.length).map (mkJ f)).length≤1000000:=by
    rw[Zo,Zx];have:(XC k pre.length).length=pre.length:=by simp[XC]
    omega
   have db:=hid (show(J0 f (order.take i) u++XC k (pre++[pre.length]).length).map (mkJ f)=(J0 f (order.take i) u++XC k pre.length).map (mkJ f)++[mkJ f (k,pre.length)] by rw[show(pre++[pre.length]).length=pre.length+1 by simp,ug,←List.append_assoc,ZU];rfl);rw[ex]at db;obtain⟨dl,gh⟩:=ez ((J0 f (order.take i) u++XC k pre.length).map (mkJ f));rw[gh]at g1 gm db;obtain⟨ja,cj,rfl⟩:=YI g1.own;obtain⟨N,hN⟩:=ez dl.length;obtain⟨cs,be⟩:=ez (dl.flatMap Qx);have bi:=g1.own;rw[hN,be]at bi;rw[hN]at g1 gm g5;have fo:=hid hN;have bp:=hid be;have bf:=X3 bi;have cc:Boxed W V 80 (.pointer (some ⟨E,0,none⟩)):=(g1.but.block _ cg ck).trans HN.out.bwb;obtain⟨⟨c0,c1,c2,c3,c4,c5,c6⟩,cf⟩:=Xf g1.box;have KS1:=hid (show S9 V E wr.heap.size (wr.heap.size+1) (k:Int) R W.drew from ⟨cc.cell,g2.cell,(YD g3).1.1⟩);have aa:=hid (fun(W':World)(h:∀b,(b=V∨b=wr.heap.size∨b=wr.heap.size+1)→W'.heap[b]?=W.heap[b]?)=>(show S9 V E wr.heap.size (wr.heap.size+1) (k:Int) R W' from Zd8 KS1.out (h _ (.inl rfl)) (h _ (.inr (.inl rfl))) (h _ (.inr (.inr rfl)))));have ab:∀b,(b=V∨b=wr.heap.size∨b=wr.heap.size+1)→b<W.heap.size∧b≠E∧(Value.slice ja N cj).ownBlock≠some b:=by
    rintro b (rfl|rfl|rfl)
    ·exact⟨cc.lt,ck,fun e=>by have:=bf _ e;omega⟩
    ·exact⟨oq,oq,fun e=>by have:=g5 _ e;omega⟩
    exact⟨oq,oq,fun e=>by have:=g5 _ e;omega⟩
   have KS2:=hid (fun(o:Obj)=>aa.out (W.alloc o).drew (fun b hb=>Za W o _ (ab b hb).1));have ea:=Zb g1.box;have I:∀g,(Value.slice ja N cj).ownBlock=some g→E≠g:=fun g e=>by have:=bf g e;omega
   obtain⟨i0,cd,aq,ar,au⟩:=info_parts ZdD;have aj:=hid (Zh cd (Zh aq (Zh ar au)));have bj:=hid g1;have da:=hid bi;have bk:=hid bf;have ae:=hid g5;have m:=hid ab;have dw:=hid I;have af:=hid (Zh g2 (Zh g3 g4));have kg:W0.heap.size≤W.heap.size:=g1.but.size;clear cd aq ar au g1 bi bf g5 c0 c1 c2 c3 c4 c6 cf g2 g3 g4 ge ex gh hN be cc ab I ak bl dg cy de HO am bs bn ap HN bc eh cz HBW bt br fx fl bh HB2 fw fh eg;gi_upto_region 9 with fail
   refine JB (S:=S9 V E wr.heap.size (wr.heap.size+1) (k:Int) R) kq kq (by rintro⟨_,_,h⟩;exact h) KS1.out (fun hHeld=>?_);refine tk 0 hHeld ?_;refine tk 1 hHeld ?_;refine tk 2 hHeld ?_;refine tk 3 hHeld ?_;refine tk 5 hHeld ?_;refine tk 6 hHeld ?_;refine tk 7 hHeld ?_;refine tk 8 hHeld ?_;refine tk 9 hHeld ?_;refine tk 10 hHeld ?_;refine tk 11 hHeld ?_;refine tk 12 hHeld ?_;refine rz 4 13 (fun K hK=>?_) fun K hK=>?_
   ·go_simp;refine hK.out _ _ (fun hHeld=>?_);clear hK K;refine ry 13 fun K hK=>?_
    go_simp;refine hK.out _ _ (fun hHeld=>?_);clear hK K;refine ry 14 fun K hK=>?_
    (refine step_append_lies _ (by rfl) _ _ _ (by rfl) W0.heap.size 43 i0 _ 5 56 underlying37 aj.out.1 aj.out.2.1 aj.out.2.2.1 aj.out.2.2.2 rfl oq (.slice ja N cj) N cs (by rfl) (own_below da.out bq) ⟨W.heap.size,0,none⟩ 1 1 [.int .i64 (k:Int),.int .i64 (pre.length:Int),.int .i64 dd,.int .i64 (dd+R),.slice none 0 0] (by rfl) (by rfl) (World.news_of_block (Zz _ _)) (by simp[Value.oneCell']) oq (by unfold maxLen;omega) oq (by simp;omega) (W.heap.size+1) (by simp) ?_;intro gg M w4 C z O ac;have j:But (fun b=>(Value.slice ja N cj).ownBlock=some b) W w4:=(But.of_below (bq:Below W.heap.size W _)).then (But.of_grown z) (fun i _ e=>e);have KS3:=hid (aa.out w4 (fun b hb=>j.block b (m.out b hb).1 (m.out b hb).2.2));have cw:=(j.block E ea (fun e=>dw.out E e rfl)).trans bj.out.box;obtain⟨⟨y0,y1,y2,y3,y4,y5,y6⟩,yf⟩:=Xf cw;have KS4:=hid (fun(v:Value)=>aa.out (w4.setCell ⟨E,5,none⟩ v) (fun b hb=>(Zr _ _ _ _ (fun e=>(m.out b hb).2.1 e)).trans (j.block b (m.out b hb).1 (m.out b hb).2.2)));have HB4:=hid j;have ba:=hid C;have az:=hid O;clear j C z O ac cw y0 y1 y2 y3 y4 y6)
    refine hK.out _ _ (fun hHeld=>?_);clear hK K;refine tk 15 hHeld ?_;refine tk 16 hHeld ?_;refine ry 17 fun K hK=>?_
    go_simp;refine hK.out _ _ (fun hHeld=>?_);clear hK K;refine Zy kq ?_ _;have bd:But (fun b=>(Value.slice ja N cj).ownBlock=some b∨b=E) W (w4.setCell ⟨E,5,none⟩ (.slice (some ⟨gg,0,none⟩) (N+1) M)):=(HB4.out.imp (fun _ _ e=>.inl e)).then (But.set (S:=fun b=>b=E) rfl _) (fun _ _ e=>.inr e);have ce:∀B,KeepsFrom B W (w4.setCell ⟨E,5,none⟩ (.slice (some ⟨gg,0,none⟩) (N+1) M)):=fun B=>V6 da.out HB4.out bj.out.box
    have gz:=HB4.out.size;exact⟨ce _,KD.of_but bd (by rintro (e|e)<;>first|(have:=ae.out _ e;omega)|omega) (by rintro (e|e)<;>first|(have:=ae.out _ e;omega)|omega),_,(by rw[db.out];exact bj.out.app (by rw[fo.out,bp.out];exact ba.out) HB4.out),(bd.block _ af.out.1.lt (by rintro (e|e)<;>first|(have:=ae.out _ e;omega)|omega)).trans af.out.1,(bd.block _ (Zb af.out.2.1) (by rintro (e|e)<;>first|(have:=ae.out _ e;omega)|omega)).trans af.out.2.1,af.out.2.2.from (ce _),(fun g e=>by have e2:gg=g:=(by injection e);subst e2;rcases az.out with e|e<;>first|exact ae.out _ e|exact .inr oq),by simp;omega⟩
   go_simp;refine hK.out _ _ (fun hHeld=>?_);clear hK K;refine ry 4 fun K hK=>?_
   go_simp;refine hK.out _ _ (fun hHeld=>?_);clear hK K;refine ry 14 fun K hK=>?_
   (refine step_append_lies _ (by rfl) _ _ _ (by rfl) W0.heap.size 43 i0 _ 5 56 underlying37 aj.out.1 aj.out.2.1 aj.out.2.2.1 aj.out.2.2.2 rfl oq (.slice ja N cj) N cs (by rfl) (own_below da.out bq) ⟨W.heap.size,0,none⟩ 1 1 [.int .i64 (k:Int),.int .i64 (pre.length:Int),.int .i64 dd,.int .i64 (dd+R),.slice none 0 0] (by rfl) (by rfl) (World.news_of_block (Zz _ _)) (by simp[Value.oneCell']) oq (by unfold maxLen;omega) oq (by simp;omega) (W.heap.size+1) (by simp) ?_;intro gg M w4 C z O ac;have j:But (fun b=>(Value.slice ja N cj).ownBlock=some b) W w4:=(But.of_below (bq:Below W.heap.size W _)).then (But.of_grown z) (fun i _ e=>e);have KS3:=hid (aa.out w4 (fun b hb=>j.block b (m.out b hb).1 (m.out b hb).2.2));have cw:=(j.block E ea (fun e=>dw.out E e rfl)).trans bj.out.box;obtain⟨⟨y0,y1,y2,y3,y4,y5,y6⟩,yf⟩:=Xf cw;have KS4:=hid (fun(v:Value)=>aa.out (w4.setCell ⟨E,5,none⟩ v) (fun b hb=>(Zr _ _ _ _ (fun e=>(m.out b hb).2.1 e)).trans (j.block b (m.out b hb).1 (m.out b hb).2.2)));have HB4:=hid j;have ba:=hid C;have az:=hid O;clear j C z O ac cw y0 y1 y2 y3 y4 y6)
   refine hK.out _ _ (fun hHeld=>?_);clear hK K;refine tk 15 hHeld ?_;refine tk 16 hHeld ?_;refine ry 17 fun K hK=>?_
   go_simp;refine hK.out _ _ (fun hHeld=>?_);clear hK K;refine Zy kq ?_ _;have bd:But (fun b=>(Value.slice ja N cj).ownBlock=some b∨b=E) W (w4.setCell ⟨E,5,none⟩ (.slice (some ⟨gg,0,none⟩) (N+1) M)):=(HB4.out.imp (fun _ _ e=>.inl e)).then (But.set (S:=fun b=>b=E) rfl _) (fun _ _ e=>.inr e);have ce:∀B,KeepsFrom B W (w4.setCell ⟨E,5,none⟩ (.slice (some ⟨gg,0,none⟩) (N+1) M)):=fun B=>V6 da.out HB4.out bj.out.box
   have gz:=HB4.out.size;exact⟨ce _,KD.of_but bd (by rintro (e|e)<;>first|(have:=ae.out _ e;omega)|omega) (by rintro (e|e)<;>first|(have:=ae.out _ e;omega)|omega),_,(by rw[db.out];exact bj.out.app (by rw[fo.out,bp.out];exact ba.out) HB4.out),(bd.block _ af.out.1.lt (by rintro (e|e)<;>first|(have:=ae.out _ e;omega)|omega)).trans af.out.1,(bd.block _ (Zb af.out.2.1) (by rintro (e|e)<;>first|(have:=ae.out _ e;omega)|omega)).trans af.out.2.1,af.out.2.2.from (ce _),(fun g e=>by have e2:gg=g:=(by injection e);subst e2;rcases az.out with e|e<;>first|exact ae.out _ e|exact .inr oq),by simp;omega⟩
  rintro D xs W hD rfl ⟨v',g1,g2,g3,g4,g5,g6⟩ hk;rw[List.length_range,←ec.out,←bl.out]at g1;gi_wp2;refine⟨hid ⟨i+1,_,v',rfl,by simp,by simp[slt],by simp[slt],by simp[slt],by simp[slt],by simp[slt],by simp[slt],by first|(simp[slt];done)|(simp[slt];go_num),ag,g1,g4.cons oq oq hk⟩,?_⟩;simp[slt,intOf];omega
 obtain rfl:i=no:=oq;have jb:order.take i=order:=by rw[←ak.out];exact ZS
 rw[jb]at bc gk;have I:=bc.out;obtain⟨ja,cj,rfl⟩:=YI I.own;obtain⟨N,hN⟩:=ez (((J0 f order u).map (mkJ f)).length);have ax:=I.own;rw[hN]at ax I;have jr:N≤1000000:=by rw[←hN,Zo];omega
 have jn:=hid (jQ HO.out cy.out N hN jr ax);have bf:=X3 ax;have fp:=hid (show ∀b,jaB ja=some b→∃cs t fr,wr.heap[b]?=some (.cells cs t fr) from fun b e=>by
  rcases ax.2 with ⟨e1,_⟩|⟨g,cap,cur,e1,_,hg,_⟩
  ·injection e1 with e1;subst e1;cases e
  injection e1 with e1;subst e1;injection e with e;subst e;exact⟨_,_,_,hg⟩)
 have bk:=hid (show ∀b,jaB ja=some b→W0.heap.size≤b from fun b e=>bf b (by cases ja with|none=>cases e|some a=>exact e));obtain⟨⟨c0,c1,c2,c3,c4,c5,c6⟩,cf⟩:=Xf I.box;have fz:=HBW.out.cell;have jo:=HBW.out.frozen;have i1:¬(i:Int)<(i:Int):=oq;have fy:=hid I.box;have fq:=hid (show wr.heap[G]?=some (.cells (List.replicate T (.slice none 0 0)).toArray 41 (0,0)) from(bc.out.but.block _ (Zb HN.out.row) (fun e=>cm e.symm)).trans HN.out.row);have Y:=hid (show E<W0.heap.size∧V<W0.heap.size∧G<W0.heap.size∧w.heap.size<W0.heap.size from ⟨gq,cg,Zb HN.out.row,gp⟩);have fs:=hid (show w.heap.size≤G∧w.heap.size≤E from ⟨HN.out.lo.2.2.2,HN.out.lo.2.2.1⟩);have jz:=I.but.size;have jk:=hid (fun(B:List (Nat×Nat))(hB:X6 f order u B)(q:Nat)(hq:q<B.length)=>show(B.getD q (0,0)).1<T from by rw[Zf,Ze hq,←ap.out];exact((hB.mem HO.out (t:=B[q].1) (n:=B[q].2)).1 (Zi hq)).1);clear I ax bf bc cz bs bn de dg am aw gk jb;clear c0 c1 c2 c3 c4 c6;gi_wp2_with (refine⟨trivial,?_⟩;gi_at_call 66;refine(Zt.2 jn.out).mono ?_;rintro e W3 ⟨rfl,⟨B,hB,jq,hJ⟩,hb3⟩;have HB:=hid hB;have cx:=hid jq;have HJ:=hid hJ;have HB3:=hid hb3;have jg:jaB ja≠some E:=(fun e=>by have h1:=bk.out E e;have h2:=Y.out.1;omega);have ka:jaB ja≠some V:=(fun e=>by have h1:=bk.out V e;have h2:=Y.out.2.1;omega);have fc:jaB ja≠some G:=(fun e=>by have h1:=bk.out G e;have h2:=Y.out.2.2.1;omega);have fd:Boxed W3 V 80 (.pointer (some ⟨E,0,none⟩)):=(hb3.block V HBW.out.lt ka).trans HBW.out;have jp:=fd.cell;have fe:=(hb3.block E (Zb fy.out) jg).trans fy.out;obtain⟨⟨e0,e1,e2,e3,e4,e5,e6⟩,ef⟩:=Xf fe;have ft:=hid fd;have fu:=hid fe;have jm:=hid ((hb3.block G (Zb fq.out) fc).trans fq.out);clear hB hJ hb3 e0 e1 e2 e3 e4 e6 fd fe);have gy:=HB3.out.size;have jl:=hid (eh.out.keep (W':=W3) (fun kk ob _ _ hk hc=>(HB3.out.block kk (Zb hk) (fun e=>by
  obtain⟨cs,t,fr,h1⟩:=fp.out kk e;rw[hk]at h1;injection h1 with h1
  subst h1
  cases hc)).trans hk))
 refine wpIn_loop (fun a' wx=>Hid (∃(q:Nat)(vs:List Value),a'.defers=bx∧a'.tmps.size=93∧slt a'.tmps 7=.pointer (some ⟨V,0,none⟩)∧slt a'.tmps 66=.slice ja N cj∧slt a'.tmps 67=.int .i64 (N:Int)∧slt a'.tmps 68=.int .i64 (q:Int)∧q≤N∧PlW W3 wx G T vs B q∧Mk W0.heap.size wr.heap.size bx wx)) (fun a' _=>N-(intOf (slt a'.tmps 68)).toNat) ?start2 ?round2
 case start2=>exact hid ⟨0,_,rfl,rfl,rfl,rfl,rfl,rfl,Zk _,PlW.start jm.out,jl.out⟩
 rintro⟨t,dx⟩ wx hI;obtain⟨q,vs,hd,H,h7,en,eo,dk,hq,bm,bg⟩:=hI.out;clear hI;simp only at hd H h7 en eo dk;subst hd;have ch:(N-(intOf (slt (⟨t,dx⟩:Act).tmps 68)).toNat)=N-q:=by show N-(intOf (slt t 68)).toNat=_;rw[dk];simp[intOf]
 rw[ch];clear ch;rw[yA H,h7,en,eo,dk];generalize slt t 0=u0,slt t 1=u1,slt t 2=u2,slt t 3=u3,slt t 4=u4,slt t 5=u5,slt t 6=u6,slt t 8=u8,slt t 9=u9,slt t 10=u10,slt t 11=u11,slt t 12=u12,slt t 13=u13,slt t 14=u14,slt t 15=u15,slt t 16=u16,slt t 17=u17,slt t 18=u18,slt t 19=u19,slt t 20=u20,slt t 21=u21,slt t 22=u22,slt t 23=u23,slt t 24=u24,slt t 25=u25,slt t 26=u26,slt t 27=u27,slt t 28=u28,slt t 29=u29,slt t 30=u30,slt t 31=u31,slt t 32=u32,slt t 33=u33,slt t 34=u34,slt t 35=u35,slt t 36=u36,slt t 37=u37,slt t 38=u38,slt t 39=u39,slt t 40=u40,slt t 41=u41,slt t 42=u42,slt t 43=u43,slt t 44=u44,slt t 45=u45,slt t 46=u46,slt t 47=u47,slt t 48=u48,slt t 49=u49,slt t 50=u50,slt t 51=u51,slt t 52=u52,slt t 53=u53,slt t 54=u54,slt t 55=u55,slt t 56=u56,slt t 57=u57,slt t 58=u58,slt t 59=u59,slt t 60=u60,slt t 61=u61,slt t 62=u62,slt t 63=u63,slt t 64=u64,slt t 65=u65,slt t 69=u69,slt t 70=u70,slt t 71=u71,slt t 72=u72,slt t 73=u73,slt t 74=u74,slt t 75=u75,slt t 76=u76,slt t 77=u77,slt t 78=u78,slt t 79=u79,slt t 80=u80,slt t 81=u81,slt t 82=u82,slt t 83=u83,slt t 84=u84,slt t 85=u85,slt t 86=u86,slt t 87=u87,slt t 88=u88,slt t 89=u89,slt t 90=u90,slt t 91=u91,slt t 92=u92;clear H h7 en eo dk t;have kt:=bm.but.size;have dy:Boxed wx V 80 (.pointer (some ⟨E,0,none⟩)):=(bm.but.block V ft.out.lt dz).trans ft.out;have eb:=(bm.but.block E (Zb fu.out) cm).trans fu.out;obtain⟨⟨c0,c1,c2,c3,c4,c5,c6⟩,cf⟩:=Xf eb;have fz:=dy.cell;have Z:=hid bm;have fn:=hid bg;have gn:=HJ.out.but bm.but (fun g e e2=>fc (by rw[←e2];exact e));have fk:=hid gn;have fg:=hid dy;have ej:=hid eb;clear bm bg gn c0 c1 c2 c3 c4 c5 jp jo e5 ef cf;by_cases ag:q<N
 ·have dq:q<B.length:=by rw[cx.out];exact ag
  obtain⟨g,gj,eu⟩:=fk.out.resolve_left (by rw[ZI,Zo,cx.out];omega);obtain⟨⟨y0,y1,y2,y3,y4⟩,_⟩:=eu.cell (i:=q) (by simpa using dq);have gr:(B.map (mkJ f)).toArray[q]! = mkJ f (B.getD q (0,0)):=by
   rw[getElem!_pos _ q (by simpa using dq)];simp[Zf,dq]
  rw[gr]at y0 y1 y2 y3 y4;have cq:=jk.out B HB.out q dq;obtain⟨bb,er⟩:=ez (B.getD q (0,0));rw[er]at y0 y1 y2 y3 y4 cq;obtain⟨U,nn⟩:=bb;have ff:=hid (show(B.getD q (0,0)).1=U by rw[er]);unfold mkJ at y0 y1 y2 y3 y4;simp only[ZD]at y0 y1 y2 y3 y4 cq;obtain⟨r1,gu⟩:=ez (Jm f (U,nn));rw[gu]at y2 y3;obtain⟨r2,gv⟩:=ez (r1+(tkO f U).per);rw[gv]at y3;have q1:(q:Int)<(N:Int):=oq;have q0:(0:Int)≤(q:Int):=oq;have kh:=hid (show ∀b,jaB ja=some b→b=g by rw[gj];intro b e;injection e with e;exact e.symm);have gl:=eu.lt;subst gj;clear eu gr er gu gv;gi_upto_region 15 with fail
  obtain⟨J,ca⟩:=ez (wx.alloc (.cells #[.int .i64 (U:Int),.int .i64 (nn:Int),.int .i64 r1,.int .i64 r2,.slice none 0 0] 43))
  first|rw[ca]|skip
  have hb5:Below wx.heap.size wx J:=by rw[←ca];exact(Zg _ _).alloc (Zc _) _
  have ko:wx.heap.size<J.heap.size:=by rw[←ca];simp
  have jf:J.heap[wx.heap.size]?=some (.cells #[.int .i64 (U:Int),.int .i64 (nn:Int),.int .i64 r1,.int .i64 r2,.slice none 0 0] 43 (0,0)):=by rw[←ca];exact Yw wx _
  clear ca y0 y1 y2 y3 y4 fz c6;obtain⟨v,hv,jd,je,cr⟩:=Z.out.at cq;have jx:(plP B q U).length≤1000000:=by
   have:(plP B q U).length≤q:=by unfold plP;rw[Zo];exact Zm (List.length_filter_le _ _) (by simp)
   omega
  obtain⟨L,hL⟩:=ez ((plP B q U).length);obtain⟨cs,be⟩:=ez (ints (plP B q U));rw[hL,be]at cr;rw[hL]at jx;have fm:=hid hL;have bp:=hid be;obtain⟨av,cv,rfl⟩:=YI cr;have kp:=hid (World.ownsRow.lt cr);have cb:=(hb5.block V fg.out.lt).trans fg.out;have cu:=(hb5.block E (Zb ej.out)).trans ej.out;have cp:J.heap[G]?=_:=(hb5.block G (Zb Z.out.row)).trans Z.out.row;have X:=hid (show V<J.heap.size∧E<J.heap.size∧G<J.heap.size∧wx.heap.size<J.heap.size from ⟨Zb cb,Zb cu,Zb cp,oq⟩);have ji:J.cell? ⟨G,U,none⟩=some (.slice av L cv):=(hb5.cell (p:=⟨G,U,none⟩) (Zb Z.out.row)).trans jd;have jj:J.frozen? ⟨G,U,none⟩=false:=(Z6 (a:=⟨G,U,none⟩) (hb5.block G (Zb Z.out.row))).trans je;obtain⟨⟨d0,d1,d2,d3,d4,d5,d6⟩,df⟩:=Xf cu;have KS1:=hid (show S15 V E wx.heap.size G T (U:Int) J.drew from ⟨Boxed.cell cb,d6,Z7 J.drew wx.heap.size 0 _ _ _ jf⟩);have aa:=hid (fun(W':World)(h:∀b,(b=V∨b=E∨b=wx.heap.size)→W'.heap[b]?=J.heap[b]?)=>(show S15 V E wx.heap.size G T (U:Int) W' from ZcF KS1.out (h _ (.inl rfl)) (h _ (.inr (.inl rfl))) (h _ (.inr (.inr rfl)))));have ki:=Y.out.2.2.1;have ab:∀b,(b=V∨b=E∨b=wx.heap.size)→b<J.heap.size∧b≠G∧(Value.slice av L cv).ownBlock≠some b:=by
   have fb:=Z.out.fam.block hv;have h1:=Y.out;rintro b (rfl|rfl|rfl)
   ·exact⟨X.out.1,dz,fun e=>by have:=fb _ e;omega⟩
   ·exact⟨X.out.2.1,cm,fun e=>by have:=fb _ e;omega⟩
   exact⟨X.out.2.2.2,oq,fun e=>by have:=fb _ e;omega⟩
  have gt:(Value.slice av L cv).ownBlock≠some G:=fun e=>by have:=Z.out.fam.block hv _ e;have:=Y.out;omega
  have KS2:=hid (fun(o:Obj)=>aa.out (J.alloc o).drew (fun b hb=>Za J o _ (ab b hb).1));have ku:∀o,(J.alloc o).cell? ⟨G,U,none⟩=some (.slice av L cv):=fun o=>(Zn (w:=J) (w':=J.alloc o) (a:=⟨G,U,none⟩) (Za J o _ X.out.2.2.1)).trans ji
  have di:=hid (own_below cr hb5);have dv:=hid cp;have du:=hid (fn.out.below hb5);have HV:=hid hv;have m:=hid ab;have dc:=hid gt;have dh:=hid (Zh ji jj);have HB5:=hid hb5;obtain⟨i0,cd,aq,ar,au⟩:=info_parts Vj;have HI:=hid (Zh cd (Zh aq (Zh ar au)));have t0:(0:Int)≤(U:Int):=oq;have t1:(U:Int)<(T:Int):=oq;have js:W3.heap.size≤J.heap.size:=oq;clear cd aq ar au hv jd je cr hL be cb cu cp ab gt jf hb5 d0 d1 d2 d3 d4 d5 d6 df jj;refine wpIn_wide.2 (wp_region_noPanic ?_);refine ZO (S:=S15 V E wx.heap.size G T (U:Int)) kq (by first|with_reducible exact KS1.out|with_reducible exact KS2.out _|with_reducible exact KS3.out|exact KS4.out _) (fun hHeld=>?_);refine tk 0 hHeld ?_;refine tk 1 hHeld ?_;refine tk 2 hHeld ?_;refine tk 3 hHeld ?_;refine tk 4 hHeld ?_;refine tk 5 hHeld ?_;refine tk 6 hHeld ?_;refine tk 7 hHeld ?_;refine tk 8 hHeld ?_;refine tk 9 hHeld ?_;refine tk 10 hHeld ?_;refine tk 11 hHeld ?_;refine tk 12 hHeld ?_;refine tk 14 hHeld ?_;refine rz 13 15 (fun K hK=>?_) fun K hK=>?_
  ·go_simp;refine hK.out _ _ (fun hHeld=>?_);clear hK K;refine ry 15 fun K hK=>?_
   go_simp;refine hK.out _ _ (fun hHeld=>?_);clear hK K;refine ry 16 fun K hK=>?_
   (refine step_append_lies _ (by rfl) _ _ _ (by rfl) W3.heap.size 3 i0 _ 1 8 underlying41 HI.out.1 HI.out.2.1 HI.out.2.2.1 HI.out.2.2.2 rfl oq (.slice av L cv) L cs (by rfl) (own_below di.out bq) ⟨J.heap.size,0,none⟩ 1 1 [.int .i64 (q:Int)] (by rfl) (by rfl) (World.news_of_block (Zz _ _)) (by simp[Value.oneCell']) oq (by unfold maxLen;omega) oq (by simp;omega) (J.heap.size+1) (by simp) ?_;intro gg M w4 C z O ac;have j:But (fun b=>(Value.slice av L cv).ownBlock=some b) J w4:=(But.of_below (bq:Below J.heap.size J _)).then (But.of_grown z) (fun i _ e=>e);have KS3:=hid (aa.out w4 (fun b hb=>j.block b (m.out b hb).1 (m.out b hb).2.2));have kb:=(Zn (w:=J) (w':=w4) (a:=⟨G,U,none⟩) (j.block G X.out.2.2.1 dc.out)).trans dh.out.1;have kc:=(Z6 (w:=J) (w':=w4) (a:=⟨G,U,none⟩) (j.block G X.out.2.2.1 dc.out)).trans dh.out.2;have KS4:=hid (fun(v:Value)=>aa.out (w4.setCell ⟨G,U,none⟩ v) (fun b hb=>(Zr _ _ _ _ (fun e=>(m.out b hb).2.1 e)).trans (j.block b (m.out b hb).1 (m.out b hb).2.2)));have HB4:=hid j;have ba:=hid C;have az:=hid O;clear j C z O ac)
   refine hK.out _ _ (fun hHeld=>?_);clear hK K;refine tk 17 hHeld ?_;refine ry 18 fun K hK=>?_
   go_simp;refine hK.out _ _ (fun hHeld=>?_);clear hK K;refine Zy kq ?_ _;refine NoPanic.normal ?_;have bv:=hid (Z.out.app cq ff.out HV.out ((But.of_below HB5.out).then HB4.out (fun _ _ e=>e)) (by rw[fm.out,bp.out];exact ba.out) (fun k2 e=>by have e2:gg=k2:=(by injection e);subst e2;rcases az.out with e|e<;>first|exact .inl e|exact .inr oq));have bu:=hid (du.out.from (V6 (o:=U) (v':=.slice (some ⟨gg,0,none⟩) (L+1) M) di.out HB4.out dv.out));gi_wp2;refine⟨hid ⟨q+1,vs.set U (.slice (some ⟨gg,0,none⟩) (L+1) M),by simp,by simp,by simp[slt],by simp[slt],by simp[slt],by first|(simp[slt];done)|(simp[slt];go_num),ag,bv.out,bu.out⟩,?_⟩;simp[slt,intOf];omega
  go_simp;refine hK.out _ _ (fun hHeld=>?_);clear hK K;refine ry 13 fun K hK=>?_
  go_simp;refine hK.out _ _ (fun hHeld=>?_);clear hK K;refine ry 16 fun K hK=>?_
  (refine step_append_lies _ (by rfl) _ _ _ (by rfl) W3.heap.size 3 i0 _ 1 8 underlying41 HI.out.1 HI.out.2.1 HI.out.2.2.1 HI.out.2.2.2 rfl oq (.slice av L cv) L cs (by rfl) (own_below di.out bq) ⟨J.heap.size,0,none⟩ 1 1 [.int .i64 (q:Int)] (by rfl) (by rfl) (World.news_of_block (Zz _ _)) (by simp[Value.oneCell']) oq (by unfold maxLen;omega) oq (by simp;omega) (J.heap.size+1) (by simp) ?_;intro gg M w4 C z O ac;have j:But (fun b=>(Value.slice av L cv).ownBlock=some b) J w4:=(But.of_below (bq:Below J.heap.size J _)).then (But.of_grown z) (fun i _ e=>e);have KS3:=hid (aa.out w4 (fun b hb=>j.block b (m.out b hb).1 (m.out b hb).2.2));have kb:=(Zn (w:=J) (w':=w4) (a:=⟨G,U,none⟩) (j.block G X.out.2.2.1 dc.out)).trans dh.out.1;have kc:=(Z6 (w:=J) (w':=w4) (a:=⟨G,U,none⟩) (j.block G X.out.2.2.1 dc.out)).trans dh.out.2;have KS4:=hid (fun(v:Value)=>aa.out (w4.setCell ⟨G,U,none⟩ v) (fun b hb=>(Zr _ _ _ _ (fun e=>(m.out b hb).2.1 e)).trans (j.block b (m.out b hb).1 (m.out b hb).2.2)));have HB4:=hid j;have ba:=hid C;have az:=hid O;clear j C z O ac)
  refine hK.out _ _ (fun hHeld=>?_);clear hK K;refine tk 17 hHeld ?_;refine ry 18 fun K hK=>?_
  go_simp;refine hK.out _ _ (fun hHeld=>?_);clear hK K;refine Zy kq ?_ _;refine NoPanic.normal ?_;have bv:=hid (Z.out.app cq ff.out HV.out ((But.of_below HB5.out).then HB4.out (fun _ _ e=>e)) (by rw[fm.out,bp.out];exact ba.out) (fun k2 e=>by have e2:gg=k2:=(by injection e);subst e2;rcases az.out with e|e<;>first|exact .inl e|exact .inr oq));have bu:=hid (du.out.from (V6 (o:=U) (v':=.slice (some ⟨gg,0,none⟩) (L+1) M) di.out HB4.out dv.out));gi_wp2;refine⟨hid ⟨q+1,vs.set U (.slice (some ⟨gg,0,none⟩) (L+1) M),by simp,by simp,by simp[slt],by simp[slt],by simp[slt],by first|(simp[slt];done)|(simp[slt];go_num),ag,bv.out,bu.out⟩,?_⟩;simp[slt,intOf];omega
 obtain rfl:q=N:=oq;have q1:¬(q:Int)<(q:Int):=oq;have fi:=hid (show QI wx f ai an aT al ci cn ct cl u E G T ja cj B (B.map (mkJ f)).toArray from by
  have H:(B.map (mkJ f)).toArray.size=B.length:=by simp
  refine⟨by rw[H,cx.out,ap.out];exact ej.out,jg,fk.out,fun W2 h2=>?_,H⟩;rw[ap.out,cx.out];refine Z.out.done (S:=fun b=>jaB ja=some b) (fun kk hk=>⟨?_,fun e=>fc (by rw[←e];exact hk)⟩) h2;obtain⟨cs,t,fr,h1⟩:=fp.out kk hk;exact Zd (Zb h1) gy)
 have ee:=hid (show Below w.heap.size w wx from by
  have h1:=bt.out.size;have h2:=fs.out;have h3:=Y.out;exact(bt.out.trans (HB3.out.below h1 (fun kk hk=>by have:=bk.out kk hk;omega))).trans (Z.out.but.below oq (fun kk e=>oq)))
 have fj:=hid (show ∀b,jaB ja=some b→w.heap.size≤b from fun b e=>by have:=bk.out b e;have:=Y.out;omega);gi_wp2;refine fn.out.leaves (fun W' hW'=>⟨.pointer (some ⟨E,0,none⟩),?_,?_⟩)
 ·simp only[results,results24];go_simp
 exact⟨E,G,ja,cj,B,rfl,HB.out,(by rw[ap.out];exact fi.out.mk' hW'),ee.out.trans (hW'.below.mono (by have:=HN.out.below.size;omega)),fj.out⟩
end Go.Proofs.YtgigilkpndhddaaGreatDoor.syn
