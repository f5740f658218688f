/- Parts of the proof. -/
import Derived.Test.YtdgifkjaflfdeaaGreatDoorJ43
set_option linter.all false
set_option maxRecDepth 100000
set_option maxHeartbeats 16000000
namespace Go.Proofs.YtdgifkjaflfdeaaGreatDoor.syn
open Tryz
open Go.RowKit Go.Sort Go.Shelf
attribute [local go_sem] ZT
variable {w:World}{f:FD}{order:List Int}{u:Int}{B:List (Nat × Nat)}
def RB'(ja:Option Addr)(N:Nat)(W:World):Prop:=N=0\/∃g d,ja=some ⟨g,0,none⟩/\JH W g 0 d/\d.size=N
def ZfU(ja:Option Addr)(N:Nat)(pre:List (Nat × YK))(x:Nat × YK)(W:World):Prop:=pre.length<N/\x.1=N-1-pre.length/\∃g d,ja=some ⟨g,0,none⟩/\JH W g 0 d/\d.size=N/\x.2=d[x.1]!
def jvs(x:Nat × YK):Array Value:=#[.int .i64 (x.1:Int),.agg #[.int .i64 x.2.t,.int .i64 x.2.n,.int .i64 x.2.r,.int .i64 x.2.d,.slice x.2.na x.2.nl x.2.nc]]
theorem Zca(U:Option Addr)(cj N:Nat)(hN:N<=1000000)(f n l:Nat)(J:List (Nat × YK)->World->Prop)(W:World)(hJ:OwnFrom W.1.size J)(hR:∀pre W1,J pre W1->RB' U N W1)
  (hY:∀m pre x W1,J pre W1->ZfU U N pre x W1->YieldAt Fence.wide m prog l (jvs x) W1 fun e W'=>e=.returned (.bool true)/\J (pre++[x]) W'/\KD f f W1 W')
  (hb1:Boxed W f 59 (.slice U N cj))(h0:J [] W) :
  CallsIn Fence.wide n prog 177 #[.func (.yield l) #[] #[],.pointer (some ⟨f,0,none⟩)] W fun e W'=>(∃v,e=.returned v)/\∃xs,xs.length=N/\J xs W':=by
 have HY:=hid hY;have HR:=hid hR;have HB1:=hid hb1;have X:=hid h0;have I:=hb1.cell;have v0:IntKind.i64.wrap ((N:Int)-1)=(N:Int)-1:=ZK _ oq;clear hY hR hb1 h0 hJ;refine callsIn_of_wp func177 rfl trivial ?_ rfl;simp only[ntmps177,ZI,Zp,Zw,Nat.reduceAdd,Nat.reduceSub,ZF,ZE,ZL,ZJ,ZM,ZC];gi_wp2;clear I;gi_loopw [3] (fun v wr=>Hid (∃(k:Nat)(C:List (Nat × YK)),v=.int .i64 ((k:Int)-1)/\k<=N/\C.length+k=N/\J C wr/\KD f f W wr)) (fun i _=>(intOf i+1).toNat)
 case atStart=>exact⟨N,[],by first|rfl|(rw[v0])|(go_num;rw[v0]),Zc _,by simp,X.o,KD.refl _ _ _⟩
 obtain⟨k,C,hv,hk,T,hj,A⟩:=hrel.o;clear hrel;have H:Boxed wr f 59 (.slice U N cj):=A f (.inl rfl) _ HB1.o rfl;have I:=H.cell;have HK:=hid A;have D:=hid hj;have q:=hid T;have R:=HR.o _ _ hj;clear A hj T H
 cases k with
 | zero =>
  obtain rfl:=hv;have V:((0:Nat):Int)-1=-1:=rfl
  try rw[V]
  clear R;gi_wp2;go_end0;exact⟨⟨_,rfl⟩,C,by have:=q.o;omega,D.o⟩
 | succ j =>
  have V:((j+1:Nat):Int)-1=(j:Int):=oq;rw[V] at hv;obtain rfl:=hv;clear V;obtain⟨g,d,M,y,L⟩:=R.resolve_left oq;obtain⟨⟨y0,y1,y2,y3,y4⟩,_⟩:=y.cell (i:=j) oq;have ab:=q.o;have E:=hid (show ZfU U N C (j,d[j]!) wr from ⟨oq,by show j=_;omega,g,d,M,y,L,rfl⟩);obtain⟨z,hz⟩:∃z,d[j]! = z:=⟨_,rfl⟩;rw[hz] at y0 y1 y2 y3 y4 E;obtain⟨z0,z1,z2,z3,z4,z5,z6⟩:=z;simp only[ZD] at y0 y1 y2 y3 y4;obtain⟨fn,ac,assign,body,hy,G⟩:=HY.o (n-1) C _ wr D.o E.o;unfold jvs at hy;simp only at hy;have aa:=hid G;have j0:(0:Int)<=(j:Int):=oq;have j1:(j:Int)<(N:Int):=oq;subst M;clear y L hz G ab;gi_wp2;refine⟨(fun h=>by cases h),aa.o.mono ?_⟩;rintro e W1 ⟨rfl,F,O⟩;have Y:=hid F;have Z:=hid (HK.o.trans O);clear F O;gi_wp2;go_roundw
  case rel=>exact⟨j,C++[_],by go_num,oq,by have:=q.o;simp;omega,Y.o,Z.o⟩
  first|(simp[intOf];done)|(simp[intOf];omega)
theorem ZaD(ja:Option Addr)(cj N:Nat)(hN:N<=1000000)(b1 n:Nat)(w:World)(hb1:Boxed w b1 59 (.slice ja N cj)) :
  Zem Fence.wide n prog 177 #[.pointer (some ⟨b1,0,none⟩)] jvs (RB' ja N) (ZfU ja N) (KD b1 b1) (fun xs=>xs.length=N) w:=fun l J W hW hJ hR hY h0 =>
 Zca ja cj N hN b1 n l J W hJ hR (fun m pre x W1 hj ho=>YieldAt.deep rfl m (hY pre x W1 hj ho)) ((hW.block _ hb1.lt).trans hb1) h0
theorem ZaC(a:Option Addr)(n c:Nat):Calls prog 114 #[.slice a n c] w fun e w'=>e=.returned (.func (.func 177) #[] #[.pointer (some ⟨w.1.size,0,none⟩)])/\w'=w.alloc (.cells #[.slice a n c] 59):=by
 go_enter func114,ntmps114;go_wp2;go_ret;exact⟨rfl,rfl⟩
attribute [local go_sem] ZT
theorem Zf1{t:Array Value}(h:t.size=47):t=#[slt t 0,slt t 1,slt t 2,slt t 3,slt t 4,slt t 5,slt t 6,slt t 7,slt t 8,slt t 9,slt t 10,slt t 11,slt t 12,slt t 13,slt t 14,slt t 15,slt t 16,slt t 17,slt t 18,slt t 19,slt t 20,slt t 21,slt t 22,slt t 23,slt t 24,slt t 25,slt t 26,slt t 27,slt t 28,slt t 29,slt t 30,slt t 31,slt t 32,slt t 33,slt t 34,slt t 35,slt t 36,slt t 37,slt t 38,slt t 39,slt t 40,slt t 41,slt t 42,slt t 43,slt t 44,slt t 45,slt t 46]:=J4 h
theorem Zdp{an:Option Addr}(h:Row NdR 10 w f.nods an){k:Nat}(j:k<f.nods.length):∃b o,an=some ⟨b,o,none⟩/\b<w.1.size/\w.cell? ⟨b,o+k*10+2,none⟩=some (.int .i64 f.nods[k].bud):=by
 obtain⟨b,o,rfl,hb,E,F,G,C,m,D,v,x,el,y,q,a,z,A,g,_⟩:=h.at j;exact⟨b,o,rfl,hb,g⟩
def S3(bw wb b3 bt ot t bn on k:Nat)(nN cn T ct:Nat)(bud:Int)(w':World):Prop:=w'.cell? ⟨bw,0,none⟩=some (.pointer (some ⟨wb,0,none⟩))/\w'.cell? ⟨wb,1,none⟩=some (.slice (some ⟨bn,on,none⟩) nN cn)/\w'.cell? ⟨wb,2,none⟩=some (.slice (some ⟨bt,ot,none⟩) T ct)/\w'.cell? ⟨b3,0,none⟩=some (.int .i64 (t:Int))/\w'.cell? ⟨bt,ot+t*4,none⟩=some (.int .i64 (k:Int))/\w'.cell? ⟨bn,on+k*10+2,none⟩=some (.int .i64 bud)
theorem Zdl(f:FD)(B:List (Nat × Nat))(i:Nat):(YR f B i).length<=(tkO f (B.getD i (0,0)).1).args.length:=by
 unfold YR;have h:=Q6 ((VD f B i).mergeSort (fun x y=>decide (x<=y)));rw[List.length_mergeSort] at h;have g:(VD f B i).length<=(tkO f (B.getD i (0,0)).1).args.length:=List.length_filterMap_le _ _;omega
def ZfN(w:World)(f:FD)(ai an aT al:Option Addr)(ci cn ct cl:Nat)(u:Int)(wb pb cp:Nat)(ja:Option Addr)(cj:Nat)(B:List (Nat × Nat))(d:Array YK)(e:Ending)(w':World):Prop :=
 e=.returned (.tuple #[])/\QN w' f ai an aT al ci cn ct cl u wb pb cp ja cj B (adjN f B d B.length)/\But (fun b=>jaB ja=some b) w w'
def Zhx(W:World)(b:Nat)(x:YK):Prop:=W.1[b]?=some (.cells #[.int .i64 x.t,.int .i64 x.n,.int .i64 x.r,.int .i64 x.d,.slice x.na x.nl x.nc] 128 (0,0))
theorem qE{wS w:World}(f:FD)(ai an aT al:Option Addr)(ci cn ct cl:Nat)(hf:FAP wS f ai an aT al)(ak:RowKit.Below wS.1.size wS w)(hr:RgF f)(order:List Int)(ho:YQ f order)(u:Int)(B:List (Nat × Nat))(hB:Xg f order u B)(O pb cp:Nat)(ja:Option Addr)(cj:Nat)
  (de:∀b,jaB ja=some b->wS.1.size<=b)(d:Array YK)(hw:QN w f ai an aT al ci cn ct cl u O pb cp ja cj B d)(hN:B.length<=1000000)
  (af:∀k,k<B.length->d[k]!.t=((B.getD k (0,0)).1:Int))(aa:∀k,k<B.length->d[k]!.nl=(YR f B k).length/\∀W',BC (fun b=>jaB ja=some b) w W'->Row KG 1 W' (YR f B k) d[k]!.na)(dc:DB 0 d) :
  Calls prog 50 #[.pointer (some ⟨O,0,none⟩)] w (ZfN w f ai an aT al ci cn ct cl u O pb cp ja cj B d):=by
 have br:=hf.lens;have ar:=hw.sz;have cr:=hid (fun(W:World) (h1:RowKit.Below wS.1.size wS W)=>hf.tasks.below zL h1);have co:=hid (fun(W:World) (h1:RowKit.Below wS.1.size wS W)=>hf.nods.below ZfF h1);have ab:=hid (DB.adjN hB ho hr ar dc);have bh:=hid aa;have bg:=hid (fun i (hi:i<B.length) (x:Int) (hx:x∈YR f B i)=>Kj hB ho hr hi hx);have bc:=hid (fun i (hi:i<B.length)=>eG hB ho hr hi);have bj:=hid (fun i (hi:i<B.length)=>(show ∃t k:Nat,(B.getD i (0,0)).1=t/\d[i]!.t=(t:Int)/\t<f.tasks.length/\(tkO f t).node=(k:Int)/\∃h:k<f.nods.length,xt f B i=f.nods[k].bud from by
  have hb:B[i]?=some (B.getD i (0,0)):=by rw[Zf,Ze hi];rfl
  have ht:=af i hi;have cz:xt f B i=(f.nods.getD (tkO f (B.getD i (0,0)).1).node.toNat ⟨0,0⟩).bud:=rfl;obtain⟨⟨t,n⟩,ag⟩:=ez (B.getD i (0,0));rw[ag] at hb ht cz;rw[ag];have hm:=(hB.mem ho).1 (Z9 hb);obtain⟨k,h1,h2,_⟩:=hr.node t hm.1;refine⟨t,k,rfl,ht,hm.1,h1,h2,?_⟩;rw[cz,h1,ZQ,Zf,Ze h2];rfl))
 have ds:=hid (fun t (ht:t<f.tasks.length)=>(show(tkO f t).args.length<=1000 from by rw[<-Vy ht];exact(hf.args _ (Zi ht)).1));have cd:=hid (show 0<B.length->∀b,jaB ja=some b->b<w.1.size from fun h0 b e=>by
  obtain⟨g,e2,hj⟩:=hw.jobs.resolve_left oq;subst e2;injection e with e
  subst e;exact hj.lt)
 have cq:=hid (fun k=>Qr f B d k);have dx:=hid de;have ch:=hid ak;have HW:=hid hw;have dj:=ak.size;obtain⟨N,bm⟩:=ez B.length;have ap:=hid bm;rw[bm] at hN ar ab bh bg bc bj cd;clear hf ak hr ho hB de hw br bm af aa dc;refine(Zt (n:=6)).1 ?_;refine callsIn_of_wp_marks func50 rfl trivial ?_ rfl;simp only[ntmps50,ZI,Zp,Zw,Nat.reduceAdd,Nat.reduceSub,ZF,ZE,ZL,ZJ,ZM,ZC];gi_upto_region 1 with fail
 obtain⟨W0,ac⟩:=ez (w.alloc (.cells #[.pointer (some ⟨O,0,none⟩)] 122));have bo:RowKit.Below w.1.size w W0:=by rw[<-ac];exact bq
 have eu:w.1.size<W0.1.size:=by rw[<-ac];simp
 have bw:Boxed W0 w.1.size 122 (.pointer (some ⟨O,0,none⟩)):=by rw[<-ac];exact Boxed.new _ _ _
 rw[ac];clear ac;have bk:=hid (HW.o.below bo);obtain⟨⟨c0,c1,c2,c3,c4,c5,c6⟩,cf⟩:=Xj bk.o.box;rw[ar] at c5;have cx:=bw.cell;have bl:=hid bw;have ax:=hid (But.of_below (S:=fun b=>jaB ja=some b) bo);clear c0 c1 c2 c3 c4 c6 cf bw bo;gi_wp2_with (refine⟨trivial,?_⟩;gi_at_call 114;refine(Zt.2 (ZaC _ _ _)).mono ?_;rintro e w' ⟨rfl,rfl⟩);clear c5 cx;obtain⟨W2,ae⟩:=ez (W0.alloc (.cells #[.slice ja N cj] 59));have hb2:RowKit.Below W0.1.size W0 W2:=by rw[<-ae];exact bq
 have ev:W0.1.size<W2.1.size:=by rw[<-ae];simp
 have dr:Boxed W2 W0.1.size 59 (.slice ja N cj):=by rw[<-ae];exact Boxed.new _ _ _
 rw[ae];clear ae;have dy:=hid (Zh (bk.o.below hb2) (Zh ((hb2.block _ bl.o.lt).trans bl.o) (ax.o.then (But.of_below (S:=fun _=>False) hb2) (fun _ _ e=>e.elim))));have ed:=hid dr;clear hb2 dr bk bl ax;refine zm (F:=Fence.wide) (gf:=177) (lb:=#[.pointer (some ⟨W0.1.size,0,none⟩)]) rfl oq rfl trivial (enters_of func177 kq rfl)
  (ZaD ja cj N hN W0.1.size _ W2 ed.o) (fun h k=>h.trans k) (fun W l o o' _ h hc=>KD.putObj W l o o' h hc) (fun W W' h=>KD.of_below h) (fun _=>rfl)
  (fun pre W=>QN W f ai an aT al ci cn ct cl u O pb cp ja cj B (adjN f B d pre.length)/\Boxed W w.1.size 122 (.pointer (some ⟨O,0,none⟩))/\But (fun b=>jaB ja=some b) w W)
  (fun s A C row hs hg hrw=>by
   obtain⟨X,g2,g3⟩:=hs;exact⟨X.bcE (Ex hg (fun r e=>(hrw r e).2)),boxed_own _ _ (fun(_:Unit)=>Value.pointer (some ⟨O,0,none⟩)) () A C row g2 hg (fun r e=>(hrw r e).2),g3.then (But.of_grown hg) (fun k hk e=>by have:=(hrw k e).1;omega)⟩)
  (fun pre W h=>by
   by_cases h0:N=0
   .exact .inl h0
   have hz:=h.1.sz;rw[ap.o] at hz;obtain⟨g,h1,h2⟩:=h.1.jobs.resolve_left oq;exact .inr ⟨g,_,h1,h2,hz⟩) dy.o
  (fun pre y a' W=>(pre.length<N/\y.1=N-1-pre.length/\y.2=(adjN f B d pre.length)[N-1-pre.length]!)/\∃b3,w.1.size<=b3/\Zhx W b3 y.2/\a'.tmps.size=47/\slt a'.tmps 1=.pointer (some ⟨w.1.size,0,none⟩)/\slt a'.tmps 3=.pointer (some ⟨b3,0,none⟩)/\a'.defers=[])
  (fun pre y a' s A C row hs hg hrw=>by
   obtain⟨h1,b3,h2,h3,h4⟩:=hs;exact⟨h1,b3,h2,XH h3 hg (fun r e=>(hrw r e).2),h4⟩) ?assign ?body ?done
 case assign =>
  rintro l pre ⟨i,y⟩ W K hi ⟨hx,I,g,d',G,Z,ep,hy⟩ hK;simp only at I hy;have ej:=hi.1.sz;rw[ap.o] at ej;obtain⟨g2,q,bb⟩:=hi.1.jobs.resolve_left oq;rw[G] at q;injection q with q
  injection q with q
  subst q;have z:y=(adjN f B d pre.length)[N-1-pre.length]!:=by rw[hy,<-I];exact Z.inj bb oq oq
  have ee:=hid z;have be:=hid hi;have eh:=hi.2.2.size;clear hy z Z bb hi G;obtain⟨y0,y1,y2,y3,y4,y5,y6⟩:=y;unfold jvs;simp only;gi_wp2;exact hK _ _ ((RowKit.Below.refl _ _).alloc (Zc _) _) ⟨be.o.1.below ((RowKit.Below.refl _ _).alloc (Zc _) _),be.o.2.1.alloc _,be.o.2.2.then (But.of_below (S:=fun _=>False) ((RowKit.Below.refl _ _).alloc (Zc _) _)) (fun _ _ e=>e.elim)⟩ ⟨⟨hx,I,ee.o⟩,W.1.size,eh,Yx W _,by simp,by simp[slt],by simp[slt],rfl⟩
 case body =>
  rintro l pre ⟨i,y⟩ ⟨t,dd⟩ W hl hr ⟨X,g2,g3⟩ ⟨⟨hx,I,z⟩,b3,hb3,av,L,s1,s3,hd⟩;simp only at L s1 s3 hd I z;subst hd;rw[Zf1 L,s1,s3];generalize slt t 0=u0,slt t 2=u2,slt t 4=u4,slt t 5=u5,slt t 6=u6,slt t 7=u7,slt t 8=u8,slt t 9=u9,slt t 10=u10,slt t 11=u11,slt t 12=u12,slt t 13=u13,slt t 14=u14,slt t 15=u15,slt t 16=u16,slt t 17=u17,slt t 18=u18,slt t 19=u19,slt t 20=u20,slt t 21=u21,slt t 22=u22,slt t 23=u23,slt t 24=u24,slt t 25=u25,slt t 26=u26,slt t 27=u27,slt t 28=u28,slt t 29=u29,slt t 30=u30,slt t 31=u31,slt t 32=u32,slt t 33=u33,slt t 34=u34,slt t 35=u35,slt t 36=u36,slt t 37=u37,slt t 38=u38,slt t 39=u39,slt t 40=u40,slt t 41=u41,slt t 42=u42,slt t 43=u43,slt t 44=u44,slt t 45=u45,slt t 46=u46;clear L s1 s3 t;have au:i<N:=oq;obtain⟨t,k,cy,dm,dl,di,eg,R⟩:=bj.o i au;have ag:=bc.o i au;rw[R] at ag;obtain⟨dk,ah⟩:=ez (adjN f B d pre.length);rw[ah] at X z;have bu:Qx d dk:=by rw[<-ah];exact cq.o pre.length
  have ay:DB pre.length dk:=by rw[<-ah];exact ab.o pre.length oq
  have aj:dk.size=N:=by rw[bu.1];exact ar
  rw[<-I] at z;obtain⟨y0,y1,y2,y3,y4,y5,y6⟩:=y;obtain⟨m0,m1,m2,m3,m4,m5⟩:=bu.2 i;have aa:=bh.o i au;have bx:=ay i oq;rw[<-z] at m0 m1 m2 m3 m4 m5 bx;simp only at m0 m3 m4 bx;rw[dm] at m0;rw[aa.1] at m4;have v:=aa.2;rw[<-m3] at v;subst m0;have H:=Zdl f B i;rw[cy] at H;have ef:=ds.o t dl;obtain⟨E,U⟩:=ez (YR f B i);rw[U] at H;have am:=bg.o i au;rw[U] at m4 v am;obtain⟨M,hM⟩:=ez E.length;rw[hM] at m4 H;have eo:M<=1000:=oq;clear H ef;replace m4:=m4.symm;subst m4;obtain⟨j,bp⟩:∃j,f.nods[k].bud=j:=⟨_,rfl⟩;rw[bp] at ag R;have bz:=hid (show adjN f B d (pre++[(i,(⟨(t:Int),y1,y2,y3,y4,M,y6⟩:YK))]).length=bringL (y3-j) dk E from by
   have e1:(pre++[(i,(⟨(t:Int),y1,y2,y3,y4,M,y6⟩:YK))]).length=pre.length+1:=by simp
   rw[e1];show ZfZ f B (adjN f B d pre.length) (B.length-1-pre.length)=_;rw[ah,ap.o,<-I];unfold ZfZ;rw[<-z,U,R])
  have bi:=hid v;have ck:=hid am;have cm:=hid hM;clear ah z bu m1 m2 m3 m5 aa U v am cy dm ay hM;have J:RowKit.Below wS.1.size wS W:=ch.o.trans (g3.below dj (fun b e=>dx.o b e));obtain⟨bt,ot,ta,tc,cv,em,z0,_⟩:=zN (cr.o W J) dl;obtain⟨bn,on,cw,el,zb⟩:=Zdp (co.o W J) eg;rw[di] at z0;rw[bp] at zb;obtain⟨⟨c0,c1,c2,c3,c4,c5,c6⟩,cf⟩:=Xj X.box;rw[cv] at c2;rw[cw] at c1;have KS1:=hid (show S3 w.1.size O b3 bt ot t bn on k f.nods.length cn f.tasks.length ct j W.drew from ⟨g2.cell,c1,c2,Z6 W.drew b3 0 _ _ _ av,z0,zb⟩);have ce:=hid av;obtain⟨g,G,Z⟩:=X.jobs.resolve_left oq;have eq:=cd.o oq g (by rw[G];rfl);have ea:=hid G;have bf:=hid (show jaB ja=some g by rw[G];rfl);have eb:=hid Z;have bd:=hid X;have cc:=hid g2;have ao:=hid g3;have er:=g3.size;have dq:O≠g:=fun e=>X.ne (by rw[bf.o,e])
  rw[G,aj] at c5;have dv:=hid c5;have dg:=Zb av;have az:=g2.lt;have dp:=Zb X.box;have T:=Z.cells oq;have dw:=hid T;have t0:(0:Int)<=(t:Int):=oq;have t1:(t:Int)<(f.tasks.length:Int):=oq;have k0:(0:Int)<=(k:Int):=oq;have k1:(k:Int)<(f.nods.length:Int):=oq;have cu:=hid (show IntKind.i64.wrap (y3-j)=y3-j from ZK _ oq);have ca:=hid aj;clear aj I hx bx G Z X g2 g3 cv cw z0 zb c0 c1 c2 c3 c4 c5 c6 cf av T J hr cr co bj bc bg bh cq ab di bp R;gi_upto_region 3 with fail
  refine QT (S:=S3 w.1.size O b3 bt ot t bn on k f.nods.length cn f.tasks.length ct j) kq kq (by rintro⟨_,_,h⟩;exact h) KS1.o (fun hH=>?_);refine tk 0 hH ?_;refine tk 1 hH ?_;refine tk 2 hH ?_;refine tk 3 hH ?_;refine tk 4 hH ?_;refine tk 5 hH ?_;refine tk 6 hH ?_;refine tk 7 hH ?_;refine tk 8 hH ?_;refine tk 9 hH ?_;refine tk 10 hH ?_;refine tk 11 hH ?_;refine tk 12 hH ?_;refine tk 13 hH ?_;refine tk 14 hH ?_;refine tk 15 hH ?_;refine tk 16 hH ?_;refine tk 17 hH ?_;refine ry 18 fun K hK=>?_
  go_simp;refine hK.o _ _ (fun hH=>?_) (by exact KS1.o);clear hK K;refine Zy kq ?_ _;obtain⟨⟨x0,x1,x2,x3,x4⟩,xf⟩:=V9 (show W.1[b3]?=_ from ce.o);simp only at x0 x1 x2 x3 x4;clear x0 x1 x2 x3;gi_wp2;clear x4 xf;gi_loopw [35] (fun s35 wr=>Hid (∃m:Nat,s35=.int .i64 (m:Int)/\m<=M/\JH wr g 0 (bringL (y3-j) dk (E.take m))/\But (fun k=>k=g) W wr)) (fun s _=>M-(intOf s).toNat)
  case atStart=>exact⟨0,rfl,Zk _,eb.o.but rfl,(But.refl _ W).drew⟩
  obtain⟨m,rfl,hm,aw,Y⟩:=hrel.o;clear hrel;have ba:=(Y.block b3 dg oq).trans ce.o;obtain⟨⟨x0,x1,x2,x3,x4⟩,xf⟩:=V9 (show wr.1[b3]?=_ from ba);simp only at x0 x1 x2 x3 x4;have cb:=Boxed.cell ((Y.block _ az oq).trans cc.o);have cg:=hid aw;have V:=hid Y;have L:(bringL (y3-j) dk (E.take m)).size=N:=by rw[(Q4 _ _ _).1];exact ca.o
  clear x0 x1 x2 ba;by_cases dh:m<M
  .have H:m<E.length:=by rw[cm.o];exact dh
   obtain⟨en,ew,hq,et,bs⟩:=(bi.o wr ((BC.of_but ao.o).then (BC.of_but (V.o.imp (fun k _ e=>by rw[e];exact bf.o))))).at H;unfold KG at bs;rw[Z7] at bs;have aq:=Gt (x:=y3-j) (d:=dk) H;obtain⟨p,hp,es⟩:=ck.o E[m] (Zi H);rw[hp] at bs aq;rw[ZQ] at aq;have du:=hid aq;have db:wr.cell? ⟨O,5,none⟩=some (.slice (some ⟨g,0,none⟩) (bringL (y3-j) dk (E.take m)).size cj):=by rw[L];exact(Zn (w:=W) (a:=⟨O,5,none⟩) (Y.block O dp dq)).trans dv.o
   have dt:=hid (yi (W:=wr) O g 0 cj _ db aw p (by rw[L];omega) (y3-j));have i0:(0:Int)<=(m:Int):=oq;have i1:(m:Int)<(M:Int):=oq;subst hq;have dn:=cu.o;clear aw Y aq hp db;gi_wp2_with (refine⟨trivial,?_⟩;gi_at_call 113;refine(CallsIn.inRound l (Zt.2 dt.o)).mono ?_;rintro e w4 ⟨rfl,df,hb4⟩;have dz:=hid df;have HB4:=hid hb4;clear df hb4);clear dn;exact⟨hid ⟨m+1,by go_num,dh,by rw[du.o];exact dz.o,V.o.then HB4.o (fun _ _ e=>e)⟩,by simp[intOf];omega⟩
  obtain rfl:m=M:=oq;have i1:¬(m:Int)<(m:Int):=oq;have bv:E.take m=E:=by rw[<-cm.o];exact ZS
  rw[bv] at cg L;have ek:=hid bv;clear aw Y bv;gi_wp2;have da:But (fun b=>jaB ja=some b) W wr:=V.o.imp (fun k _ e=>by rw[e];exact bf.o);exact⟨yB V.o dw.o,KD.of_but V.o oq oq,(by rw[bz.o];exact bd.o.but da (Q4 _ _ _).1 (.inr ⟨g,ea.o,cg.o⟩)),(V.o.block _ az oq).trans cc.o,ao.o.then da (fun _ _ e=>e)⟩
 rintro D xs W hD ei ⟨X,g2,g3⟩ hk;rw[ei,<-ap.o] at X;have bd:=hid X;have ao:=hid g3;have ec:=hid ((Mk.nil w.1.size 0 W).cons oq (Zk _) hk);clear X g3;gi_wp2;refine ec.o.leaves (fun W' hW'=>⟨.tuple #[],?_,?_⟩)
 .exact results_none rfl _ _ _
 exact⟨rfl,bd.o.mk' hW',ao.o.then (show But (fun k=>w.1.size<=k) W W' from ⟨hW'.os,hW'.tape,hW'.output,Nat.le_of_eq hW'.size.symm,fun k _ hk=>hW'.low k oq⟩) (fun k hk e=>oq)⟩
structure ZbV (W:World) (f:FD) (order:List Int) (u:Int) (B:List (Nat × Nat)) (ja:Option Addr) (d:Array YK):Prop where
 win:Xg f order u B
 ord:YQ f order
 rgf:RgF f
 sz:d.size=B.length
 jobs:JR W ja d
 from_:∃dN,(∀k,k<B.length->dN[k]!.t=((B.getD k (0,0)).1:Int)/\dN[k]!.n=((B.getD k (0,0)).2:Int)/\dN[k]!.r=XQ f (B.getD k (0,0))/\dN[k]!.d=XQ f (B.getD k (0,0))+(tkO f (B.getD k (0,0)).1).per)/\dN.size=B.length/\d=adjN f B (X9 f B u dN f.tells) B.length
 needs:∀k,k<B.length->d[k]!.nl=(YR f B k).length/\Row KG 1 W (YR f B k) d[k]!.na
def V8(f:FD)(u:Int)(x:Ending)(w':World):Prop :=
 if Y3 f=true/\(0<=u/\u<=20000) then match ofP f with
  | none=>x=.returned (.tuple #[.slice none 0 0,.int .i64 6])
  | some l=>if 4000<QF f u f.tasks.length then x=.returned (.tuple #[.slice none 0 0,.int .i64 8]) else ∃B ja cj d,x=.returned (.tuple #[.slice ja d.size cj,.int .i64 0])/\ZbV w' f l u B ja d
 else x=.returned (.tuple #[.slice none 0 0,.int .i64 12])
theorem Zgq{W:World}(x:Xg f order u B)(z:YQ f order)(y:Vj f)(G:u<=20000){C:Option Addr}{d:Array YK}{i:Nat}(h:NdS W f B C d i)(A:d.size=B.length):DB 0 d:=by
 intro p m;rw[A] at m;have q:=(h.base p m).2.2.2;have hb:B[p]?=some (B.getD p (0,0)):=by rw[Zf,Ze m];rfl
 obtain⟨⟨t,n⟩,g⟩:=ez (B.getD p (0,0));rw[g] at hb q;have v:=(x.mem z).1 (Z9 hb);have j:=y t v.1;have D:=(XN j.1 n).1 v.2;have E:=Int.mul_nonneg (show 0<=(n:Int) by omega) (show 0<=(tkO f t).per by omega);have F:XQ f (t,n)=(tkO f t).ph+(n:Int)*(tkO f t).per:=rfl;simp only at q;omega
theorem Ef(m:Xg f order u B)(g:YQ f order)(q:Vj f)(A:f.tasks.length<=30)(v:u<=20000):B.length<=1000000:=by
 have j:=ud q v g.rng order.length (Zc _);rw[ZS] at j;have x:=m.perm.length_eq;have z:order.length<=30:=by
  have:=List.Nodup.length_le_of_subset (l₂:=(List.range f.tasks.length).map (fun k:Nat=>(k:Int))) g.nd (by
   intro y hy;have:=g.rng y hy;exact Yd.2 ⟨y.toNat,List.mem_range.2 oq,oq⟩)
  rw[Zo,List.length_range] at this;omega
 omega
theorem ZaP(f:FD)(T an R U:Option Addr)(ci cn ct cl:Nat)(hf:FAP w f T an R U)(u:Int) :
  Calls prog 18 #[fv f T an R U ci cn ct cl,.int .i64 u] w fun x w'=>V8 f u x w'/\RowKit.Below w.1.size w w':=by
 have C:=hid (fun W (hb:RowKit.Below w.1.size w W)=>Up (w:=W) f T an R U ci cn ct cl (hf.below hb));have A:=hid (fun W (hb:RowKit.Below w.1.size w W)=>Zgt (w:=W) f T an R U ci cn ct cl (hf.below hb));have O:=hid (fun W (hb:RowKit.Below w.1.size w W) (hr:RgF f) (hu:u<=20000)=>vQ (w:=W) f T an R U ci cn ct cl (hf.below hb) hr.clk hr.few u hu);have ba:=hid (fun W (hb:RowKit.Below w.1.size w W) (hr:RgF f) (hu:u<=20000) (order:List Int) (ao:Option Addr) (co:Nat) (hro:Row KG 1 W order ao) (ho:YQ f order)=>(Zt (n:=6)).1 (zS (w:=W) f T an R U ci cn ct cl (hf.below hb) hr.clk hr.few order ao co hro ho u hu));have HF:=hid hf;clear hf;unfold V8;unfold fv at *;obtain⟨ri,z⟩:=ez (Y3 f);rw[z] at C;obtain⟨W1,g⟩:=ez (w.alloc (.cells #[.slice T f.ins.length ci,.slice an f.nods.length cn,.slice R f.tasks.length ct,.slice U f.tells.length cl] 35));have hB:RowKit.Below w.1.size w W1:=by rw[<-g];exact bq
 have ac:W1.1[w.1.size]?=some (.cells #[.slice T f.ins.length ci,.slice an f.nods.length cn,.slice R f.tasks.length ct,.slice U f.tells.length cl] 35 (0,0)):=by rw[<-g];exact Yx w _
 have HB:=hid hB;have am:=hid ac;obtain⟨⟨x0,x1,x2,x3⟩,xf⟩:=Yy ac;have V:w.1.size<W1.1.size:=Zb ac;clear hB ac
 cases ri with
 | false =>
  have v:¬(Y3 f=true/\(0<=u/\u<=20000)):=fun h=>by rw[z] at h;cases h.1
  simp only[Z0 v];clear v z;go_enter func18,ntmps18;go_upto_region 1 with fail
  first|rw[g]|skip
  clear g;go_wp2_with (go_at_call 44;refine(C.o _ HB.o).mono ?_;rintro x w2 ⟨rfl,hb2⟩;have HB2:=hid hb2;clear hb2);go_ret2;exact⟨rfl,HB.o.trans (HB2.o.mono oq)⟩
 | true =>
  by_cases aq:0<=u
  .by_cases y:u<=20000
   .have v:Y3 f=true/\(0<=u/\u<=20000):=⟨z,aq,y⟩;simp only[Z1 v];have q:=hid (Uh z);clear v z;have u0:¬u<0:=oq;have u1:¬u > 20000:=oq
    cases ho:ofP f with
    | none =>
     rw[ho] at A;simp only[ZbX] at A;simp only;go_enter func18,ntmps18;go_upto_region 1 with fail
     first|rw[g]|skip
     clear g;go_wp2_with (first|(go_at_call 44;refine(C.o _ HB.o).mono ?_;rintro x w2 ⟨rfl,hb2⟩;have HB2:=hid (HB.o.trans (hb2.mono oq));obtain⟨⟨y0,y1,y2,y3⟩,yf⟩:=Yy ((hb2.block _ V).trans am.o);clear hb2)|(go_at_call 45;refine(A.o _ HB2.o).mono ?_;rintro x w4 ⟨rfl,hb4⟩;have HB4:=hid (HB2.o.trans (hb4.mono HB2.o.size));clear hb4));go_ret2;exact⟨rfl,HB4.o⟩
    | some l =>
     rw[ho] at A;simp only[ZbX] at A;simp only;have HO:=hid (JQ ho);clear ho;obtain⟨mt,ab⟩:=ez (QF f u f.tasks.length);rw[ab] at O;simp only[ab];by_cases j:4000<mt
     .rw[ZZ j] at O;simp only[Z1 j];clear j ab;go_enter func18,ntmps18;go_upto_region 1 with fail
      first|rw[g]|skip
      clear g;go_wp2_with (first|(go_at_call 44;refine(C.o _ HB.o).mono ?_;rintro x w2 ⟨rfl,hb2⟩;have HB2:=hid (HB.o.trans (hb2.mono oq));have aa:w.1.size<w2.1.size:=Zd V hb2.size;have M:=hid ((hb2.block _ V).trans am.o);obtain⟨⟨y0,y1,y2,y3⟩,yf⟩:=Yy M.o;clear hb2)|(go_at_call 45;refine(A.o _ HB2.o).mono ?_;rintro x w4 ⟨⟨v4,rfl,X⟩,hb4⟩;have HB4:=hid (HB2.o.trans (hb4.mono HB2.o.size));obtain⟨⟨z0,z1,z2,z3⟩,zf⟩:=Yy ((hb4.block _ aa).trans M.o);clear hb4 X)|(go_at_call 46;refine(O.o _ HB4.o q.o y).mono ?_;rintro x w5 ⟨rfl,hb5⟩;have HB5:=hid (HB4.o.trans (hb5.mono HB4.o.size));clear hb5));go_ret2;exact⟨rfl,HB5.o⟩
     rw[ZY j] at O;simp only[Z0 j];clear j ab;go_enter func18,ntmps18;go_upto_region 1 with fail
     first|rw[g]|skip
     clear g;go_wp2_with (first|(go_at_call 44;refine(C.o _ HB.o).mono ?_;rintro x w2 ⟨rfl,hb2⟩;have HB2:=hid (HB.o.trans (hb2.mono oq));have aa:w.1.size<w2.1.size:=Zd V hb2.size;have M:=hid ((hb2.block _ V).trans am.o);obtain⟨⟨y0,y1,y2,y3⟩,yf⟩:=Yy M.o;clear hb2)|(go_at_call 45;refine(A.o _ HB2.o).mono ?_;rintro x w4 ⟨⟨v4,rfl,X⟩,hb4⟩;obtain⟨a4,c4,rfl⟩:=YF X;have bb:=hid (ZdD X (S:=fun _=>False) (fun _ h=>h.elim) (BC.of_but (But.refl _ w4))).2;have HB4:=hid (HB2.o.trans (hb4.mono HB2.o.size));have bd:w.1.size<w4.1.size:=Zd aa hb4.size;have av:=hid ((hb4.block _ aa).trans M.o);obtain⟨⟨z0,z1,z2,z3⟩,zf⟩:=Yy av.o;clear hb4 X)|(go_at_call 46;refine(O.o _ HB4.o q.o y).mono ?_;rintro x w5 ⟨rfl,hb5⟩;have HB5:=hid (HB4.o.trans (hb5.mono HB4.o.size));have aw:=hid (bb.o.below kF hb5);obtain⟨⟨q0,q1,q2,q3⟩,qf⟩:=Yy ((hb5.block _ bd).trans av.o);clear hb5)|(go_at_call 47;refine(ba.o _ HB5.o q.o y l a4 c4 aw.o HO.o).mono ?_;rintro x w6 be;obtain⟨wb,pb,ja,cj,B,rfl,G,ax,hb6,ap⟩:=be;have E:=hid G;have HB6:=hid hb6;have H:=hid ap;have I:=hid (Ef G HO.o q.o.clk q.o.few y);have az:=hid (ZaQ (wS:=w5) (w:=w6) f T an R U ci cn ct cl (HF.o.below HB5.o) hb6 q.o l HO.o u B G wb pb f.tasks.length ja cj ap ax I.o);clear G ax hb6 ap)|(go_at_call 48;refine az.o.mono ?_;rintro x w7 ⟨rfl,dN,Y,aj,ag⟩;have m:=hid aj;have J:=hid (HB6.o.trans (ag.below HB6.o.size (fun b e=>H.o b e)));have au:=hid Y.sz;have bc:=hid (ZaT (wS:=w5) (w:=w7) f T an R U ci cn ct cl (HF.o.below HB5.o) J.o q.o l HO.o u y B E.o wb pb f.tasks.length ja cj H.o dN Y I.o);clear Y aj ag)|(go_at_call 49;refine bc.o.mono ?_;rintro x w8 ⟨rfl,ak,F⟩;have ar:=hid F;have L:=hid (J.o.trans (F.below J.o.size (fun b e=>H.o b e)));have D:=JU f B u f.tells dN;have ay:=hid (qE (wS:=w5) (w:=w8) f T an R U ci cn ct cl (HF.o.below HB5.o) L.o q.o l HO.o u B E.o wb pb f.tasks.length ja cj H.o (X9 f B u dN f.tells) ak I.o (fun k hk=>by rw[(D.2 k).1];exact(m.o.base k hk).1) (fun k hk=>⟨by rw[(D.2 k).2.2.2.2.1];exact(m.o.nd k hk).1,fun W' hW'=>by rw[(D.2 k).2.2.2.1];exact(m.o.nd k hk).2 W' ((BC.of_but F).then hW')⟩) (DB.tells f.tells (fun t ht=>by have h1:=q.o.tel t ht;have h2:=clock.Y1.1 (XR h1.2).1;exact⟨h2.1,h2.2.2.1,h1.1.1⟩) (Zgq E.o HO.o q.o.clk y m.o au.o)));clear ak F D)|(go_at_call 50;refine ay.o.mono ?_;rintro x w9 ⟨rfl,Z,ah⟩;have af:=hid Z;have ae:=hid ah;obtain⟨⟨p0,p1,p2,p3,p4,p5,p6⟩,pf⟩:=Xj Z.box;clear Z ah));go_ret2;refine⟨⟨B,ja,cj,_,rfl,E.o,HO.o,q.o,af.o.sz,af.o.jobs,⟨dN,m.o.base,au.o,rfl⟩,fun k hk=>?_⟩,?_⟩
     .have D:=(JU f B u f.tells dN).trans (Qr f B (X9 f B u dN f.tells) B.length);rw[(D.2 k).2.2.2.2.1,(D.2 k).2.2.2.1];exact⟨(m.o.nd k hk).1,(m.o.nd k hk).2 w9 ((BC.of_but ar.o).then (BC.of_but ae.o))⟩
     exact HB5.o.trans ((L.o.trans (ae.o.below L.o.size (fun b e=>H.o b e))).mono HB5.o.size)
   have v:¬(Y3 f=true/\(0<=u/\u<=20000)):=fun h=>y h.2.2
   simp only[Z0 v];have u0:¬u<0:=oq;have u1:u > 20000:=oq;clear v z y;go_enter func18,ntmps18;go_upto_region 1 with fail
   first|rw[g]|skip
   clear g;go_wp2_with (go_at_call 44;refine(C.o _ HB.o).mono ?_;rintro x w2 ⟨rfl,hb2⟩;have HB2:=hid hb2;clear hb2);go_ret2;exact⟨rfl,HB.o.trans (HB2.o.mono oq)⟩
  have v:¬(Y3 f=true/\(0<=u/\u<=20000)):=fun h=>aq h.2.1
  simp only[Z0 v];have u0:u<0:=oq;clear v z aq;go_enter func18,ntmps18;go_upto_region 1 with fail
  first|rw[g]|skip
  clear g;go_wp2_with (go_at_call 44;refine(C.o _ HB.o).mono ?_;rintro x w2 ⟨rfl,hb2⟩;have HB2:=hid hb2;clear hb2);go_ret2;exact⟨rfl,HB.o.trans (HB2.o.mono oq)⟩
