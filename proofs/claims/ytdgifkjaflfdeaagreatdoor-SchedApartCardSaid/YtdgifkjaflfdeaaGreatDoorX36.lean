/- Parts of the proof. -/
import Derived.Test.YtdgifkjaflfdeaaGreatDoorX35
set_option linter.all false
set_option maxRecDepth 100000
set_option maxHeartbeats 16000000
namespace Go.Proofs.YtdgifkjaflfdeaaGreatDoor.syn
open Tryz
open Go.RowKit Go.Sort Go.Shelf
attribute [local go_sem] ZU
variable {w:World}{f:FD}{order:List Int}{u:Int}{B:List (Nat × Nat)}
def RB'(ja:OA)(N:Nat)(W:World):Prop:=N=0\/∃g d,ja=some ⟨g,0,none⟩/\JH W g 0 d/\d.size=N
def Zfx(ja:OA)(N:Nat)(pre:List (Nat × YH))(x:Nat × YH)(W:World):Prop:=pre.length<N/\x.1=N-1-pre.length/\∃g d,ja=some ⟨g,0,none⟩/\JH W g 0 d/\d.size=N/\x.2=d[x.1]!
def jvs(x:Nat × YH):Array Value:=#[.int .i64 (x.1:Int),.agg #[.int .i64 x.2.t,.int .i64 x.2.n,.int .i64 x.2.r,.int .i64 x.2.d,.slice x.2.na x.2.nl x.2.nc]]
theorem ZbD(U:OA)(cj N:Nat)(hN:N<=1000000)(f n l:Nat)(J:List (Nat × YH)->World->Prop)(W:World)(hJ:OwnFrom W.1.size J)(hR:∀pre W1,J pre W1->RB' U N W1)
  (hY:∀m pre x W1,J pre W1->Zfx U N pre x W1->YieldAt Fence.wide m prog l (jvs x) W1 fun e W'=>e=.returned (.bool true)/\J (pre++[x]) W'/\KD f f W1 W')
  (hb1:Boxed W f 59 (.slice U N cj))(h0:J [] W) :
  CallsIn Fence.wide n prog 177 #[.func (.yield l) #[] #[],.pointer (some ⟨f,0,none⟩)] W fun e W'=>(∃v,e=.returned v)/\∃xs,xs.length=N/\J xs W':=by
 have HY:=hid hY;have HR:=hid hR;have HB1:=hid hb1;have X:=hid h0;have I:=hb1.cell;have v0:IntKind.i64.wrap ((N:Int)-1)=(N:Int)-1:=ZL _ oq;clear hY hR hb1 h0 hJ;refine callsIn_of_wp func177 rfl trivial ?_ rfl;simp only[ntmps177,ZJ,Zp,Zx,Nat.reduceAdd,Nat.reduceSub,ZG,ZF,ZM,ZK,ZN,ZD];gi_wp2;clear I;gi_loopw [3] (fun v wr=>Hid (∃(k:Nat)(C:List (Nat × YH)),v=.int .i64 ((k:Int)-1)/\k<=N/\C.length+k=N/\J C wr/\KD f f W wr)) (fun i _=>(intOf i+1).toNat)
 case atStart=>exact⟨N,[],by first|rfl|(rw[v0])|(go_num;rw[v0]),Zc _,by simp,X.o,KD.refl _ _ _⟩
 obtain⟨k,C,hv,hk,T,hj,A⟩:=hrel.o;clear hrel;have H:Boxed wr f 59 (.slice U N cj):=A f (.inl rfl) _ HB1.o rfl;have I:=H.cell;have HK:=hid A;have D:=hid hj;have q:=hid T;have R:=HR.o _ _ hj;clear A hj T H
 cases k with
 | zero =>
  obtain rfl:=hv;have V:((0:Nat):Int)-1=-1:=rfl
  try rw[V]
  clear R;gi_wp2;go_end0;exact⟨⟨_,rfl⟩,C,by have:=q.o;omega,D.o⟩
 | succ j =>
  have V:((j+1:Nat):Int)-1=(j:Int):=oq;rw[V] at hv;obtain rfl:=hv;clear V;obtain⟨g,d,M,y,L⟩:=R.resolve_left oq;obtain⟨⟨y0,y1,y2,y3,y4⟩,_⟩:=y.cell (i:=j) oq;have ab:=q.o;have E:=hid (show Zfx U N C (j,d[j]!) wr from ⟨oq,by show j=_;omega,g,d,M,y,L,rfl⟩);obtain⟨z,hz⟩:∃z,d[j]! = z:=⟨_,rfl⟩;rw[hz] at y0 y1 y2 y3 y4 E;obtain⟨z0,z1,z2,z3,z4,z5,z6⟩:=z;simp only[ZE] at y0 y1 y2 y3 y4;obtain⟨fn,ac,assign,body,hy,G⟩:=HY.o (n-1) C _ wr D.o E.o;unfold jvs at hy;simp only at hy;have aa:=hid G;have j0:(0:Int)<=(j:Int):=oq;have j1:(j:Int)<(N:Int):=oq;subst M;clear y L hz G ab;gi_wp2;refine⟨(fun h=>by cases h),aa.o.mono ?_⟩;rintro e W1 ⟨rfl,F,O⟩;have Y:=hid F;have Z:=hid (HK.o.trans O);clear F O;gi_wp2;go_roundw
  case rel=>exact⟨j,C++[_],by go_num,oq,by have:=q.o;simp;omega,Y.o,Z.o⟩
  first|(simp[intOf];done)|(simp[intOf];omega)
theorem eV(ja:OA)(cj N:Nat)(hN:N<=1000000)(b1 n:Nat)(w:World)(hb1:Boxed w b1 59 (.slice ja N cj)) :
  ZfA Fence.wide n prog 177 #[.pointer (some ⟨b1,0,none⟩)] jvs (RB' ja N) (Zfx ja N) (KD b1 b1) (fun xs=>xs.length=N) w:=fun l J W hW hJ hR hY h0 =>
 ZbD ja cj N hN b1 n l J W hJ hR (fun m pre x W1 hj ho=>YieldAt.deep rfl m (hY pre x W1 hj ho)) ((hW.block _ hb1.lt).trans hb1) h0
theorem eU(a:OA)(n c:Nat):Calls prog 114 #[.slice a n c] w fun e w'=>e=.returned (.func (.func 177) #[] #[.pointer (some ⟨w.1.size,0,none⟩)])/\w'=w.alloc (.cells #[.slice a n c] 59):=by
 go_enter func114,ntmps114;go_wp2;go_ret;exact⟨rfl,rfl⟩
attribute [local go_sem] ZU
theorem ZfF{t:Array Value}(h:t.size=47):t=#[slt t 0,slt t 1,slt t 2,slt t 3,slt t 4,slt t 5,slt t 6,slt t 7,slt t 8,slt t 9,slt t 10,slt t 11,slt t 12,slt t 13,slt t 14,slt t 15,slt t 16,slt t 17,slt t 18,slt t 19,slt t 20,slt t 21,slt t 22,slt t 23,slt t 24,slt t 25,slt t 26,slt t 27,slt t 28,slt t 29,slt t 30,slt t 31,slt t 32,slt t 33,slt t 34,slt t 35,slt t 36,slt t 37,slt t 38,slt t 39,slt t 40,slt t 41,slt t 42,slt t 43,slt t 44,slt t 45,slt t 46]:=J1 h
theorem Zf6{an:OA}(h:Row NdR 10 w f.nods an){k:Nat}(j:k<f.nods.length):∃b o,an=some ⟨b,o,none⟩/\b<w.1.size/\w.cell? ⟨b,o+k*10+2,none⟩=some (.int .i64 f.nods[k].bud):=by
 obtain⟨b,o,rfl,hb,E,F,G,C,m,D,v,x,el,y,q,a,z,A,g,_⟩:=h.at j;exact⟨b,o,rfl,hb,g⟩
def S3(bw wb b3 bt ot t bn on k:Nat)(nN cn T ct:Nat)(bud:Int)(w':World):Prop:=w'.cell? ⟨bw,0,none⟩=some (.pointer (some ⟨wb,0,none⟩))/\w'.cell? ⟨wb,1,none⟩=some (.slice (some ⟨bn,on,none⟩) nN cn)/\w'.cell? ⟨wb,2,none⟩=some (.slice (some ⟨bt,ot,none⟩) T ct)/\w'.cell? ⟨b3,0,none⟩=some (.int .i64 (t:Int))/\w'.cell? ⟨bt,ot+t*4,none⟩=some (.int .i64 (k:Int))/\w'.cell? ⟨bn,on+k*10+2,none⟩=some (.int .i64 bud)
theorem ZcM(f:FD)(B:List (Nat × Nat))(i:Nat):(XK f B i).length<=(tkO f (B.getD i (0,0)).1).args.length:=by
 unfold XK;have h:=QZ ((Uj f B i).mergeSort (fun x y=>decide (x<=y)));rw[List.length_mergeSort] at h;have g:(Uj f B i).length<=(tkO f (B.getD i (0,0)).1).args.length:=List.length_filterMap_le _ _;omega
def Zfo(w:World)(f:FD)(ai an aT al:OA)(ci cn ct cl:Nat)(u:Int)(wb pb cp:Nat)(ja:OA)(cj:Nat)(B:List (Nat × Nat))(d:Array YH)(e:Ending)(w':World):Prop :=
 e=.returned (.tuple #[])/\QF w' f ai an aT al ci cn ct cl u wb pb cp ja cj B (adjN f B d B.length)/\But (fun b=>jaB ja=some b) w w'
def Zhk(W:World)(b:Nat)(x:YH):Prop:=W.1[b]?=some (.cells #[.int .i64 x.t,.int .i64 x.n,.int .i64 x.r,.int .i64 x.d,.slice x.na x.nl x.nc] 128 (0,0))
theorem qk{wS w:World}(f:FD)(ai an aT al:OA)(ci cn ct cl:Nat)(hf:FAP wS f ai an aT al)(aj:RowKit.Below wS.1.size wS w)(hr:RgF f)(order:List Int)(ho:Y8 f order)(u:Int)(B:List (Nat × Nat))(hB:X1 f order u B)(L pb cp:Nat)(ja:OA)(cj:Nat)
  (dc:∀b,jaB ja=some b->wS.1.size<=b)(d:Array YH)(hw:QF w f ai an aT al ci cn ct cl u L pb cp ja cj B d)(hN:B.length<=1000000)
  (ae:∀k,k<B.length->d[k]!.t=((B.getD k (0,0)).1:Int))(Z:∀k,k<B.length->d[k]!.nl=(XK f B k).length/\∀W',BC (fun b=>jaB ja=some b) w W'->Row Gs 1 W' (XK f B k) d[k]!.na)(db:DB 0 d) :
  Calls prog 50 #[.pointer (some ⟨L,0,none⟩)] w (Zfo w f ai an aT al ci cn ct cl u L pb cp ja cj B d):=by
 have bp:=hf.lens;have aq:=hw.sz;have cq:=hid (fun(W:World) (h1:RowKit.Below wS.1.size wS W)=>hf.tasks.below zm h1);have cm:=hid (fun(W:World) (h1:RowKit.Below wS.1.size wS W)=>hf.nods.below Zfh h1);have aa:=hid (DB.adjN hB ho hr aq db);have bg:=hid Z;have bf:=hid (fun i (hi:i<B.length) (x:Int) (hx:x∈XK f B i)=>Zes hB ho hr hi hx);have bb:=hid (fun i (hi:i<B.length)=>kX hB ho hr hi);have bi:=hid (fun i (hi:i<B.length)=>(show ∃t k:Nat,(B.getD i (0,0)).1=t/\d[i]!.t=(t:Int)/\t<f.tasks.length/\(tkO f t).node=(k:Int)/\∃h:k<f.nods.length,e7 f B i=f.nods[k].bud from by
  have hb:B[i]?=some (B.getD i (0,0)):=by rw[Zf,Ze hi];rfl
  have ht:=ae i hi;have cy:e7 f B i=(f.nods.getD (tkO f (B.getD i (0,0)).1).node.toNat ⟨0,0⟩).bud:=rfl;obtain⟨⟨t,n⟩,af⟩:=ez (B.getD i (0,0));rw[af] at hb ht cy;rw[af];have hm:=(hB.mem ho).1 (Yb hb);obtain⟨k,h1,h2,_⟩:=hr.node t hm.1;refine⟨t,k,rfl,ht,hm.1,h1,h2,?_⟩;rw[cy,h1,ZR,Zf,Ze h2];rfl))
 have dr:=hid (fun t (ht:t<f.tasks.length)=>(show(tkO f t).args.length<=1000 from by rw[<-JP ht];exact(hf.args _ (Zi ht)).1));have cc:=hid (show 0<B.length->∀b,jaB ja=some b->b<w.1.size from fun h0 b e=>by
  obtain⟨g,e2,hj⟩:=hw.jobs.resolve_left oq;subst e2;injection e with e
  subst e;exact hj.lt)
 have co:=hid (fun k=>JY f B d k);have dw:=hid dc;have cg:=hid aj;have HW:=hid hw;have di:=aj.size;obtain⟨N,bl⟩:=ez B.length;have ao:=hid bl;rw[bl] at hN aq aa bg bf bb bi cc;clear hf aj hr ho hB dc hw bp bl ae Z db;refine(Zu (n:=6)).1 ?_;refine callsIn_of_wp_marks func50 rfl trivial ?_ rfl;simp only[ntmps50,ZJ,Zp,Zx,Nat.reduceAdd,Nat.reduceSub,ZG,ZF,ZM,ZK,ZN,ZD];gi_upto_region 1 with fail
 obtain⟨W0,ab⟩:=ez (w.alloc (.cells #[.pointer (some ⟨L,0,none⟩)] 122));have bm:RowKit.Below w.1.size w W0:=by rw[<-ab];exact bq
 have et:w.1.size<W0.1.size:=by rw[<-ab];simp
 have bv:Boxed W0 w.1.size 122 (.pointer (some ⟨L,0,none⟩)):=by rw[<-ab];exact Boxed.new _ _ _
 rw[ab];clear ab;have bj:=hid (HW.o.below bm);obtain⟨⟨c0,c1,c2,c3,c4,c5,c6⟩,cf⟩:=Xf bj.o.box;rw[aq] at c5;have cx:=bv.cell;have bk:=hid bv;have aw:=hid (But.of_below (S:=fun b=>jaB ja=some b) bm);clear c0 c1 c2 c3 c4 c6 cf bv bm;gi_wp2_with (refine⟨trivial,?_⟩;gi_at_call 114;refine(Zu.2 (eU _ _ _)).mono ?_;rintro e w' ⟨rfl,rfl⟩);clear c5 cx;obtain⟨W2,ac⟩:=ez (W0.alloc (.cells #[.slice ja N cj] 59));have hb2:RowKit.Below W0.1.size W0 W2:=by rw[<-ac];exact bq
 have eu:W0.1.size<W2.1.size:=by rw[<-ac];simp
 have dq:Boxed W2 W0.1.size 59 (.slice ja N cj):=by rw[<-ac];exact Boxed.new _ _ _
 rw[ac];clear ac;have dx:=hid (Zh (bj.o.below hb2) (Zh ((hb2.block _ bk.o.lt).trans bk.o) (aw.o.then (But.of_below (S:=fun _=>False) hb2) (fun _ _ e=>e.elim))));have ec:=hid dq;clear hb2 dq bj bk aw;refine xq (F:=Fence.wide) (gf:=177) (lb:=#[.pointer (some ⟨W0.1.size,0,none⟩)]) rfl oq rfl trivial (enters_of func177 kq rfl)
  (eV ja cj N hN W0.1.size _ W2 ec.o) (fun h k=>h.trans k) (fun W l o o' _ h hc=>KD.putObj W l o o' h hc) (fun W W' h=>KD.of_below h) (fun _=>rfl)
  (fun pre W=>QF W f ai an aT al ci cn ct cl u L pb cp ja cj B (adjN f B d pre.length)/\Boxed W w.1.size 122 (.pointer (some ⟨L,0,none⟩))/\But (fun b=>jaB ja=some b) w W)
  (fun s A C row hs hg hrw=>by
   obtain⟨V,g2,g3⟩:=hs;exact⟨V.bcE (Ei hg (fun r e=>(hrw r e).2)),boxed_own _ _ (fun(_:Unit)=>Value.pointer (some ⟨L,0,none⟩)) () A C row g2 hg (fun r e=>(hrw r e).2),g3.then (But.of_grown hg) (fun k hk e=>by have:=(hrw k e).1;omega)⟩)
  (fun pre W h=>by
   by_cases h0:N=0
   .exact .inl h0
   have hz:=h.1.sz;rw[ao.o] at hz;obtain⟨g,h1,h2⟩:=h.1.jobs.resolve_left oq;exact .inr ⟨g,_,h1,h2,hz⟩) dx.o
  (fun pre y a' W=>(pre.length<N/\y.1=N-1-pre.length/\y.2=(adjN f B d pre.length)[N-1-pre.length]!)/\∃b3,w.1.size<=b3/\Zhk W b3 y.2/\a'.tmps.size=47/\slt a'.tmps 1=.pointer (some ⟨w.1.size,0,none⟩)/\slt a'.tmps 3=.pointer (some ⟨b3,0,none⟩)/\a'.defers=[])
  (fun pre y a' s A C row hs hg hrw=>by
   obtain⟨h1,b3,h2,h3,h4⟩:=hs;exact⟨h1,b3,h2,Gb h3 hg (fun r e=>(hrw r e).2),h4⟩) ?assign ?body ?done
 case assign =>
  rintro l pre ⟨i,y⟩ W K hi ⟨hx,H,g,d',E,Y,eo,hy⟩ hK;simp only at H hy;have ei:=hi.1.sz;rw[ao.o] at ei;obtain⟨g2,j,ba⟩:=hi.1.jobs.resolve_left oq;rw[E] at j;injection j with j
  injection j with j
  subst j;have v:y=(adjN f B d pre.length)[N-1-pre.length]!:=by rw[hy,<-H];exact Y.inj ba oq oq
  have ed:=hid v;have bd:=hid hi;have eg:=hi.2.2.size;clear hy v Y ba hi E;obtain⟨y0,y1,y2,y3,y4,y5,y6⟩:=y;unfold jvs;simp only;gi_wp2;exact hK _ _ ((RowKit.Below.refl _ _).alloc (Zc _) _) ⟨bd.o.1.below ((RowKit.Below.refl _ _).alloc (Zc _) _),bd.o.2.1.alloc _,bd.o.2.2.then (But.of_below (S:=fun _=>False) ((RowKit.Below.refl _ _).alloc (Zc _) _)) (fun _ _ e=>e.elim)⟩ ⟨⟨hx,H,ed.o⟩,W.1.size,eg,Yx W _,by simp,by simp[slt],by simp[slt],rfl⟩
 case body =>
  rintro l pre ⟨i,y⟩ ⟨t,dd⟩ W hl hr ⟨V,g2,g3⟩ ⟨⟨hx,H,v⟩,b3,hb3,au,J,s1,s3,hd⟩;simp only at J s1 s3 hd H v;subst hd;rw[ZfF J,s1,s3];generalize slt t 0=u0,slt t 2=u2,slt t 4=u4,slt t 5=u5,slt t 6=u6,slt t 7=u7,slt t 8=u8,slt t 9=u9,slt t 10=u10,slt t 11=u11,slt t 12=u12,slt t 13=u13,slt t 14=u14,slt t 15=u15,slt t 16=u16,slt t 17=u17,slt t 18=u18,slt t 19=u19,slt t 20=u20,slt t 21=u21,slt t 22=u22,slt t 23=u23,slt t 24=u24,slt t 25=u25,slt t 26=u26,slt t 27=u27,slt t 28=u28,slt t 29=u29,slt t 30=u30,slt t 31=u31,slt t 32=u32,slt t 33=u33,slt t 34=u34,slt t 35=u35,slt t 36=u36,slt t 37=u37,slt t 38=u38,slt t 39=u39,slt t 40=u40,slt t 41=u41,slt t 42=u42,slt t 43=u43,slt t 44=u44,slt t 45=u45,slt t 46=u46;clear J s1 s3 t;have ar:i<N:=oq;obtain⟨t,k,cw,dl,dj,dh,ef,O⟩:=bi.o i ar;have af:=bb.o i ar;rw[O] at af;obtain⟨dk,ag⟩:=ez (adjN f B d pre.length);rw[ag] at V v;have bs:Qr d dk:=by rw[<-ag];exact co.o pre.length
  have ax:DB pre.length dk:=by rw[<-ag];exact aa.o pre.length oq
  have ah:dk.size=N:=by rw[bs.1];exact aq
  rw[<-H] at v;obtain⟨y0,y1,y2,y3,y4,y5,y6⟩:=y;obtain⟨m0,m1,m2,m3,m4,m5⟩:=bs.2 i;have Z:=bg.o i ar;have bw:=ax i oq;rw[<-v] at m0 m1 m2 m3 m4 m5 bw;simp only at m0 m3 m4 bw;rw[dl] at m0;rw[Z.1] at m4;have q:=Z.2;rw[<-m3] at q;subst m0;have G:=ZcM f B i;rw[cw] at G;have ee:=dr.o t dj;obtain⟨z,T⟩:=ez (XK f B i);rw[T] at G;have ak:=bf.o i ar;rw[T] at m4 q ak;obtain⟨M,hM⟩:=ez z.length;rw[hM] at m4 G;have en:M<=1000:=oq;clear G ee;replace m4:=m4.symm;subst m4;obtain⟨bud,bo⟩:∃bud,f.nods[k].bud=bud:=⟨_,rfl⟩;rw[bo] at af O;have bx:=hid (show adjN f B d (pre++[(i,(⟨(t:Int),y1,y2,y3,y4,M,y6⟩:YH))]).length=bringL (y3-bud) dk z from by
   have e1:(pre++[(i,(⟨(t:Int),y1,y2,y3,y4,M,y6⟩:YH))]).length=pre.length+1:=by simp
   rw[e1];show ZfE f B (adjN f B d pre.length) (B.length-1-pre.length)=_;rw[ag,ao.o,<-H];unfold ZfE;rw[<-v,T,O])
  have bh:=hid q;have ch:=hid ak;have ck:=hid hM;clear ag v bs m1 m2 m3 m5 Z T q ak cw dl ax hM;have I:RowKit.Below wS.1.size wS W:=cg.o.trans (g3.below di (fun b e=>dw.o b e));obtain⟨bt,ot,ta,tc,cu,el,z0,_⟩:=xJ (cq.o W I) dj;obtain⟨bn,on,cv,ek,zb⟩:=Zf6 (cm.o W I) ef;rw[dh] at z0;rw[bo] at zb;obtain⟨⟨c0,c1,c2,c3,c4,c5,c6⟩,cf⟩:=Xf V.box;rw[cu] at c2;rw[cv] at c1;have KS1:=hid (show S3 w.1.size L b3 bt ot t bn on k f.nods.length cn f.tasks.length ct bud W.drew from ⟨g2.cell,c1,c2,Z8 W.drew b3 0 _ _ _ au,z0,zb⟩);have cd:=hid au;obtain⟨g,E,Y⟩:=V.jobs.resolve_left oq;have ep:=cc.o oq g (by rw[E];rfl);have dz:=hid E;have be:=hid (show jaB ja=some g by rw[E];rfl);have ea:=hid Y;have bc:=hid V;have ca:=hid g2;have am:=hid g3;have eq:=g3.size;have dp:L≠g:=fun e=>V.ne (by rw[be.o,e])
  rw[E,ah] at c5;have du:=hid c5;have df:=Zb au;have ay:=g2.lt;have dn:=Zb V.box;have R:=Y.cells oq;have dv:=hid R;have t0:(0:Int)<=(t:Int):=oq;have t1:(t:Int)<(f.tasks.length:Int):=oq;have k0:(0:Int)<=(k:Int):=oq;have k1:(k:Int)<(f.nods.length:Int):=oq;have cr:=hid (show IntKind.i64.wrap (y3-bud)=y3-bud from ZL _ oq);have bz:=hid ah;clear ah H hx bw E Y V g2 g3 cu cv z0 zb c0 c1 c2 c3 c4 c5 c6 cf au R I hr cq cm bi bb bf bg co aa dh bo O;gi_upto_region 3 with fail
  refine Js (S:=S3 w.1.size L b3 bt ot t bn on k f.nods.length cn f.tasks.length ct bud) kq kq (by rintro⟨_,_,h⟩;exact h) KS1.o (fun hH=>?_);refine tk 0 hH ?_;refine tk 1 hH ?_;refine tk 2 hH ?_;refine tk 3 hH ?_;refine tk 4 hH ?_;refine tk 5 hH ?_;refine tk 6 hH ?_;refine tk 7 hH ?_;refine tk 8 hH ?_;refine tk 9 hH ?_;refine tk 10 hH ?_;refine tk 11 hH ?_;refine tk 12 hH ?_;refine tk 13 hH ?_;refine tk 14 hH ?_;refine tk 15 hH ?_;refine tk 16 hH ?_;refine tk 17 hH ?_;refine ry 18 fun K hK=>?_
  go_simp;refine hK.o _ _ (fun hH=>?_) (by exact KS1.o);clear hK K;refine Zz kq ?_ _;obtain⟨⟨x0,x1,x2,x3,x4⟩,xf⟩:=GE (show W.1[b3]?=_ from cd.o);simp only at x0 x1 x2 x3 x4;clear x0 x1 x2 x3;gi_wp2;clear x4 xf;gi_loopw [35] (fun s35 wr=>Hid (∃m:Nat,s35=.int .i64 (m:Int)/\m<=M/\JH wr g 0 (bringL (y3-bud) dk (z.take m))/\But (fun k=>k=g) W wr)) (fun s _=>M-(intOf s).toNat)
  case atStart=>exact⟨0,rfl,Zk _,ea.o.but rfl,(But.refl _ W).drew⟩
  obtain⟨m,rfl,hm,av,X⟩:=hrel.o;clear hrel;have az:=(X.block b3 df oq).trans cd.o;obtain⟨⟨x0,x1,x2,x3,x4⟩,xf⟩:=GE (show wr.1[b3]?=_ from az);simp only at x0 x1 x2 x3 x4;have cb:=Boxed.cell ((X.block _ ay oq).trans ca.o);have ce:=hid av;have U:=hid X;have J:(bringL (y3-bud) dk (z.take m)).size=N:=by rw[(JI _ _ _).1];exact bz.o
  clear x0 x1 x2 az;by_cases dg:m<M
  .have G:m<z.length:=by rw[ck.o];exact dg
   obtain⟨em,ev,hq,es,br⟩:=(bh.o wr ((BC.of_but am.o).then (BC.of_but (U.o.imp (fun k _ e=>by rw[e];exact be.o))))).at G;unfold Gs at br;rw[Z9] at br;have ap:=qe (x:=y3-bud) (d:=dk) G;obtain⟨p,hp,er⟩:=ch.o z[m] (Zi G);rw[hp] at br ap;rw[ZR] at ap;have dt:=hid ap;have da:wr.cell? ⟨L,5,none⟩=some (.slice (some ⟨g,0,none⟩) (bringL (y3-bud) dk (z.take m)).size cj):=by rw[J];exact(Zn (w:=W) (a:=⟨L,5,none⟩) (X.block L dn dp)).trans du.o
   have ds:=hid (zK (W:=wr) L g 0 cj _ da av p (by rw[J];omega) (y3-bud));have i0:(0:Int)<=(m:Int):=oq;have i1:(m:Int)<(M:Int):=oq;subst hq;have dm:=cr.o;clear av X ap hp da;gi_wp2_with (refine⟨trivial,?_⟩;gi_at_call 113;refine(CallsIn.inRound l (Zu.2 ds.o)).mono ?_;rintro e w4 ⟨rfl,de,hb4⟩;have dy:=hid de;have HB4:=hid hb4;clear de hb4);clear dm;exact⟨hid ⟨m+1,by go_num,dg,by rw[dt.o];exact dy.o,U.o.then HB4.o (fun _ _ e=>e)⟩,by simp[intOf];omega⟩
  obtain rfl:m=M:=oq;have i1:¬(m:Int)<(m:Int):=oq;have bu:z.take m=z:=by rw[<-ck.o];exact ZT
  rw[bu] at ce J;have ej:=hid bu;clear av X bu;gi_wp2;have cz:But (fun b=>jaB ja=some b) W wr:=U.o.imp (fun k _ e=>by rw[e];exact be.o);exact⟨yc U.o dv.o,KD.of_but U.o oq oq,(by rw[bx.o];exact bc.o.but cz (JI _ _ _).1 (.inr ⟨g,dz.o,ce.o⟩)),(U.o.block _ ay oq).trans ca.o,am.o.then cz (fun _ _ e=>e)⟩
 rintro D xs W hD eh ⟨V,g2,g3⟩ hk;rw[eh,<-ao.o] at V;have bc:=hid V;have am:=hid g3;have eb:=hid ((Mk.nil w.1.size 0 W).cons oq (Zk _) hk);clear V g3;gi_wp2;refine eb.o.leaves (fun W' hW'=>⟨.tuple #[],?_,?_⟩)
 .exact results_none rfl _ _ _
 exact⟨rfl,bc.o.mk' hW',am.o.then (show But (fun k=>w.1.size<=k) W W' from ⟨hW'.os,hW'.tape,hW'.output,Nat.le_of_eq hW'.size.symm,fun k _ hk=>hW'.low k oq⟩) (fun k hk e=>oq)⟩
structure Ze8 (W:World) (f:FD) (order:List Int) (u:Int) (B:List (Nat × Nat)) (ja:OA) (d:Array YH):Prop where
 win:X1 f order u B
 ord:Y8 f order
 rgf:RgF f
 sz:d.size=B.length
 jobs:JR W ja d
 from_:∃dN,(∀k,k<B.length->dN[k]!.t=((B.getD k (0,0)).1:Int)/\dN[k]!.n=((B.getD k (0,0)).2:Int)/\dN[k]!.r=Q9 f (B.getD k (0,0))/\dN[k]!.d=Q9 f (B.getD k (0,0))+(tkO f (B.getD k (0,0)).1).per)/\dN.size=B.length/\d=adjN f B (Jw f B u dN f.tells) B.length
 needs:∀k,k<B.length->d[k]!.nl=(XK f B k).length/\Row Gs 1 W (XK f B k) d[k]!.na
def Gx(f:FD)(u:Int)(x:Ending)(w':World):Prop :=
 if Xd f=true/\(0<=u/\u<=20000) then match ofP f with
  | none=>x=.returned (.tuple #[.slice none 0 0,.int .i64 6])
  | some l=>if 4000<Q2 f u f.tasks.length then x=.returned (.tuple #[.slice none 0 0,.int .i64 8]) else ∃B ja cj d,x=.returned (.tuple #[.slice ja d.size cj,.int .i64 0])/\Ze8 w' f l u B ja d
 else x=.returned (.tuple #[.slice none 0 0,.int .i64 12])
theorem Zf4{W:World}(x:X1 f order u B)(z:Y8 f order)(y:zp f)(G:u<=20000){C:OA}{d:Array YH}{i:Nat}(h:NdS W f B C d i)(A:d.size=B.length):DB 0 d:=by
 intro p m;rw[A] at m;have q:=(h.base p m).2.2.2;have hb:B[p]?=some (B.getD p (0,0)):=by rw[Zf,Ze m];rfl
 obtain⟨⟨t,n⟩,g⟩:=ez (B.getD p (0,0));rw[g] at hb q;have v:=(x.mem z).1 (Yb hb);have j:=y t v.1;have D:=(QU j.1 n).1 v.2;have E:=Int.mul_nonneg (show 0<=(n:Int) by omega) (show 0<=(tkO f t).per by omega);have F:Q9 f (t,n)=(tkO f t).ph+(n:Int)*(tkO f t).per:=rfl;simp only at q;omega
theorem eK(m:X1 f order u B)(g:Y8 f order)(q:zp f)(A:f.tasks.length<=30)(v:u<=20000):B.length<=1000000:=by
 have j:=vu q v g.rng order.length (Zc _);rw[ZT] at j;have x:=m.perm.length_eq;have z:order.length<=30:=by
  have:=List.Nodup.length_le_of_subset (l₂:=(List.range f.tasks.length).map (fun k:Nat=>(k:Int))) g.nd (by
   intro y hy;have:=g.rng y hy;exact Yf.2 ⟨y.toNat,List.mem_range.2 oq,oq⟩)
  rw[Zo,List.length_range] at this;omega
 omega
theorem Zaf(f:FD)(T an R U:OA)(ci cn ct cl:Nat)(hf:FAP w f T an R U)(u:Int) :
  Calls prog 18 #[fv f T an R U ci cn ct cl,.int .i64 u] w fun x w'=>Gx f u x w'/\RowKit.Below w.1.size w w':=by
 have C:=hid (fun W (hb:RowKit.Below w.1.size w W)=>Ue (w:=W) f T an R U ci cn ct cl (hf.below hb));have A:=hid (fun W (hb:RowKit.Below w.1.size w W)=>Zf7 (w:=W) f T an R U ci cn ct cl (hf.below hb));have O:=hid (fun W (hb:RowKit.Below w.1.size w W) (hr:RgF f) (hu:u<=20000)=>vd (w:=W) f T an R U ci cn ct cl (hf.below hb) hr.clk hr.few u hu);have ba:=hid (fun W (hb:RowKit.Below w.1.size w W) (hr:RgF f) (hu:u<=20000) (order:List Int) (ao:OA) (co:Nat) (hro:Row Gs 1 W order ao) (ho:Y8 f order)=>(Zu (n:=6)).1 (zu (w:=W) f T an R U ci cn ct cl (hf.below hb) hr.clk hr.few order ao co hro ho u hu));have HF:=hid hf;clear hf;unfold Gx;unfold fv at *;obtain⟨ri,z⟩:=ez (Xd f);rw[z] at C;obtain⟨W1,g⟩:=ez (w.alloc (.cells #[.slice T f.ins.length ci,.slice an f.nods.length cn,.slice R f.tasks.length ct,.slice U f.tells.length cl] 35));have hB:RowKit.Below w.1.size w W1:=by rw[<-g];exact bq
 have ac:W1.1[w.1.size]?=some (.cells #[.slice T f.ins.length ci,.slice an f.nods.length cn,.slice R f.tasks.length ct,.slice U f.tells.length cl] 35 (0,0)):=by rw[<-g];exact Yx w _
 have HB:=hid hB;have am:=hid ac;obtain⟨⟨x0,x1,x2,x3⟩,xf⟩:=Yy ac;have V:w.1.size<W1.1.size:=Zb ac;clear hB ac
 cases ri with
 | false =>
  have v:¬(Xd f=true/\(0<=u/\u<=20000)):=fun h=>by rw[z] at h;cases h.1
  simp only[Z2 v];clear v z;go_enter func18,ntmps18;go_upto_region 1 with fail
  first|rw[g]|skip
  clear g;go_wp2_with (go_at_call 44;refine(C.o _ HB.o).mono ?_;rintro x w2 ⟨rfl,hb2⟩;have HB2:=hid hb2;clear hb2);go_ret2;exact⟨rfl,HB.o.trans (HB2.o.mono oq)⟩
 | true =>
  by_cases aq:0<=u
  .by_cases y:u<=20000
   .have v:Xd f=true/\(0<=u/\u<=20000):=⟨z,aq,y⟩;simp only[Z3 v];have q:=hid (QS z);clear v z;have u0:¬u<0:=oq;have u1:¬u > 20000:=oq
    cases ho:ofP f with
    | none =>
     rw[ho] at A;simp only[Zbq] at A;simp only;go_enter func18,ntmps18;go_upto_region 1 with fail
     first|rw[g]|skip
     clear g;go_wp2_with (first|(go_at_call 44;refine(C.o _ HB.o).mono ?_;rintro x w2 ⟨rfl,hb2⟩;have HB2:=hid (HB.o.trans (hb2.mono oq));obtain⟨⟨y0,y1,y2,y3⟩,yf⟩:=Yy ((hb2.block _ V).trans am.o);clear hb2)|(go_at_call 45;refine(A.o _ HB2.o).mono ?_;rintro x w4 ⟨rfl,hb4⟩;have HB4:=hid (HB2.o.trans (hb4.mono HB2.o.size));clear hb4));go_ret2;exact⟨rfl,HB4.o⟩
    | some l =>
     rw[ho] at A;simp only[Zbq] at A;simp only;have HO:=hid (qZ ho);clear ho;obtain⟨mt,ab⟩:=ez (Q2 f u f.tasks.length);rw[ab] at O;simp only[ab];by_cases j:4000<mt
     .rw[Z1 j] at O;simp only[Z3 j];clear j ab;go_enter func18,ntmps18;go_upto_region 1 with fail
      first|rw[g]|skip
      clear g;go_wp2_with (first|(go_at_call 44;refine(C.o _ HB.o).mono ?_;rintro x w2 ⟨rfl,hb2⟩;have HB2:=hid (HB.o.trans (hb2.mono oq));have aa:w.1.size<w2.1.size:=Zd V hb2.size;have M:=hid ((hb2.block _ V).trans am.o);obtain⟨⟨y0,y1,y2,y3⟩,yf⟩:=Yy M.o;clear hb2)|(go_at_call 45;refine(A.o _ HB2.o).mono ?_;rintro x w4 ⟨⟨v4,rfl,X⟩,hb4⟩;have HB4:=hid (HB2.o.trans (hb4.mono HB2.o.size));obtain⟨⟨z0,z1,z2,z3⟩,zf⟩:=Yy ((hb4.block _ aa).trans M.o);clear hb4 X)|(go_at_call 46;refine(O.o _ HB4.o q.o y).mono ?_;rintro x w5 ⟨rfl,hb5⟩;have HB5:=hid (HB4.o.trans (hb5.mono HB4.o.size));clear hb5));go_ret2;exact⟨rfl,HB5.o⟩
     rw[Z0 j] at O;simp only[Z2 j];clear j ab;go_enter func18,ntmps18;go_upto_region 1 with fail
     first|rw[g]|skip
     clear g;go_wp2_with (first|(go_at_call 44;refine(C.o _ HB.o).mono ?_;rintro x w2 ⟨rfl,hb2⟩;have HB2:=hid (HB.o.trans (hb2.mono oq));have aa:w.1.size<w2.1.size:=Zd V hb2.size;have M:=hid ((hb2.block _ V).trans am.o);obtain⟨⟨y0,y1,y2,y3⟩,yf⟩:=Yy M.o;clear hb2)|(go_at_call 45;refine(A.o _ HB2.o).mono ?_;rintro x w4 ⟨⟨v4,rfl,X⟩,hb4⟩;obtain⟨a4,c4,rfl⟩:=YC X;have bb:=hid (Zc3 X (S:=fun _=>False) (fun _ h=>h.elim) (BC.of_but (But.refl _ w4))).2;have HB4:=hid (HB2.o.trans (hb4.mono HB2.o.size));have bd:w.1.size<w4.1.size:=Zd aa hb4.size;have av:=hid ((hb4.block _ aa).trans M.o);obtain⟨⟨z0,z1,z2,z3⟩,zf⟩:=Yy av.o;clear hb4 X)|(go_at_call 46;refine(O.o _ HB4.o q.o y).mono ?_;rintro x w5 ⟨rfl,hb5⟩;have HB5:=hid (HB4.o.trans (hb5.mono HB4.o.size));have aw:=hid (bb.o.below Zcm hb5);obtain⟨⟨q0,q1,q2,q3⟩,qf⟩:=Yy ((hb5.block _ bd).trans av.o);clear hb5)|(go_at_call 47;refine(ba.o _ HB5.o q.o y l a4 c4 aw.o HO.o).mono ?_;rintro x w6 be;obtain⟨wb,pb,ja,cj,B,rfl,G,ax,hb6,ap⟩:=be;have E:=hid G;have HB6:=hid hb6;have H:=hid ap;have I:=hid (eK G HO.o q.o.clk q.o.few y);have az:=hid (Zag (wS:=w5) (w:=w6) f T an R U ci cn ct cl (HF.o.below HB5.o) hb6 q.o l HO.o u B G wb pb f.tasks.length ja cj ap ax I.o);clear G ax hb6 ap)|(go_at_call 48;refine az.o.mono ?_;rintro x w7 ⟨rfl,dN,Y,aj,ag⟩;have m:=hid aj;have J:=hid (HB6.o.trans (ag.below HB6.o.size (fun b e=>H.o b e)));have au:=hid Y.sz;have bc:=hid (Zaj (wS:=w5) (w:=w7) f T an R U ci cn ct cl (HF.o.below HB5.o) J.o q.o l HO.o u y B E.o wb pb f.tasks.length ja cj H.o dN Y I.o);clear Y aj ag)|(go_at_call 49;refine bc.o.mono ?_;rintro x w8 ⟨rfl,ak,F⟩;have ar:=hid F;have L:=hid (J.o.trans (F.below J.o.size (fun b e=>H.o b e)));have D:=JN f B u f.tells dN;have ay:=hid (qk (wS:=w5) (w:=w8) f T an R U ci cn ct cl (HF.o.below HB5.o) L.o q.o l HO.o u B E.o wb pb f.tasks.length ja cj H.o (Jw f B u dN f.tells) ak I.o (fun k hk=>by rw[(D.2 k).1];exact(m.o.base k hk).1) (fun k hk=>⟨by rw[(D.2 k).2.2.2.2.1];exact(m.o.nd k hk).1,fun W' hW'=>by rw[(D.2 k).2.2.2.1];exact(m.o.nd k hk).2 W' ((BC.of_but F).then hW')⟩) (DB.tells f.tells (fun t ht=>by have h1:=q.o.tel t ht;have h2:=clock.Xz.1 (QK h1.2).1;exact⟨h2.1,h2.2.2.1,h1.1.1⟩) (Zf4 E.o HO.o q.o.clk y m.o au.o)));clear ak F D)|(go_at_call 50;refine ay.o.mono ?_;rintro x w9 ⟨rfl,Z,ah⟩;have af:=hid Z;have ae:=hid ah;obtain⟨⟨p0,p1,p2,p3,p4,p5,p6⟩,pf⟩:=Xf Z.box;clear Z ah));go_ret2;refine⟨⟨B,ja,cj,_,rfl,E.o,HO.o,q.o,af.o.sz,af.o.jobs,⟨dN,m.o.base,au.o,rfl⟩,fun k hk=>?_⟩,?_⟩
     .have D:=(JN f B u f.tells dN).trans (JY f B (Jw f B u dN f.tells) B.length);rw[(D.2 k).2.2.2.2.1,(D.2 k).2.2.2.1];exact⟨(m.o.nd k hk).1,(m.o.nd k hk).2 w9 ((BC.of_but ar.o).then (BC.of_but ae.o))⟩
     exact HB5.o.trans ((L.o.trans (ae.o.below L.o.size (fun b e=>H.o b e))).mono HB5.o.size)
   have v:¬(Xd f=true/\(0<=u/\u<=20000)):=fun h=>y h.2.2
   simp only[Z2 v];have u0:¬u<0:=oq;have u1:u > 20000:=oq;clear v z y;go_enter func18,ntmps18;go_upto_region 1 with fail
   first|rw[g]|skip
   clear g;go_wp2_with (go_at_call 44;refine(C.o _ HB.o).mono ?_;rintro x w2 ⟨rfl,hb2⟩;have HB2:=hid hb2;clear hb2);go_ret2;exact⟨rfl,HB.o.trans (HB2.o.mono oq)⟩
  have v:¬(Xd f=true/\(0<=u/\u<=20000)):=fun h=>aq h.2.1
  simp only[Z2 v];have u0:u<0:=oq;clear v z aq;go_enter func18,ntmps18;go_upto_region 1 with fail
  first|rw[g]|skip
  clear g;go_wp2_with (go_at_call 44;refine(C.o _ HB.o).mono ?_;rintro x w2 ⟨rfl,hb2⟩;have HB2:=hid hb2;clear hb2);go_ret2;exact⟨rfl,HB.o.trans (HB2.o.mono oq)⟩
