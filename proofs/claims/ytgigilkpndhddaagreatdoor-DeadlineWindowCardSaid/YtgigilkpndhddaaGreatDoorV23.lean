/- Parts of the proof. -/
import Derived.Test.YtgigilkpndhddaaGreatDoorV12
import Derived.Test.YtgigilkpndhddaaGreatDoorV20
import Derived.Test.YtgigilkpndhddaaGreatDoorV22
set_option linter.all false
set_option maxRecDepth 100000
set_option maxHeartbeats 16000000
namespace Go.Proofs.YtgigilkpndhddaaGreatDoor.syn
open Tryz
open Go.RowKit Go.Sort Go.Shelf
attribute [local go_sem] ZT
def RB'(ja:Option Addr)(N:Nat)(W:World):Prop:=N=0∨∃g d,ja=some ⟨g,0,none⟩∧JH W g 0 d∧d.size=N
def ZeM(ja:Option Addr)(N:Nat)(pre:List (Nat×YK))(x:Nat×YK)(W:World):Prop:=pre.length<N∧x.1=N-1-pre.length∧∃g d,ja=some ⟨g,0,none⟩∧JH W g 0 d∧d.size=N∧x.2=d[x.1]!
def jvs(x:Nat×YK):Array Value:=#[.int .i64 (x.1:Int),.agg #[.int .i64 x.2.t,.int .i64 x.2.n,.int .i64 x.2.r,.int .i64 x.2.d,.slice x.2.na x.2.nl x.2.nc]]
theorem Zbb(U:Option Addr)(cj N:Nat)(hN:N≤1000000)(f n l:Nat)(J:List (Nat×YK)→World→Prop)(W:World)(hJ:OwnFrom W.heap.size J)(hR:∀pre W1,J pre W1→RB' U N W1)
  (hY:∀m pre x W1,J pre W1→ZeM U N pre x W1→YieldAt Fence.wide m prog l (jvs x) W1 fun e W'=>e=.returned (.bool true)∧J (pre++[x]) W'∧KD f f W1 W')
  (hb1:Boxed W f 37 (.slice U N cj))(h0:J [] W):
  CallsIn Fence.wide n prog 115 #[.func (.yield l) #[] #[],.pointer (some ⟨f,0,none⟩)] W fun e W'=>(∃v,e=.returned v)∧∃xs,xs.length=N∧J xs W':=by
 have HY:=hid hY;have HR:=hid hR;have HB1:=hid hb1;have X:=hid h0;have I:=hb1.cell;have v0:IntKind.i64.wrap ((N:Int)-1)=(N:Int)-1:=ZK _ oq;clear hY hR hb1 h0 hJ;refine callsIn_of_wp func115 rfl trivial ?_ rfl;simp only[ntmps115,ZI,Zp,Zw,Nat.reduceAdd,Nat.reduceSub,ZF,ZE,ZL,ZJ,ZM,ZC];gi_wp2;clear I;gi_loopw [3] (fun v wr=>Hid (∃(k:Nat)(C:List (Nat×YK)),v=.int .i64 ((k:Int)-1)∧k≤N∧C.length+k=N∧J C wr∧KD f f W wr)) (fun i _=>(intOf i+1).toNat)
 case atStart=>exact⟨N,[],by first|rfl|(rw[v0])|(go_num;rw[v0]),Zc _,by simp,X.out,KD.refl _ _ _⟩
 obtain⟨k,C,hv,hk,T,hj,A⟩:=hrel.out;clear hrel;have H:Boxed wr f 37 (.slice U N cj):=A f (.inl rfl) _ HB1.out rfl;have I:=H.cell;have HK:=hid A;have D:=hid hj;have q:=hid T;have R:=HR.out _ _ hj;clear A hj T H
 cases k with
 | zero =>
  obtain rfl:=hv;have V:((0:Nat):Int)-1=-1:=rfl
  try rw[V]
  clear R;gi_wp2;go_end0;exact⟨⟨_,rfl⟩,C,by have:=q.out;omega,D.out⟩
 | succ j =>
  have V:((j+1:Nat):Int)-1=(j:Int):=oq;rw[V]at hv;obtain rfl:=hv;clear V;obtain⟨g,d,M,y,L⟩:=R.resolve_left oq;obtain⟨⟨y0,y1,y2,y3,y4⟩,_⟩:=y.cell (i:=j) oq;have ab:=q.out;have E:=hid (show ZeM U N C (j,d[j]!) wr from ⟨oq,by show j=_;omega,g,d,M,y,L,rfl⟩);obtain⟨z,hz⟩:∃z,d[j]! = z:=⟨_,rfl⟩;rw[hz]at y0 y1 y2 y3 y4 E;obtain⟨z0,z1,z2,z3,z4,z5,z6⟩:=z;simp only[ZD]at y0 y1 y2 y3 y4;obtain⟨fn,ac,assign,body,hy,G⟩:=HY.out (n-1) C _ wr D.out E.out;unfold jvs at hy;simp only at hy;have aa:=hid G;have j0:(0:Int)≤(j:Int):=oq;have j1:(j:Int)<(N:Int):=oq;subst M;clear y L hz G ab;gi_wp2;refine⟨(fun h=>by cases h),aa.out.mono ?_⟩;rintro e W1 ⟨rfl,F,O⟩;have Y:=hid F;have Z:=hid (HK.out.trans O);clear F O;gi_wp2;go_roundw
  case rel=>exact⟨j,C++[_],by go_num,oq,by have:=q.out;simp;omega,Y.out,Z.out⟩
  first|(simp[intOf];done)|(simp[intOf];omega)
theorem gY(ja:Option Addr)(cj N:Nat)(hN:N≤1000000)(b1 n:Nat)(w:World)(hb1:Boxed w b1 37 (.slice ja N cj)):
  ZeP Fence.wide n prog 115 #[.pointer (some ⟨b1,0,none⟩)] jvs (RB' ja N) (ZeM ja N) (KD b1 b1) (fun xs=>xs.length=N) w:=fun l J W hW hJ hR hY h0 =>
 Zbb ja cj N hN b1 n l J W hJ hR (fun m pre x W1 hj ho=>YieldAt.deep rfl m (hY pre x W1 hj ho)) ((hW.block _ hb1.lt).trans hb1) h0
theorem gX{w:World}(a:Option Addr)(n c:Nat):Calls prog 73 #[.slice a n c] w fun e w'=>e=.returned (.func (.func 115) #[] #[.pointer (some ⟨w.heap.size,0,none⟩)])∧w'=w.alloc (.cells #[.slice a n c] 37):=by
 go_enter func73,ntmps73;go_wp2;go_ret;exact⟨rfl,rfl⟩
attribute [local go_sem] ZT
theorem ZeT{t:Array Value}(h:t.size=47):t=#[slt t 0,slt t 1,slt t 2,slt t 3,slt t 4,slt t 5,slt t 6,slt t 7,slt t 8,slt t 9,slt t 10,slt t 11,slt t 12,slt t 13,slt t 14,slt t 15,slt t 16,slt t 17,slt t 18,slt t 19,slt t 20,slt t 21,slt t 22,slt t 23,slt t 24,slt t 25,slt t 26,slt t 27,slt t 28,slt t 29,slt t 30,slt t 31,slt t 32,slt t 33,slt t 34,slt t 35,slt t 36,slt t 37,slt t 38,slt t 39,slt t 40,slt t 41,slt t 42,slt t 43,slt t 44,slt t 45,slt t 46]:=JZ h
theorem Zfh{f:FD}{w:World}{an:Option Addr}(h:Row NdR 10 w f.nods an){k:Nat}(j:k<f.nods.length):∃b o,an=some ⟨b,o,none⟩∧b<w.heap.size∧w.cell? ⟨b,o+k*10+2,none⟩=some (.int .i64 f.nods[k].bud):=by
 obtain⟨b,o,rfl,hb,E,F,G,C,m,D,v,x,el,y,q,a,z,A,g,_⟩:=h.at j;exact⟨b,o,rfl,hb,g⟩
def S3(bw wb b3 bt ot t bn on k:Nat)(nN cn T ct:Nat)(bud:Int)(w':World):Prop:=w'.cell? ⟨bw,0,none⟩=some (.pointer (some ⟨wb,0,none⟩))∧w'.cell? ⟨wb,1,none⟩=some (.slice (some ⟨bn,on,none⟩) nN cn)∧w'.cell? ⟨wb,2,none⟩=some (.slice (some ⟨bt,ot,none⟩) T ct)∧w'.cell? ⟨b3,0,none⟩=some (.int .i64 (t:Int))∧w'.cell? ⟨bt,ot+t*4,none⟩=some (.int .i64 (k:Int))∧w'.cell? ⟨bn,on+k*10+2,none⟩=some (.int .i64 bud)
theorem Zcc(f:FD)(B:List (Nat×Nat))(i:Nat):(XP f B i).length≤(tkO f (B.getD i (0,0)).1).args.length:=by
 unfold XP;have h:=Q0 ((Uk f B i).mergeSort (fun x y=>decide (x≤y)));rw[List.length_mergeSort]at h;have g:(Uk f B i).length≤(tkO f (B.getD i (0,0)).1).args.length:=List.length_filterMap_le _ _;omega
def ZeF(w:World)(f:FD)(ai an aT al:Option Addr)(ci cn ct cl:Nat)(u:Int)(wb pb cp:Nat)(ja:Option Addr)(cj:Nat)(B:List (Nat×Nat))(d:Array YK)(e:Ending)(w':World):Prop :=
 e=.returned (.tuple #[])∧QI w' f ai an aT al ci cn ct cl u wb pb cp ja cj B (adjN f B d B.length)∧But (fun b=>jaB ja=some b) w w'
def Zgt(W:World)(b:Nat)(x:YK):Prop:=W.heap[b]?=some (.cells #[.int .i64 x.t,.int .i64 x.n,.int .i64 x.r,.int .i64 x.d,.slice x.na x.nl x.nc] 43 (0,0))
theorem qa{wS w:World}(f:FD)(ai an aT al:Option Addr)(ci cn ct cl:Nat)(hf:FAP wS f ai an aT al)(ak:RowKit.Below wS.heap.size wS w)(hr:RgF f)(order:List Int)(ho:Xa f order)(u:Int)(B:List (Nat×Nat))(hB:X6 f order u B)(O pb cp:Nat)(ja:Option Addr)(cj:Nat)
  (de:∀b,jaB ja=some b→wS.heap.size≤b)(d:Array YK)(hw:QI w f ai an aT al ci cn ct cl u O pb cp ja cj B d)(hN:B.length≤1000000)
  (af:∀k,k<B.length→d[k]!.t=((B.getD k (0,0)).1:Int))(aa:∀k,k<B.length→d[k]!.nl=(XP f B k).length∧∀W',BC (fun b=>jaB ja=some b) w W'→Row Gp 1 W' (XP f B k) d[k]!.na)(dc:DB 0 d):
  Calls prog 27 #[.pointer (some ⟨O,0,none⟩)] w (ZeF w f ai an aT al ci cn ct cl u O pb cp ja cj B d):=by
 have br:=hf.lens;have ar:=hw.sz;have cr:=hid (fun(W:World)(h1:RowKit.Below wS.heap.size wS W)=>hf.tasks.below zd h1);have co:=hid (fun(W:World)(h1:RowKit.Below wS.heap.size wS W)=>hf.nods.below Zey h1);have ab:=hid (DB.adjN hB ho hr ar dc);have bh:=hid aa;have bg:=hid (fun i (hi:i<B.length) (x:Int) (hx:x∈XP f B i)=>ZdM hB ho hr hi hx);have bc:=hid (fun i (hi:i<B.length)=>kH hB ho hr hi);have bj:=hid (fun i (hi:i<B.length)=>(show ∃t k:Nat,(B.getD i (0,0)).1=t∧d[i]!.t=(t:Int)∧t<f.tasks.length∧(tkO f t).node=(k:Int)∧∃h:k<f.nods.length,eE f B i=f.nods[k].bud from by
  have hb:B[i]?=some (B.getD i (0,0)):=by rw[Zf,Ze hi];rfl
  have ht:=af i hi;have cz:eE f B i=(f.nods.getD (tkO f (B.getD i (0,0)).1).node.toNat ⟨0,0⟩).bud:=rfl;obtain⟨⟨t,n⟩,ag⟩:=ez (B.getD i (0,0));rw[ag]at hb ht cz;rw[ag];have hm:=(hB.mem ho).1 (Ya hb);obtain⟨k,h1,h2,_⟩:=hr.node t hm.1;refine⟨t,k,rfl,ht,hm.1,h1,h2,?_⟩;rw[cz,h1,ZQ,Zf,Ze h2];rfl))
 have ds:=hid (fun t (ht:t<f.tasks.length)=>(show(tkO f t).args.length≤1000 from by rw[←UC ht];exact(hf.args _ (Zi ht)).1));have cd:=hid (show 0<B.length→∀b,jaB ja=some b→b<w.heap.size from fun h0 b e=>by
  obtain⟨g,e2,hj⟩:=hw.jobs.resolve_left oq;subst e2;injection e with e
  subst e;exact hj.lt)
 have cq:=hid (fun k=>VW f B d k);have dx:=hid de;have ch:=hid ak;have HW:=hid hw;have dj:=ak.size;obtain⟨N,bm⟩:=ez B.length;have ap:=hid bm;rw[bm]at hN ar ab bh bg bc bj cd;clear hf ak hr ho hB de hw br bm af aa dc;refine(Zt (n:=6)).1 ?_;refine callsIn_of_wp_marks func27 rfl trivial ?_ rfl;simp only[ntmps27,ZI,Zp,Zw,Nat.reduceAdd,Nat.reduceSub,ZF,ZE,ZL,ZJ,ZM,ZC];gi_upto_region 1 with fail
 obtain⟨W0,ac⟩:=ez (w.alloc (.cells #[.pointer (some ⟨O,0,none⟩)] 80));have bo:RowKit.Below w.heap.size w W0:=by rw[←ac];exact bq
 have eu:w.heap.size<W0.heap.size:=by rw[←ac];simp
 have bw:Boxed W0 w.heap.size 80 (.pointer (some ⟨O,0,none⟩)):=by rw[←ac];exact Boxed.new _ _ _
 rw[ac];clear ac;have bk:=hid (HW.out.below bo);obtain⟨⟨c0,c1,c2,c3,c4,c5,c6⟩,cf⟩:=Xf bk.out.box;rw[ar]at c5;have cx:=bw.cell;have bl:=hid bw;have ax:=hid (But.of_below (S:=fun b=>jaB ja=some b) bo);clear c0 c1 c2 c3 c4 c6 cf bw bo;gi_wp2_with (refine⟨trivial,?_⟩;gi_at_call 73;refine(Zt.2 (gX _ _ _)).mono ?_;rintro e w' ⟨rfl,rfl⟩);clear c5 cx;obtain⟨W2,ae⟩:=ez (W0.alloc (.cells #[.slice ja N cj] 37));have hb2:RowKit.Below W0.heap.size W0 W2:=by rw[←ae];exact bq
 have ev:W0.heap.size<W2.heap.size:=by rw[←ae];simp
 have dr:Boxed W2 W0.heap.size 37 (.slice ja N cj):=by rw[←ae];exact Boxed.new _ _ _
 rw[ae];clear ae;have dy:=hid (Zh (bk.out.below hb2) (Zh ((hb2.block _ bl.out.lt).trans bl.out) (ax.out.then (But.of_below (S:=fun _=>False) hb2) (fun _ _ e=>e.elim))));have ed:=hid dr;clear hb2 dr bk bl ax;refine xk (F:=Fence.wide) (gf:=115) (lb:=#[.pointer (some ⟨W0.heap.size,0,none⟩)]) rfl oq rfl trivial (enters_of func115 kq rfl)
  (gY ja cj N hN W0.heap.size _ W2 ed.out) (fun h k=>h.trans k) (fun W l o o' _ h hc=>KD.putObj W l o o' h hc) (fun W W' h=>KD.of_below h) (fun _=>rfl)
  (fun pre W=>QI W f ai an aT al ci cn ct cl u O pb cp ja cj B (adjN f B d pre.length)∧Boxed W w.heap.size 80 (.pointer (some ⟨O,0,none⟩))∧But (fun b=>jaB ja=some b) w W)
  (fun s A C row hs hg hrw=>by
   obtain⟨X,g2,g3⟩:=hs;exact⟨X.bcE (Eb hg (fun r e=>(hrw r e).2)),boxed_own _ _ (fun(_:Unit)=>Value.pointer (some ⟨O,0,none⟩)) () A C row g2 hg (fun r e=>(hrw r e).2),g3.then (But.of_grown hg) (fun k hk e=>by have:=(hrw k e).1;omega)⟩)
  (fun pre W h=>by
   by_cases h0:N=0
   ·exact .inl h0
   have hz:=h.1.sz;rw[ap.out]at hz;obtain⟨g,h1,h2⟩:=h.1.jobs.resolve_left oq;exact .inr ⟨g,_,h1,h2,hz⟩) dy.out
  (fun pre y a' W=>(pre.length<N∧y.1=N-1-pre.length∧y.2=(adjN f B d pre.length)[N-1-pre.length]!)∧∃b3,w.heap.size≤b3∧Zgt W b3 y.2∧a'.tmps.size=47∧slt a'.tmps 1=.pointer (some ⟨w.heap.size,0,none⟩)∧slt a'.tmps 3=.pointer (some ⟨b3,0,none⟩)∧a'.defers=[])
  (fun pre y a' s A C row hs hg hrw=>by
   obtain⟨h1,b3,h2,h3,h4⟩:=hs;exact⟨h1,b3,h2,Gb h3 hg (fun r e=>(hrw r e).2),h4⟩) ?assign ?body ?done
 case assign =>
  rintro l pre ⟨i,y⟩ W K hi ⟨hx,I,g,d',G,Z,ep,hy⟩ hK;simp only at I hy;have ej:=hi.1.sz;rw[ap.out]at ej;obtain⟨g2,q,bb⟩:=hi.1.jobs.resolve_left oq;rw[G]at q;injection q with q
  injection q with q
  subst q;have z:y=(adjN f B d pre.length)[N-1-pre.length]!:=by rw[hy,←I];exact Z.inj bb oq oq
  have ee:=hid z;have be:=hid hi;have eh:=hi.2.2.size;clear hy z Z bb hi G;obtain⟨y0,y1,y2,y3,y4,y5,y6⟩:=y;unfold jvs;simp only;gi_wp2;exact hK _ _ ((RowKit.Below.refl _ _).alloc (Zc _) _) ⟨be.out.1.below ((RowKit.Below.refl _ _).alloc (Zc _) _),be.out.2.1.alloc _,be.out.2.2.then (But.of_below (S:=fun _=>False) ((RowKit.Below.refl _ _).alloc (Zc _) _)) (fun _ _ e=>e.elim)⟩ ⟨⟨hx,I,ee.out⟩,W.heap.size,eh,Yw W _,by simp,by simp[slt],by simp[slt],rfl⟩
 case body =>
  rintro l pre ⟨i,y⟩ ⟨t,dd⟩ W hl hr ⟨X,g2,g3⟩ ⟨⟨hx,I,z⟩,b3,hb3,av,L,s1,s3,hd⟩;simp only at L s1 s3 hd I z;subst hd;rw[ZeT L,s1,s3];generalize slt t 0=u0,slt t 2=u2,slt t 4=u4,slt t 5=u5,slt t 6=u6,slt t 7=u7,slt t 8=u8,slt t 9=u9,slt t 10=u10,slt t 11=u11,slt t 12=u12,slt t 13=u13,slt t 14=u14,slt t 15=u15,slt t 16=u16,slt t 17=u17,slt t 18=u18,slt t 19=u19,slt t 20=u20,slt t 21=u21,slt t 22=u22,slt t 23=u23,slt t 24=u24,slt t 25=u25,slt t 26=u26,slt t 27=u27,slt t 28=u28,slt t 29=u29,slt t 30=u30,slt t 31=u31,slt t 32=u32,slt t 33=u33,slt t 34=u34,slt t 35=u35,slt t 36=u36,slt t 37=u37,slt t 38=u38,slt t 39=u39,slt t 40=u40,slt t 41=u41,slt t 42=u42,slt t 43=u43,slt t 44=u44,slt t 45=u45,slt t 46=u46;clear L s1 s3 t;have au:i<N:=oq;obtain⟨t,k,cy,dm,dl,di,eg,R⟩:=bj.out i au;have ag:=bc.out i au;rw[R]at ag;obtain⟨dk,ah⟩:=ez (adjN f B d pre.length);rw[ah]at X z;have bu:QF d dk:=by rw[←ah];exact cq.out pre.length
  have ay:DB pre.length dk:=by rw[←ah];exact ab.out pre.length oq
  have aj:dk.size=N:=by rw[bu.1];exact ar
  rw[←I]at z;obtain⟨y0,y1,y2,y3,y4,y5,y6⟩:=y;obtain⟨m0,m1,m2,m3,m4,m5⟩:=bu.2 i;have aa:=bh.out i au;have bx:=ay i oq;rw[←z]at m0 m1 m2 m3 m4 m5 bx;simp only at m0 m3 m4 bx;rw[dm]at m0;rw[aa.1]at m4;have v:=aa.2;rw[←m3]at v;subst m0;have H:=Zcc f B i;rw[cy]at H;have ef:=ds.out t dl;obtain⟨E,U⟩:=ez (XP f B i);rw[U]at H;have am:=bg.out i au;rw[U]at m4 v am;obtain⟨M,hM⟩:=ez E.length;rw[hM]at m4 H;have eo:M≤1000:=oq;clear H ef;replace m4:=m4.symm;subst m4;obtain⟨j,bp⟩:∃j,f.nods[k].bud=j:=⟨_,rfl⟩;rw[bp]at ag R;have bz:=hid (show adjN f B d (pre++[(i,(⟨(t:Int),y1,y2,y3,y4,M,y6⟩:YK))]).length=bringL (y3-j) dk E from by
   have e1:(pre++[(i,(⟨(t:Int),y1,y2,y3,y4,M,y6⟩:YK))]).length=pre.length+1:=by simp
   rw[e1];show ZeS f B (adjN f B d pre.length) (B.length-1-pre.length)=_;rw[ah,ap.out,←I];unfold ZeS;rw[←z,U,R])
  have bi:=hid v;have ck:=hid am;have cm:=hid hM;clear ah z bu m1 m2 m3 m5 aa U v am cy dm ay hM;have J:RowKit.Below wS.heap.size wS W:=ch.out.trans (g3.below dj (fun b e=>dx.out b e));obtain⟨bt,ot,ta,tc,cv,em,z0,_⟩:=xA (cr.out W J) dl;obtain⟨bn,on,cw,el,zb⟩:=Zfh (co.out W J) eg;rw[di]at z0;rw[bp]at zb;obtain⟨⟨c0,c1,c2,c3,c4,c5,c6⟩,cf⟩:=Xf X.box;rw[cv]at c2;rw[cw]at c1;have KS1:=hid (show S3 w.heap.size O b3 bt ot t bn on k f.nods.length cn f.tasks.length ct j W.drew from ⟨g2.cell,c1,c2,Z7 W.drew b3 0 _ _ _ av,z0,zb⟩);have ce:=hid av;obtain⟨g,G,Z⟩:=X.jobs.resolve_left oq;have eq:=cd.out oq g (by rw[G];rfl);have ea:=hid G;have bf:=hid (show jaB ja=some g by rw[G];rfl);have eb:=hid Z;have bd:=hid X;have cc:=hid g2;have ao:=hid g3;have er:=g3.size;have dq:O≠g:=fun e=>X.ne (by rw[bf.out,e])
  rw[G,aj]at c5;have dv:=hid c5;have dg:=Zb av;have az:=g2.lt;have dp:=Zb X.box;have T:=Z.cells oq;have dw:=hid T;have t0:(0:Int)≤(t:Int):=oq;have t1:(t:Int)<(f.tasks.length:Int):=oq;have k0:(0:Int)≤(k:Int):=oq;have k1:(k:Int)<(f.nods.length:Int):=oq;have cu:=hid (show IntKind.i64.wrap (y3-j)=y3-j from ZK _ oq);have ca:=hid aj;clear aj I hx bx G Z X g2 g3 cv cw z0 zb c0 c1 c2 c3 c4 c5 c6 cf av T J hr cr co bj bc bg bh cq ab di bp R;gi_upto_region 3 with fail
  refine JB (S:=S3 w.heap.size O b3 bt ot t bn on k f.nods.length cn f.tasks.length ct j) kq kq (by rintro⟨_,_,h⟩;exact h) KS1.out (fun hHeld=>?_);refine tk 0 hHeld ?_;refine tk 1 hHeld ?_;refine tk 2 hHeld ?_;refine tk 3 hHeld ?_;refine tk 4 hHeld ?_;refine tk 5 hHeld ?_;refine tk 6 hHeld ?_;refine tk 7 hHeld ?_;refine tk 8 hHeld ?_;refine tk 9 hHeld ?_;refine tk 10 hHeld ?_;refine tk 11 hHeld ?_;refine tk 12 hHeld ?_;refine tk 13 hHeld ?_;refine tk 14 hHeld ?_;refine tk 15 hHeld ?_;refine tk 16 hHeld ?_;refine tk 17 hHeld ?_;refine ry 18 fun K hK=>?_
  go_simp;refine hK.out _ _ (fun hHeld=>?_) (by exact KS1.out);clear hK K;refine Zy kq ?_ _;obtain⟨⟨x0,x1,x2,x3,x4⟩,xf⟩:=GA (show W.heap[b3]?=_ from ce.out);simp only at x0 x1 x2 x3 x4;clear x0 x1 x2 x3;gi_wp2;clear x4 xf;gi_loopw [35] (fun s35 wr=>Hid (∃m:Nat,s35=.int .i64 (m:Int)∧m≤M∧JH wr g 0 (bringL (y3-j) dk (E.take m))∧But (fun k=>k=g) W wr)) (fun s _=>M-(intOf s).toNat)
  case atStart=>exact⟨0,rfl,Zk _,eb.out.but rfl,(But.refl _ W).drew⟩
  obtain⟨m,rfl,hm,aw,Y⟩:=hrel.out;clear hrel;have ba:=(Y.block b3 dg oq).trans ce.out;obtain⟨⟨x0,x1,x2,x3,x4⟩,xf⟩:=GA (show wr.heap[b3]?=_ from ba);simp only at x0 x1 x2 x3 x4;have cb:=Boxed.cell ((Y.block _ az oq).trans cc.out);have cg:=hid aw;have V:=hid Y;have L:(bringL (y3-j) dk (E.take m)).size=N:=by rw[(JO _ _ _).1];exact ca.out
  clear x0 x1 x2 ba;by_cases dh:m<M
  ·have H:m<E.length:=by rw[cm.out];exact dh
   obtain⟨en,ew,hq,et,bs⟩:=(bi.out wr ((BC.of_but ao.out).then (BC.of_but (V.out.imp (fun k _ e=>by rw[e];exact bf.out))))).at H;unfold Gp at bs;rw[Z8]at bs;have aq:=xT (x:=y3-j) (d:=dk) H;obtain⟨p,hp,es⟩:=ck.out E[m] (Zi H);rw[hp]at bs aq;rw[ZQ]at aq;have du:=hid aq;have db:wr.cell? ⟨O,5,none⟩=some (.slice (some ⟨g,0,none⟩) (bringL (y3-j) dk (E.take m)).size cj):=by rw[L];exact(Zn (w:=W) (a:=⟨O,5,none⟩) (Y.block O dp dq)).trans dv.out
   have dt:=hid (zC (W:=wr) O g 0 cj _ db aw p (by rw[L];omega) (y3-j));have i0:(0:Int)≤(m:Int):=oq;have i1:(m:Int)<(M:Int):=oq;subst hq;have dn:=cu.out;clear aw Y aq hp db;gi_wp2_with (refine⟨trivial,?_⟩;gi_at_call 72;refine(CallsIn.inRound l (Zt.2 dt.out)).mono ?_;rintro e w4 ⟨rfl,df,hb4⟩;have dz:=hid df;have HB4:=hid hb4;clear df hb4);clear dn;exact⟨hid ⟨m+1,by go_num,dh,by rw[du.out];exact dz.out,V.out.then HB4.out (fun _ _ e=>e)⟩,by simp[intOf];omega⟩
  obtain rfl:m=M:=oq;have i1:¬(m:Int)<(m:Int):=oq;have bv:E.take m=E:=by rw[←cm.out];exact ZS
  rw[bv]at cg L;have ek:=hid bv;clear aw Y bv;gi_wp2;have da:But (fun b=>jaB ja=some b) W wr:=V.out.imp (fun k _ e=>by rw[e];exact bf.out);exact⟨zX V.out dw.out,KD.of_but V.out oq oq,(by rw[bz.out];exact bd.out.but da (JO _ _ _).1 (.inr ⟨g,ea.out,cg.out⟩)),(V.out.block _ az oq).trans cc.out,ao.out.then da (fun _ _ e=>e)⟩
 rintro D xs W hD ei ⟨X,g2,g3⟩ hk;rw[ei,←ap.out]at X;have bd:=hid X;have ao:=hid g3;have ec:=hid ((Mk.nil w.heap.size 0 W).cons oq (Zk _) hk);clear X g3;gi_wp2;refine ec.out.leaves (fun W' hW'=>⟨.tuple #[],?_,?_⟩)
 ·exact results_none rfl _ _ _
 exact⟨rfl,bd.out.mk' hW',ao.out.then (show But (fun k=>w.heap.size≤k) W W' from ⟨hW'.os,hW'.tape,hW'.output,Nat.le_of_eq hW'.size.symm,fun k _ hk=>hW'.low k oq⟩) (fun k hk e=>oq)⟩
structure ZfP (W:World) (f:FD) (order:List Int) (u:Int) (B:List (Nat×Nat)) (ja:Option Addr) (d:Array YK):Prop where
 win:X6 f order u B
 ord:Xa f order
 rgf:RgF f
 sz:d.size=B.length
 jobs:JR W ja d
 from_:∃dN,(∀k,k<B.length→dN[k]!.t=((B.getD k (0,0)).1:Int)∧dN[k]!.n=((B.getD k (0,0)).2:Int)∧dN[k]!.r=Jm f (B.getD k (0,0))∧dN[k]!.d=Jm f (B.getD k (0,0))+(tkO f (B.getD k (0,0)).1).per)∧dN.size=B.length∧d=adjN f B (JG f B u dN f.tells) B.length
 needs:∀k,k<B.length→d[k]!.nl=(XP f B k).length∧Row Gp 1 W (XP f B k) d[k]!.na
def Gt(f:FD)(u:Int)(x:Ending)(w':World):Prop :=
 if Xp f=true∧(0≤u∧u≤20000) then match ofP f with
  | none=>x=.returned (.tuple #[.slice none 0 0,.int .i64 6])
  | some l=>if 4000<Q3 f u f.tasks.length then x=.returned (.tuple #[.slice none 0 0,.int .i64 8]) else ∃B ja cj d,x=.returned (.tuple #[.slice ja d.size cj,.int .i64 0])∧ZfP w' f l u B ja d
 else x=.returned (.tuple #[.slice none 0 0,.int .i64 12])
theorem Zff{W:World}{f:FD}{order:List Int}{u:Int}{B:List (Nat×Nat)}(x:X6 f order u B)(z:Xa f order)(y:zi f)(G:u≤20000){C:Option Addr}{d:Array YK}{i:Nat}(h:NdS W f B C d i)(A:d.size=B.length):DB 0 d:=by
 intro p m;rw[A]at m;have q:=(h.base p m).2.2.2;have hb:B[p]?=some (B.getD p (0,0)):=by rw[Zf,Ze m];rfl
 obtain⟨⟨t,n⟩,g⟩:=ez (B.getD p (0,0));rw[g]at hb q;have v:=(x.mem z).1 (Ya hb);have j:=y t v.1;have D:=(Jl j.1 n).1 v.2;have E:=Int.mul_nonneg (show 0≤(n:Int) by omega) (show 0≤(tkO f t).per by omega);have F:Jm f (t,n)=(tkO f t).ph+(n:Int)*(tkO f t).per:=rfl;simp only at q;omega
theorem Zeo{f:FD}{order:List Int}{u:Int}{B:List (Nat×Nat)}(m:X6 f order u B)(g:Xa f order)(q:zi f)(A:f.tasks.length≤30)(v:u≤20000):B.length≤1000000:=by
 have j:=ve q v g.rng order.length (Zc _);rw[ZS]at j;have x:=m.perm.length_eq;have z:order.length≤30:=by
  have:=List.Nodup.length_le_of_subset (l₂:=(List.range f.tasks.length).map (fun k:Nat=>(k:Int))) g.nd (by
   intro y hy;have:=g.rng y hy;exact Ye.2 ⟨y.toNat,List.mem_range.2 oq,oq⟩)
  rw[Zo,List.length_range]at this;omega
 omega
theorem eQ{w:World}(f:FD)(T an R U:Option Addr)(ci cn ct cl:Nat)(hf:FAP w f T an R U)(u:Int):
  Calls prog 8 #[fv f T an R U ci cn ct cl,.int .i64 u] w fun x w'=>Gt f u x w'∧RowKit.Below w.heap.size w w':=by
 have C:=hid (fun W (hb:RowKit.Below w.heap.size w W)=>Uf (w:=W) f T an R U ci cn ct cl (hf.below hb));have A:=hid (fun W (hb:RowKit.Below w.heap.size w W)=>Zfi (w:=W) f T an R U ci cn ct cl (hf.below hb));have O:=hid (fun W (hb:RowKit.Below w.heap.size w W) (hr:RgF f) (hu:u≤20000)=>jY (w:=W) f T an R U ci cn ct cl (hf.below hb) hr.clk hr.few u hu);have ba:=hid (fun W (hb:RowKit.Below w.heap.size w W) (hr:RgF f) (hu:u≤20000) (order:List Int) (ao:Option Addr) (co:Nat) (hro:Row Gp 1 W order ao) (ho:Xa f order)=>(Zt (n:=6)).1 (zm (w:=W) f T an R U ci cn ct cl (hf.below hb) hr.clk hr.few order ao co hro ho u hu));have HF:=hid hf;clear hf;unfold Gt;unfold fv at *;obtain⟨ri,z⟩:=ez (Xp f);rw[z]at C;obtain⟨W1,g⟩:=ez (w.alloc (.cells #[.slice T f.ins.length ci,.slice an f.nods.length cn,.slice R f.tasks.length ct,.slice U f.tells.length cl] 34));have hB:RowKit.Below w.heap.size w W1:=by rw[←g];exact bq
 have ac:W1.heap[w.heap.size]?=some (.cells #[.slice T f.ins.length ci,.slice an f.nods.length cn,.slice R f.tasks.length ct,.slice U f.tells.length cl] 34 (0,0)):=by rw[←g];exact Yw w _
 have HB:=hid hB;have am:=hid ac;obtain⟨⟨x0,x1,x2,x3⟩,xf⟩:=Yx ac;have V:w.heap.size<W1.heap.size:=Zb ac;clear hB ac
 cases ri with
 | false =>
  have v:¬(Xp f=true∧(0≤u∧u≤20000)):=fun h=>by rw[z]at h;cases h.1
  simp only[Z1 v];clear v z;go_enter func8,ntmps8;go_upto_region 1 with fail
  first|rw[g]|skip
  clear g;go_wp2_with (go_at_call 21;refine(C.out _ HB.out).mono ?_;rintro x w2 ⟨rfl,hb2⟩;have HB2:=hid hb2;clear hb2);go_ret2;exact⟨rfl,HB.out.trans (HB2.out.mono oq)⟩
 | true =>
  by_cases aq:0≤u
  ·by_cases y:u≤20000
   ·have v:Xp f=true∧(0≤u∧u≤20000):=⟨z,aq,y⟩;simp only[Z2 v];have q:=hid (yi z);clear v z;have u0:¬u<0:=oq;have u1:¬u > 20000:=oq
    cases ho:ofP f with
    | none =>
     rw[ho]at A;simp only[ZaZ]at A;simp only;go_enter func8,ntmps8;go_upto_region 1 with fail
     first|rw[g]|skip
     clear g;go_wp2_with (first|(go_at_call 21;refine(C.out _ HB.out).mono ?_;rintro x w2 ⟨rfl,hb2⟩;have HB2:=hid (HB.out.trans (hb2.mono oq));obtain⟨⟨y0,y1,y2,y3⟩,yf⟩:=Yx ((hb2.block _ V).trans am.out);clear hb2)|(go_at_call 22;refine(A.out _ HB2.out).mono ?_;rintro x w4 ⟨rfl,hb4⟩;have HB4:=hid (HB2.out.trans (hb4.mono HB2.out.size));clear hb4));go_ret2;exact⟨rfl,HB4.out⟩
    | some l =>
     rw[ho]at A;simp only[ZaZ]at A;simp only;have HO:=hid (qR ho);clear ho;obtain⟨mt,ab⟩:=ez (Q3 f u f.tasks.length);rw[ab]at O;simp only[ab];by_cases j:4000<mt
     ·rw[Z0 j]at O;simp only[Z2 j];clear j ab;go_enter func8,ntmps8;go_upto_region 1 with fail
      first|rw[g]|skip
      clear g;go_wp2_with (first|(go_at_call 21;refine(C.out _ HB.out).mono ?_;rintro x w2 ⟨rfl,hb2⟩;have HB2:=hid (HB.out.trans (hb2.mono oq));have aa:w.heap.size<w2.heap.size:=Zd V hb2.size;have M:=hid ((hb2.block _ V).trans am.out);obtain⟨⟨y0,y1,y2,y3⟩,yf⟩:=Yx M.out;clear hb2)|(go_at_call 22;refine(A.out _ HB2.out).mono ?_;rintro x w4 ⟨⟨v4,rfl,X⟩,hb4⟩;have HB4:=hid (HB2.out.trans (hb4.mono HB2.out.size));obtain⟨⟨z0,z1,z2,z3⟩,zf⟩:=Yx ((hb4.block _ aa).trans M.out);clear hb4 X)|(go_at_call 23;refine(O.out _ HB4.out q.out y).mono ?_;rintro x w5 ⟨rfl,hb5⟩;have HB5:=hid (HB4.out.trans (hb5.mono HB4.out.size));clear hb5));go_ret2;exact⟨rfl,HB5.out⟩
     rw[ZZ j]at O;simp only[Z1 j];clear j ab;go_enter func8,ntmps8;go_upto_region 1 with fail
     first|rw[g]|skip
     clear g;go_wp2_with (first|(go_at_call 21;refine(C.out _ HB.out).mono ?_;rintro x w2 ⟨rfl,hb2⟩;have HB2:=hid (HB.out.trans (hb2.mono oq));have aa:w.heap.size<w2.heap.size:=Zd V hb2.size;have M:=hid ((hb2.block _ V).trans am.out);obtain⟨⟨y0,y1,y2,y3⟩,yf⟩:=Yx M.out;clear hb2)|(go_at_call 22;refine(A.out _ HB2.out).mono ?_;rintro x w4 ⟨⟨v4,rfl,X⟩,hb4⟩;obtain⟨a4,c4,rfl⟩:=YI X;have bb:=hid (Zcu X (S:=fun _=>False) (fun _ h=>h.elim) (BC.of_but (But.refl _ w4))).2;have HB4:=hid (HB2.out.trans (hb4.mono HB2.out.size));have bd:w.heap.size<w4.heap.size:=Zd aa hb4.size;have av:=hid ((hb4.block _ aa).trans M.out);obtain⟨⟨z0,z1,z2,z3⟩,zf⟩:=Yx av.out;clear hb4 X)|(go_at_call 23;refine(O.out _ HB4.out q.out y).mono ?_;rintro x w5 ⟨rfl,hb5⟩;have HB5:=hid (HB4.out.trans (hb5.mono HB4.out.size));have aw:=hid (bb.out.below ue hb5);obtain⟨⟨q0,q1,q2,q3⟩,qf⟩:=Yx ((hb5.block _ bd).trans av.out);clear hb5)|(go_at_call 24;refine(ba.out _ HB5.out q.out y l a4 c4 aw.out HO.out).mono ?_;rintro x w6 be;obtain⟨wb,pb,ja,cj,B,rfl,G,ax,hb6,ap⟩:=be;have E:=hid G;have HB6:=hid hb6;have H:=hid ap;have I:=hid (Zeo G HO.out q.out.clk q.out.few y);have az:=hid (eT (wS:=w5) (w:=w6) f T an R U ci cn ct cl (HF.out.below HB5.out) hb6 q.out l HO.out u B G wb pb f.tasks.length ja cj ap ax I.out);clear G ax hb6 ap)|(go_at_call 25;refine az.out.mono ?_;rintro x w7 ⟨rfl,dN,Y,aj,ag⟩;have m:=hid aj;have J:=hid (HB6.out.trans (ag.below HB6.out.size (fun b e=>H.out b e)));have au:=hid Y.sz;have bc:=hid (eW (wS:=w5) (w:=w7) f T an R U ci cn ct cl (HF.out.below HB5.out) J.out q.out l HO.out u y B E.out wb pb f.tasks.length ja cj H.out dN Y I.out);clear Y aj ag)|(go_at_call 26;refine bc.out.mono ?_;rintro x w8 ⟨rfl,ak,F⟩;have ar:=hid F;have L:=hid (J.out.trans (F.below J.out.size (fun b e=>H.out b e)));have D:=VR f B u f.tells dN;have ay:=hid (qa (wS:=w5) (w:=w8) f T an R U ci cn ct cl (HF.out.below HB5.out) L.out q.out l HO.out u B E.out wb pb f.tasks.length ja cj H.out (JG f B u dN f.tells) ak I.out (fun k hk=>by rw[(D.2 k).1];exact(m.out.base k hk).1) (fun k hk=>⟨by rw[(D.2 k).2.2.2.2.1];exact(m.out.nd k hk).1,fun W' hW'=>by rw[(D.2 k).2.2.2.1];exact(m.out.nd k hk).2 W' ((BC.of_but F).then hW')⟩) (DB.tells f.tells (fun t ht=>by have h1:=q.out.tel t ht;have h2:=clock.Xq.1 (QO h1.2).1;exact⟨h2.1,h2.2.2.1,h1.1.1⟩) (Zff E.out HO.out q.out.clk y m.out au.out)));clear ak F D)|(go_at_call 27;refine ay.out.mono ?_;rintro x w9 ⟨rfl,Z,ah⟩;have af:=hid Z;have ae:=hid ah;obtain⟨⟨p0,p1,p2,p3,p4,p5,p6⟩,pf⟩:=Xf Z.box;clear Z ah));go_ret2;refine⟨⟨B,ja,cj,_,rfl,E.out,HO.out,q.out,af.out.sz,af.out.jobs,⟨dN,m.out.base,au.out,rfl⟩,fun k hk=>?_⟩,?_⟩
     ·have D:=(VR f B u f.tells dN).trans (VW f B (JG f B u dN f.tells) B.length);rw[(D.2 k).2.2.2.2.1,(D.2 k).2.2.2.1];exact⟨(m.out.nd k hk).1,(m.out.nd k hk).2 w9 ((BC.of_but ar.out).then (BC.of_but ae.out))⟩
     exact HB5.out.trans ((L.out.trans (ae.out.below L.out.size (fun b e=>H.out b e))).mono HB5.out.size)
   have v:¬(Xp f=true∧(0≤u∧u≤20000)):=fun h=>y h.2.2
   simp only[Z1 v];have u0:¬u<0:=oq;have u1:u > 20000:=oq;clear v z y;go_enter func8,ntmps8;go_upto_region 1 with fail
   first|rw[g]|skip
   clear g;go_wp2_with (go_at_call 21;refine(C.out _ HB.out).mono ?_;rintro x w2 ⟨rfl,hb2⟩;have HB2:=hid hb2;clear hb2);go_ret2;exact⟨rfl,HB.out.trans (HB2.out.mono oq)⟩
  have v:¬(Xp f=true∧(0≤u∧u≤20000)):=fun h=>aq h.2.1
  simp only[Z1 v];have u0:u<0:=oq;clear v z aq;go_enter func8,ntmps8;go_upto_region 1 with fail
  first|rw[g]|skip
  clear g;go_wp2_with (go_at_call 21;refine(C.out _ HB.out).mono ?_;rintro x w2 ⟨rfl,hb2⟩;have HB2:=hid hb2;clear hb2);go_ret2;exact⟨rfl,HB.out.trans (HB2.out.mono oq)⟩
open Go.RowKit
def GWd(f:FD):Prop:=Xp f=true∧f.ins.length≤1000∧f.tells.length≤1000∧∀t∈f.tasks,t.args.length≤1000
theorem zO{f:FD}{a:AD}{j g:Int}(h:X2 f a j g=true):∃s,XR f a.src=some s∧a.ops.length≤20∧(clock.Ur s.1 s.2 a.ops).2.2=0:=by
 unfold X2 at h
 cases hs:XR f a.src with
 | none=>rw[hs]at h;cases h
 | some s =>
  rw[hs]at h;simp only[ZB,Yk]at h;exact⟨s,rfl,h.1,h.2.1⟩
theorem Zgd{f:FD}(h:GWd f):RdG f∧(YV f).length≤2000000:=by
 obtain⟨z,v,y,q⟩:=h;have m:=yi z;have C:=m.few;have key:∀x∈YV f,(∃s,XR f x.1.src=some s∧x.1.ops.length≤20∧(clock.Ur s.1 s.2 x.1.ops).2.2=0)∧0≤x.2∧x.2≤1000:=by
  intro x g;unfold YV at g;rcases List.mem_append.1 g with g|g
  ·obtain⟨t,ht,g⟩:=List.mem_flatMap.1 g;obtain⟨a,A,rfl⟩:=Ye.1 g;obtain⟨i,hi,e⟩:=Ym ht;have j:=m.fits i hi a (by rw[←UC hi,e];exact A);exact⟨zO j,by simp only;omega,by simp only;omega⟩
  obtain⟨t,ht,rfl⟩:=Ye.1 g;have j:=m.tel t ht;exact⟨zO j.2,by have:=j.1;simp only;omega,by have:=j.1;simp only;omega⟩
 exact⟨Zfr (fun p f k n d p1 f1 h=>(Ji h).2.1) (fun x g=>(key x g).1) (fun x g=>(key x g).2) ⟨v,oq⟩,Zcw q oq y⟩
theorem Zfb{p:PG}{base:Nat}{x:Ending}{w':World}(h:uW p base x w'):MdG GWd x w':=by
 rcases h with h|⟨v,env,hx,hmk,hr,hN,hC,h30,hfew⟩
 ·exact .inl h
 have f:=hr.ok;have F:=GD f hN hC;have g:∀o∈p.outs,∃j,fI p o.fl=some j∧j<p.flows.length:=fun o ho=>by
  obtain⟨i,hi,q⟩:=Ym ho;have:=hN.outs i hi;rw[q]at this;exact vP this
 obtain⟨z,an,y,A,C,D,E,cl,G,m⟩:=ZdJ hmk f F h30 g;exact .inr ⟨zk p env,z,an,y,A,C,D,E,cl,by rw[hx,G],m,ui hr hN hC h30 hfew,m.lens.1,m.lens.2.2.2,fun t ht=>(m.args t ht).1⟩
theorem jH{W:World}{f:FD}{j an g m:Option Addr}{q v y cl:Nat}(z:FAP W f j an g m)(h:Xp f=true):Calls prog 21 #[fv f j an g m q v y cl] W fun x w'=>x=.returned (.bool true)∧Below W.heap.size W w':=by
 have:=Uf (w:=W) f j an g m q v y cl z;rw[h]at this;exact this
theorem ZcQ(W:World)(f:FD)(ai an aT al:Option Addr)(ci cn ct cl:Nat)(hf:FAP W f ai an aT al)(i:Int)(hi:I64 i):Calls prog 76 #[fv f ai an aT al ci cn ct cl,.int .i64 i] W fun x w'=>x=.returned (VO (XR f i))∧Below W.heap.size W w':=Uy (w:=W) f ai an aT al ci cn ct cl hf i hi
theorem ZdF{f:FD}{u:Int}{x:Ending}{w':World}(h:Gt f u x w'):∃v e,x=.returned (.tuple #[v,.int .i64 e])∧((u<0∨20000<u)→e=12):=by
 unfold Gt at h;split at h
 ·rename_i hc
  have g:∀e:Int,(u<0∨20000<u)→e=12:=fun e h2=>oq
  split at h
  ·exact⟨_,_,h,g _⟩
  split at h
  ·exact⟨_,_,h,g _⟩
  obtain⟨_,_,_,_,h,_⟩:=h;exact⟨_,_,h,g _⟩
 exact⟨_,_,h,fun _=>rfl⟩
theorem Zfw:Xp fdW=true:=by decide +kernel
theorem zr{w:World}(p0 p1 p2 p3:Option Addr)(n0 n1 n2 n3 c0 c1 c2 c3:Nat)(u:Int)
  (hM:∀W,Below w.heap.size w W→Calls prog 7 #[.agg #[.slice p0 n0 c0,.slice p1 n1 c1,.slice p2 n2 c2,.slice p3 n3 c3]] W fun x w'=>MdG GWd x w'∧Below W.heap.size W w'):
  Calls prog 4 #[.agg #[.slice p0 n0 c0,.slice p1 n1 c1,.slice p2 n2 c2,.slice p3 n3 c3],.int .i64 u] w fun x w'=>x=.returned (.bool true)∧Below w.heap.size w w' :=
 uP GWd p0 p1 p2 p3 n0 n1 n2 n3 c0 c1 c2 c3 u hM (Zdo (fun W f ai an aT al ci cn ct cl hf e=>jH hf (by rw[e];exact Zfw)) ZcQ) (fun f h=>Zgd h) (fun W f ai an aT al ci cn ct cl hf h=>jH hf h.1) ZcQ clock.jF
  (fun W f ai an aT al ci cn ct cl hf=>(eQ (w:=W) f ai an aT al ci cn ct cl hf u).mono fun x w' h=>⟨ZdF h.1,h.2⟩)
end Go.Proofs.YtgigilkpndhddaaGreatDoor.syn
