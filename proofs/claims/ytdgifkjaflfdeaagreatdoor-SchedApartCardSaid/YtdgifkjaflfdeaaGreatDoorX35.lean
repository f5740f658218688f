/- Parts of the proof. -/
import Derived.Test.YtdgifkjaflfdeaaGreatDoorX34
set_option linter.all false
set_option maxRecDepth 100000
set_option maxHeartbeats 16000000
namespace Go.Proofs.YtdgifkjaflfdeaaGreatDoor.syn
open Tryz
open Go.RowKit Go.Sort Go.Shelf
variable {f:FD}{B:List (Nat × Nat)}{wS w W W' A:World}{u x:Int}{d:Array YH}{row:Option Nat}{b i g p c:Nat}{t:TypeId}
theorem ZaF{l:List AD}{n:Int}{j:Nat}(h:j<l.length):(l.take (j+1)).filterMap (fun a=>Qz f B a n)=(l.take j).filterMap (fun a=>Qz f B a n)++(match Qz f B l[j] n with|some x=>[x]|none=>[]):=by
 rw[Zw h,List.filterMap_append];congr 1
 cases hg:Qz f B l[j] n<;>simp[hg]
def ZdQ(w:World)(f:FD)(ai an aT al:OA)(ci cn ct cl:Nat)(u:Int)(wb pb cp:Nat)(ja:OA)(cj:Nat)(B:List (Nat × Nat))(e:Ending)(w':World):Prop :=
 e=.returned (.tuple #[])/\∃d,QF w' f ai an aT al ci cn ct cl u wb pb cp ja cj B d/\NdS w' f B ja d B.length/\But (fun b=>jaB ja=some b) w w'
theorem Zag(f:FD)(ai an aT al:OA)(ci cn ct cl:Nat)(hf:FAP wS f ai an aT al)(ag:Below wS.1.size wS w)(hr:RgF f)(order:List Int)(ho:Y8 f order)(u:Int)(B:List (Nat × Nat))(hB:X1 f order u B)(z pb cp:Nat)(ja:OA)(Y:Nat)
  (cy:∀b,jaB ja=some b->wS.1.size<=b)(hw:QF w f ai an aT al ci cn ct cl u z pb cp ja Y B (B.map (mkJ f)).toArray)(hN:B.length<=1000000) :
  Calls prog 48 #[.pointer (some ⟨z,0,none⟩)] w (ZdQ w f ai an aT al ci cn ct cl u z pb cp ja Y B):=by
 have F:=hf.lens;have ck:=hid (fun(W:World) (d:Array YH) (h1:Below wS.1.size wS W) (h2:QF W f ai an aT al ci cn ct cl u z pb cp ja Y B d) (t:Nat) (ht:t<f.tasks.length) (n:Nat) (hn:n<QC f u t) (a:AD) (ha:a∈(tkO f t).args) (hl:a.ops.length<=1000) (ad:OA) (cap:Nat) (J:Row OpR 3 W a.ops ad)=>EX (W:=W) f B z pb ci cp ai F.1 hr.few (Zb h2.box) (Xf h2.box).1.1 (Xf h2.box).1.2.2.2.2.2.2 (h2.pl W (BC.of_but (But.refl _ _))) a ad cap J hl (yp hr.few F.1 (hr.fits t ht a ha)) (n:Int)
  (fun x hx=>by obtain⟨p,s,k,_,h3,h4,h5,h6,h7,h8,h9,_,_⟩:=xi hB ho (hr.fits t ht a ha) ((QU (hr.clk t ht).1 n).1 hn) hx;exact⟨s,k,h4,h6,h7,h8⟩))
 have cm:=hid (fun(W:World) (h1:Below wS.1.size wS W)=>hf.tasks.below zm h1);have bi:=hid (fun t (ht:t<f.tasks.length)=>(show(tkO f t).args.length<=1000/\∀a∈(tkO f t).args,a.ops.length<=1000 from by rw[<-JP ht];exact⟨(hf.args _ (Zi ht)).1,fun a ha=>((hf.args _ (Zi ht)).2 a ha).1⟩));have ce:=hid (fun q (hq:q<B.length)=>(show(B.getD q (0,0)).1<f.tasks.length/\(B.getD q (0,0)).2<QC f u (B.getD q (0,0)).1 from by rw[Zf,Ze hq];exact(hB.mem ho (t:=B[q].1) (n:=B[q].2)).1 (Zi hq)));have cb:=hid cy;have cd:=hid ag;have HW:=hid hw;have df:=ag.size;obtain⟨⟨c0,c1,c2,c3,c4,c5,c6⟩,cf⟩:=Xf hw.box;have cu:(B.map (mkJ f)).toArray.size=B.length:=by simp
 rw[cu] at c5;obtain⟨N,bm⟩:=ez B.length;rw[bm] at c5 hN ce;have aq:=hid bm;have eh:=Zb hw.box;clear hf ag hr ho hB cy hw cu bm F c0 c1 c2 c3 c4 c6 cf;go_enter func48,ntmps48;go_wp2;clear c5;go_loopw [14] (fun s14 wr=>Hid (∃(i:Nat)(d:Array YH),s14=.int .i64 (i:Int)/\i<=N/\QF wr f ai an aT al ci cn ct cl u z pb cp ja Y B d/\NdS wr f B ja d i/\But (fun b=>jaB ja=some b) w wr)) (fun s _=>N-(intOf s).toNat)
 case atStart=>exact⟨0,_,rfl,Zk _,HW.o,NdS.start _ _ _ _,But.refl _ _⟩
 clear HW;obtain⟨L,rfl⟩:=ey wr;obtain⟨i,d,rfl,hi,E,aw,ab⟩:=hrel.o;clear hrel;have ep:=ab.size;have ah:Below wS.1.size wS L:=cd.o.trans (ab.below df (fun b e=>cb.o b e));have dq:=hid ah;have bk:=hid E;have cg:=hid aw;have ca:=hid ab;have cv:d.size=N:=by rw[E.sz,aq.o]
 have U:=hid cv;by_cases aj:i<N
 .obtain⟨g,R,bs⟩:=E.jobs.resolve_left oq;obtain⟨⟨y0,y1,y2,y3,y4⟩,ed,bz⟩:=bs.cell (i:=i) oq;obtain⟨b0,b1,b2,b3⟩:=aw.base i (by rw[aq.o];exact aj);obtain⟨T,bu⟩:=ce.o i aj;have V:=hid (show Uj f B i=(tkO f (B.getD i (0,0)).1).args.filterMap (fun a=>Qz f B a ((B.getD i (0,0)).2:Int)) from rfl);obtain⟨⟨t,n⟩,cq⟩:=ez (B.getD i (0,0));rw[cq] at b0 b1 b2 b3 T bu V;simp only at b0 b1 T bu V;rw[b0] at y0;rw[b1] at y1;obtain⟨r1,dd⟩:=ez (d[i]!.r);obtain⟨r2,de⟩:=ez (d[i]!.d);obtain⟨q1,dc⟩:=ez (d[i]!.na);obtain⟨q2,ao⟩:=ez (d[i]!.nl);obtain⟨q3,C⟩:=ez (d[i]!.nc);rw[dd] at y2;rw[de] at y3;rw[dc,ao,C] at y4;simp only[ZE] at y0 y1 y2 y3 y4;obtain⟨bt,ot,ta,tc,bn,cr,z0,z1,z2,z3,J⟩:=xJ (cm.o L ah) T;obtain⟨⟨c0,c1,c2,c3,c4,c5,c6⟩,cf⟩:=Xf E.box;rw[bn] at c2;have dy:=(bi.o t T).1;have i0:(0:Int)<=(i:Int):=oq;have i1:(i:Int)<(N:Int):=oq;have t0:(0:Int)<=(t:Int):=oq;have t1:(t:Int)<(f.tasks.length:Int):=oq;have gl:=bs.lt;have dg:=Zb E.box;have dm:=hid (show ∀b,jaB ja=some b->b=g by rw[R];intro b e;injection e with e;exact e.symm);have dn:=hid (show jaB ja=some g by rw[R];rfl);have ee:=hid R;have cz:g≠z:=fun e=>E.ne (by rw[<-e,R];rfl)
  have ek:wS.1.size<=g:=cb.o g (by rw[R];rfl);have X:=hid J;clear E aw ab b0 b1 b2 b3 cq dd de dc ao C J c0 c1 c3 c4 c5 c6 cf bs ed bz cv z0 z1 z2
  try simp only at bn
  subst R;clear bn;go_upto_region 4 with fail
  obtain⟨H,Z⟩:=ez (L.alloc (.cells #[.int .i64 (t:Int),.int .i64 (n:Int),.int .i64 r1,.int .i64 r2,.slice q1 q2 q3] 128));have hb1:RowKit.Below L.1.size L H:=by rw[<-Z];exact bq
  have ea:L.1.size<H.1.size:=by rw[<-Z];simp
  have bx:H.1[L.1.size]?=some (.cells #[.int .i64 (t:Int),.int .i64 (n:Int),.int .i64 r1,.int .i64 r2,.slice q1 q2 q3] 128 (0,0)):=by rw[<-Z];exact Yx L _
  rw[Z];clear Z y0 y1 y2 y3 y4;have x0:=Z8 H L.1.size 0 _ _ _ bx;have e2:=(hb1.cell (p:=⟨z,2,none⟩) dg).trans c2;have e3:=(hb1.cell (p:=⟨bt,ot+t*4+3,none⟩) cr).trans z3;have HB1:=hid hb1;have dw:=hid bx;simp only[List.getElem?_toArray,List.getElem?_cons_zero] at x0;clear hb1 bx c2 z3;obtain⟨M,bp⟩:=ez ((tkO f t).args);rw[bp] at e3 dy X V;have ay:=hid bp;clear bp;go_still kq
  change Exit.then _ _ Exit.normal _ H.drew
  go_wp2;clear e2 e3 x0;go_loopw [4,30] (fun s4 s30 wr=>Hid (∃j:Nat,s30=.int .i64 (j:Int)/\j<=M.length/\QV wr H.1.size s4 ((M.take j).filterMap (fun a=>Qz f B a (n:Int)))/\RowKit.Below H.1.size H wr)) (fun _ s _=>M.length-(intOf s).toNat)
  case atStart=>exact⟨0,rfl,Zk _,Yg _ _ _ _,(RowKit.Below.refl _ _).drew⟩
  obtain⟨G,rfl⟩:=ey wr;obtain⟨j,rfl,hj,ak,O⟩:=hrel.o;clear hrel;have ap:=hid O;have dh:=O.size;obtain⟨a4,c4,rfl⟩:=YC ak;have da:((M.take j).filterMap (fun a=>Qz f B a (n:Int))).length<=j:=Zm (List.length_filterMap_le _ _) (by simp;omega);have m:=hid ak;have bv:G.1[L.1.size]?=_:=(O.block _ ea).trans dw.o;have n1:=Z8 G L.1.size 1 _ _ _ bv;simp only[List.getElem?_toArray,List.getElem?_cons_succ,List.getElem?_cons_zero] at n1;have cc:=hid (dq.o.trans (((HB1.o.trans (O.mono oq))).mono oq));have au:=hid (bk.o.below (HB1.o.trans (O.mono oq)));have eg:=Zb bv;clear O ak bv;by_cases ae:j<M.length
  .obtain⟨ba,oa,dx,ej,g0,ga,gc,g1,grow⟩:=(X.o.below vC (HB1.o.trans (ap.o.mono oq))).at ae;have bw:=ZaF (f:=f) (B:=B) (n:=(n:Int)) ae;have bo:=(bi.o t T).2;rw[ay.o] at bo;have I:=Zi ae;have aa:=bo _ I;obtain⟨x,hx⟩:=ez (M[j]);rw[hx] at g0 g1 grow bw aa I;obtain⟨src,dj⟩:=x;simp only at g0 g1 grow aa;have D:=hid (fun(W:World) (h1:RowKit.Below G.1.size G W)=>ck.o W d (cc.o.trans (h1.mono (by have:=cc.o.size;omega))) (au.o.below h1) t T n bu ⟨src,dj⟩ (by rw[ay.o];exact I) aa ga gc (grow.below VK h1));have j0:(0:Int)<=(j:Int):=oq;have j1:(j:Int)<(M.length:Int):=oq;have A:=hid bw;obtain⟨l4,af⟩:=ez ((M.take j).filterMap (fun a=>Qz f B a (n:Int)));rw[af] at m A da
   try rw[af]
   subst dx;clear bw bo I hx af grow
   cases ho:Qz f B ⟨src,dj⟩ (n:Int) with
   | none =>
    rw[ho] at D A;simp only[List.append_nil] at A;unfold jE at D;simp only[Option.getD_none,Option.isSome_none] at D;clear ho;go_wp2_with (go_at_call 110;refine(D.o _ bq).mono ?_;rintro y w2 ⟨rfl,hb2⟩;have HB2:=hid (show RowKit.Below G.1.size G w2 from bq);clear hb2);refine⟨hid ⟨j+1,by go_num,ae,by rw[A.o];exact own_below m.o HB2.o,ap.o.trans (HB2.o.mono dh)⟩,by simp[intOf];omega⟩
   | some x =>
    rw[ho] at D A;unfold jE at D;simp only[Ya,Option.isSome_some] at D;clear ho;obtain⟨ec,bb,bc,bd,be⟩:=info_parts JK;have HI:=hid (Zh bb (Zh bc (Zh bd be)));clear bb bc bd be;go_wp2_with (first|(go_at_call 110;refine(D.o _ bq).mono ?_;rintro y w2 ⟨rfl,hb2⟩;have HB2:=hid (show RowKit.Below G.1.size G w2 from bq);have eb:=HB2.o.size;clear hb2)|(refine lite.YP _ (by rfl) _ _ _ (by rfl) H.1.size 3 ec _ 1 8 underlying44 HI.o.1 HI.o.2.1 HI.o.2.2.1 HI.o.2.2.2 rfl oq (.slice a4 l4.length c4) l4.length (ints l4) (by rfl) (own_below m.o bq) (some ⟨w2.1.size,0,none⟩) 1 1 [.int .i64 x] (by rfl) (by rfl) (fun j u h=>⟨_,rfl,World.news_of_block (ZA _ _) j u h⟩) (by simp[Value.oneCell']) (by unfold maxLen;omega) oq (by first|omega|(simp;omega)) ?_;intro v4 w4 am cx af;have ds:=hid am;have HB4:=hid (show But (fun k=>(Value.slice a4 l4.length c4).ownBlock=some k) w2 w4 from(But.of_below ((RowKit.Below.refl _ _).alloc (Zc _) _)).then (But.of_grown cx) (fun _ _ e=>e));clear am cx af));have ac:=World.ownsRow.lt m.o;have hb5:But (fun k=>(Value.slice a4 l4.length c4).ownBlock=some k) G w4:=(But.of_below HB2.o).then HB4.o (fun _ _ e=>e);refine⟨hid ⟨j+1,by go_num,ae,?_,ap.o.trans (hb5.below dh (fun k hk=>(ac k hk).1))⟩,by simp[intOf];omega⟩;rw[A.o];unfold QV;rw[Zy,<-Jt];exact ds.o
  obtain rfl:j=M.length:=oq;rw[ZT] at m da ⊢;have db:QV G H.1.size (.slice a4 (M.filterMap (fun a=>Qz f B a (n:Int))).length c4) (Uj f B i):=by rw[V.o];exact m.o
  have em:(Uj f B i).length<=1000:=by rw[V.o];omega
  have el:(XK f B i).length<=1000:=by unfold XK;have:=QZ ((Uj f B i).mergeSort (fun x y=>decide (x<=y)));rw[List.length_mergeSort] at this;omega
  have HS:=hid (j5 (w:=G) _ _ db oq);have HC:=hid (fun(W:World) (v:Value) (hW:QV W H.1.size v ((Uj f B i).mergeSort (fun x y=>decide (x<=y))))=>Gf (w:=W) v _ hW (by rw[List.length_mergeSort];omega));have ac:=World.ownsRow.lt m.o;obtain⟨L4,bl⟩:=ez ((M.filterMap (fun a=>Qz f B a (n:Int))).length);rw[bl] at HS ac;rw[bl];have bj:=hid ac;have ef:¬(M.length:Int)<(M.length:Int):=oq;have z5:=(Xf au.o.box).1.2.2.2.2.2.1;rw[U.o] at z5;have co:=hid z5;have bh:=Zb au.o.box;have dz:g<G.1.size:=by have:=HB1.o.size;omega
  have cw:g<H.1.size:=oq;have ei:z<H.1.size:=oq;clear db m X ck bi cm n1 bl ac z5;go_upto_region 12 with (go_at_call 111;refine HS.o.mono ?_;rintro y w2 ⟨rfl,ao,hb2⟩;have dt:=hid ao;have HB2:=hid hb2;clear ao hb2)
  have eb:=HB2.o.size;have di:¬(Value.slice a4 L4 c4).ownBlock=some z:=fun e=>by have:=(bj.o _ e).1;omega
  have ng:¬(Value.slice a4 L4 c4).ownBlock=some g:=fun e=>by have:=(bj.o _ e).1;omega
  have k5:w2.cell? ⟨z,5,none⟩=some (.slice (some ⟨g,0,none⟩) N Y):=(Zn (w:=G) (a:=⟨z,5,none⟩) (HB2.o.block z bh di)).trans co.o;have KS1:=hid (show(fun w':World=>w'.cell? ⟨z,5,none⟩=some (.slice (some ⟨g,0,none⟩) N Y)) w2.drew from k5);have dp:=hid (show JH G g 0 d from by
   obtain⟨g2,e2,h2⟩:=au.o.jobs.resolve_left (by rw[U.o];omega);injection e2 with e2
   injection e2 with e2
   subst e2;exact h2)
  clear k5;refine ZP (S:=(fun w':World=>w'.cell? ⟨z,5,none⟩=some (.slice (some ⟨g,0,none⟩) N Y))) kq (by first|with_reducible exact KS1.o|with_reducible exact KS3.o|exact KS4.o _) (fun hH=>?_);refine tk 0 hH ?_;refine tk 1 hH ?_;refine tk 2 hH ?_;refine tk 3 hH ?_;refine tk 4 hH ?_;refine tk 5 hH ?_;refine ry 6 fun K hK=>?_
  (go_simp;go_at_call 112;refine(HC.o w2.drew _ dt.o).mono ?_;rintro y w3 ⟨⟨v3,rfl,C,eo⟩,hb3⟩;have en:=hb3.size;obtain⟨a3,c3,rfl⟩:=YC C;have ax:=((HB2.o.imp (fun _ _ e=>e)).then (show But (fun k=>(Value.slice a4 L4 c4).ownBlock=some k) w2 w3 from((But.refl _ w2).drew.then hb3 (fun _ _ e=>e))) (fun _ _ e=>e));have dv:=hid ax;have du:=hid C;have k5:w3.cell? ⟨z,5,none⟩=some (.slice (some ⟨g,0,none⟩) N Y):=(Zn (w:=G) (a:=⟨z,5,none⟩) (ax.block z bh di)).trans co.o;have KS3:=hid (show(fun w':World=>w'.cell? ⟨z,5,none⟩=some (.slice (some ⟨g,0,none⟩) N Y)) w3 from k5);have KS4:=hid (fun(v:Value)=>(show(fun w':World=>w'.cell? ⟨z,5,none⟩=some (.slice (some ⟨g,0,none⟩) N Y)) (w3.setCell ⟨g,i*5+4,none⟩ v) from(ZH w3 ⟨g,i*5+4,none⟩ ⟨z,5,none⟩ v cz).trans KS3.o));have br:JH w3 g 0 d:=dp.o.but (ax.block g dz ng);have dl:=hid br;obtain⟨⟨_,_,_,_,y4⟩,_,bz⟩:=br.cell (i:=i) (by rw[U.o];exact aj);simp only[ZE] at y4 bz;clear ax C hb3 k5 br)
  refine hK.o _ _ (fun hH=>?_);clear hK K;refine tk 7 hH ?_;refine tk 8 hH ?_;refine ry 9 fun K hK=>?_
  go_simp;refine hK.o _ _ (fun hH=>?_);clear hK K;refine Zz kq ?_ _;have az:RowKit.Below L.1.size L w3:=(HB1.o.trans (ap.o.mono oq)).trans (dv.o.below (by have:=HB1.o.size;omega) (fun k e=>by have:=(bj.o k e).1;have:=HB1.o.size;omega));have av:But (fun b=>jaB (some ⟨g,0,none⟩)=some b) L (w3.setCell ⟨g,i*5+4,none⟩ (.slice a3 (XK f B i).length c3)):=(But.of_below az).then (But.set (S:=fun k=>k=g) rfl _) (fun k _ e=>by rw[e];exact dn.o);have bf:i<d.size:=by rw[U.o];exact aj
  have bg:JH (w3.setCell ⟨g,i*5+4,none⟩ (.slice a3 (XK f B i).length c3)) g 0 (d.setIfInBounds i { d[i]! with na:=a3,nl:=(XK f B i).length,nc:=c3 }):=by have h:=dl.o.put (i:=i) (c:=4) (v:=.slice a3 (XK f B i).length c3) (x:={ d[i]! with na:=a3,nl:=(XK f B i).length,nc:=c3 }) bf oq rfl;simpa only [ZE] using h
  have C:QV (w3.setCell ⟨g,i*5+4,none⟩ (.slice a3 (XK f B i).length c3)) H.1.size (.slice a3 (XK f B i).length c3) (XK f B i):=Xc du.o cw _;have dr:=hid (show QF (w3.setCell ⟨g,i*5+4,none⟩ (.slice a3 (XK f B i).length c3)) f ai an aT al ci cn ct cl u z pb cp (some ⟨g,0,none⟩) Y B (d.setIfInBounds i { d[i]! with na:=a3,nl:=(XK f B i).length,nc:=c3 }) from bk.o.but av (by simp) (.inr ⟨g,rfl,bg⟩));have ch:=hid (cg.o.put (c:=c3) (BC.of_but av) bf (by rw[U.o,aq.o]) (fun W2 h2=>(Zc3 C (fun k hk=>by rw[dm.o k hk];exact cw) h2).2));have dk:=hid (ca.o.then av (fun _ _ e=>e));clear az av bg C;go_wp2;exact⟨hid ⟨i+1,_,by go_num,aj,dr.o,ch.o,dk.o⟩,by simp[intOf];omega⟩
 obtain rfl:i=N:=oq;have i1:¬(i:Int)<(i:Int):=oq;clear E aw ab;go_wp2;go_end0;exact⟨rfl,d,bk.o,by rw[aq.o];exact cg.o,ca.o⟩
attribute [local go_sem] ZU
theorem QF.bcE{ai an aT al:OA}{ci cn ct cl:Nat}{wb pb cp:Nat}{ja:OA}{cj:Nat}(h:QF W f ai an aT al ci cn ct cl u wb pb cp ja cj B d)(hb:BC (fun _=>False) W W'):QF W' f ai an aT al ci cn ct cl u wb pb cp ja cj B d :=
 ⟨hb.block _ _ _ _ h.box (fun e=>e),h.ne,h.jobs.bc hb (fun _ _ e=>e),fun W2 h2=>h.pl W2 (BC.then ⟨hb.size,fun k cs t fr hk _=>hb.block k cs t fr hk (fun e=>e)⟩ h2),h.sz⟩
theorem Ei{A B:World}(hg:A.grownBy B row)(hr:∀r,row=some r->∃o:Obj,A.1[r]?=some o/\o.isCells=false):BC (fun _=>False) A B :=
 ⟨hg.size,fun k cs t fr hk _=>(hg.block k (Zb hk) (fun e=>by obtain⟨o,ho,hc⟩:=hr k e.symm;rw[hk] at ho;injection ho with ho;subst ho;cases hc)).trans hk⟩
theorem Gb{A B:World}{cs:Array Value}{fr:Nat × Nat}(h:A.1[b]?=some (.cells cs t fr))(hg:A.grownBy B row)(hr:∀r,row=some r->∃o:Obj,A.1[r]?=some o/\o.isCells=false):B.1[b]?=some (.cells cs t fr):=(Ei hg hr).block b cs t fr h (fun e=>e)
def Ko(d:Array YH)(o:Option Int)(x:Int):Array YH:=match o with
 | none=>d
 | some p=>X4 d p.toNat x
def tellN(f:FD)(B:List (Nat × Nat))(t:LD)(d:Array YH)(n:Nat):Array YH:=(List.range n).foldl (fun d (k:Nat)=>Ko d (Qz f B t.arg (k:Int)) (t.ph+(k:Int)*t.per+t.dl)) d
theorem Uy(f:FD)(B:List (Nat × Nat))(t:LD)(d:Array YH)(n:Nat):tellN f B t d (n+1)=Ko (tellN f B t d n) (Qz f B t.arg (n:Int)) (t.ph+(n:Int)*t.per+t.dl):=by unfold tellN;rw[Yj,List.foldl_append];rfl
def Jw(f:FD)(B:List (Nat × Nat))(u:Int)(d:Array YH)(l:List LD):Array YH:=l.foldl (fun d t=>tellN f B t d (Vh t.per t.ph u)) d
theorem vb{l:List LD}(h:i<l.length):Jw f B u d (l.take (i+1))=tellN f B l[i] (Jw f B u d (l.take i)) (Vh l[i].per l[i].ph u):=by
 unfold Jw;rw[Zw h,List.foldl_append];rfl
def ZdV(w:World)(f:FD)(ai an aT al:OA)(ci cn ct cl:Nat)(u:Int)(wb pb cp:Nat)(ja:OA)(cj:Nat)(B:List (Nat × Nat))(d:Array YH)(e:Ending)(w':World):Prop :=
 e=.returned (.tuple #[])/\QF w' f ai an aT al ci cn ct cl u wb pb cp ja cj B (Jw f B u d f.tells)/\But (fun b=>jaB ja=some b) w w'
theorem GE{f g j m q:Value}(h:w.1[b]?=some (.cells #[f,g,j,m,q] t (0,0))) :
  (w.cell? ⟨b,0,none⟩=some f/\w.cell? ⟨b,1,none⟩=some g/\w.cell? ⟨b,2,none⟩=some j/\w.cell? ⟨b,3,none⟩=some m/\w.cell? ⟨b,4,none⟩=some q)/\∀o,w.frozen? ⟨b,o,none⟩=false:=by
 refine⟨⟨?_,?_,?_,?_,?_⟩,?_⟩
 all_goals first|(intro o;simp[World.frozen?,h])|simp[World.cell?,h]
theorem JH.cells{W:World}{g:Nat}{d:Array YH}(h:JH W g 0 d)(j:0<d.size):∃cs t fr,W.1[g]?=some (.cells cs t fr):=by
 have f:=(h.cell (i:=0) j).1.1
 cases ho:W.1[g]? with
 | none=>simp[World.cell?,ho] at f
 | some o =>
  cases o with
  | cells cs t fr=>exact⟨cs,t,fr,rfl⟩
  | _=>simp[World.cell?,ho] at f
theorem yc{B g:Nat}(hb:But (fun k=>k=g) W W')(f:∃cs t fr,W.1[g]?=some (.cells cs t fr)):KeepsFrom B W W':=by
 obtain⟨cs,t,fr,j⟩:=f;refine⟨hb.size,fun k o _ hk f=>(hb.block k (Zb hk) (fun e=>?_)).trans hk⟩;subst e;rw[j] at hk;injection hk with hk
 subst hk
 cases f
theorem Gk{B:Nat}(hb:RowKit.Below W.1.size W W'):KeepsFrom B W W':=⟨hb.size,fun k o _ hk _=>(hb.block k (Zb hk)).trans hk⟩
def ZfD(W:World)(b:Nat)(x:LD)(ad:OA)(cap:Nat):Prop:=W.1[b]?=some (.cells #[.int .i64 x.per,.int .i64 x.ph,.int .i64 x.arg.src,.slice ad x.arg.ops.length cap,.int .i64 x.dl] 94 (0,0))
theorem Zaj(f:FD)(ai an aT al:OA)(ci cn ct cl:Nat)(hf:FAP wS f ai an aT al)(ag:RowKit.Below wS.1.size wS w)(hr:RgF f)(order:List Int)(ho:Y8 f order)(u:Int)(hu:u<=20000)(B:List (Nat × Nat))(hB:X1 f order u B)(M pb cp:Nat)(Y:OA)(cj:Nat)
  (ck:∀b,jaB Y=some b->wS.1.size<=b)(d:Array YH)(hw:QF w f ai an aT al ci cn ct cl u M pb cp Y cj B d)(hN:B.length<=1000000) :
  Calls prog 49 #[.pointer (some ⟨M,0,none⟩)] w (ZdV w f ai an aT al ci cn ct cl u M pb cp Y cj B d):=by
 have I:=hf.lens;have dp:=hid (fun(W:World) (d:Array YH) (h2:QF W f ai an aT al ci cn ct cl u M pb cp Y cj B d) (t:LD) (ht:t∈f.tells) (n:Nat) (hn:n<Vh t.per t.ph u) (hl:t.arg.ops.length<=1000) (ad:OA) (cap:Nat) (E:Row OpR 3 W t.arg.ops ad)=>EX (W:=W) f B M pb ci cp ai I.1 hr.few (Zb h2.box) (Xf h2.box).1.1 (Xf h2.box).1.2.2.2.2.2.2 (h2.pl W (BC.of_but (But.refl _ _))) t.arg ad cap E hl (yp hr.few I.1 (hr.tel t ht).2) (n:Int)
  (fun x Z=>by obtain⟨p,s,k,_,h3,h4,h5,h6,h7,h8,h9,_,_⟩:=xi hB ho (hr.tel t ht).2 ((QU (clock.Xz.1 (QK (hr.tel t ht).2).1).1 n).1 hn) Z;exact⟨s,k,h4,h6,h7,h8⟩))
 have dm:=hid (fun(t:LD) (ht:t∈f.tells) (n:Nat) (hn:n<Vh t.per t.ph u) (x:Int) (Z:Qz f B t.arg (n:Int)=some x)=>(show ∃p:Nat,x=(p:Int)/\p<B.length from by obtain⟨p,s,k,h2,h3,_⟩:=xi hB ho (hr.tel t ht).2 ((QU (clock.Xz.1 (QK (hr.tel t ht).2).1).1 n).1 hn) Z;exact⟨p,h2,(ZB.1 h3).1⟩));have dr:=hid (fun(W:World) (h1:RowKit.Below wS.1.size wS W)=>hf.tells.below ZdA h1);have dt:=hid (fun(t:LD) (ht:t∈f.tells)=>(hf.tops t ht).1);have du:=hid (fun(t:LD) (ht:t∈f.tells)=>(show(1<=t.per/\t.per<=2000/\0<=t.ph/\t.ph<=2000)/\1<=t.dl/\t.dl<=1000 from ⟨clock.Xz.1 (QK (hr.tel t ht).2).1,(hr.tel t ht).1⟩));have dh:=hid (show 0<B.length->∀b,jaB Y=some b->b<w.1.size from fun h0 b e=>by
  obtain⟨g,e2,hj⟩:=hw.jobs.resolve_left (by rw[hw.sz];omega);subst e2;injection e with e
  subst e;exact hj.lt)
 have bu:=hid ck;have ay:=hid ag;have HW:=hid hw;have bb:=ag.size;obtain⟨L,cg⟩:=ez f.tells.length;have hL:L<=1000:=oq;have be:=hid cg;have ej:=Zb hw.box;clear hf ag hr ho hB ck hw I cg;refine(Zu (n:=6)).1 ?_;refine callsIn_of_wp_marks func49 rfl trivial ?_ rfl;simp only[ntmps49,ZJ,Zp,Zx,Nat.reduceAdd,Nat.reduceSub,ZG,ZF,ZM,ZK,ZN,ZD];gi_upto_region 1 with fail
 obtain⟨W0,ap⟩:=ez (w.alloc (.cells #[.pointer (some ⟨M,0,none⟩)] 122));have bj:RowKit.Below w.1.size w W0:=by rw[<-ap];exact bq
 have bo:Boxed W0 w.1.size 122 (.pointer (some ⟨M,0,none⟩)):=by rw[<-ap];exact Boxed.new _ _ _
 rw[ap];clear ap;have bg:=hid (HW.o.below bj);obtain⟨⟨c0,c1,c2,c3,c4,c5,c6⟩,cf⟩:=Xf bg.o.box;rw[be.o] at c3;have cx:=bo.cell;have cc:=hid bo;have ax:=hid (But.of_below (S:=fun b=>jaB Y=some b) bj);clear c0 c1 c2 c4 c5 c6 cf bo bj;gi_wp2;clear c3 cx;refine wpIn_loop (fun a' wr=>Hid (∃(i:Nat)(ds:List Deferred),a'.defers=ds/\a'.tmps.size=44/\slt a'.tmps 1=.pointer (some ⟨w.1.size,0,none⟩)/\slt a'.tmps 12=.slice al L cl/\slt a'.tmps 13=.int .i64 (L:Int)/\slt a'.tmps 14=.int .i64 (i:Int) /\
  i<=L/\QF wr f ai an aT al ci cn ct cl u M pb cp Y cj B (Jw f B u d (f.tells.take i))/\Boxed wr w.1.size 122 (.pointer (some ⟨M,0,none⟩))/\But (fun b=>jaB Y=some b) w wr/\Mk w.1.size wr.1.size ds wr)) (fun a' _=>L-(intOf (slt a'.tmps 14)).toNat) ?start ?round
 case start=>exact hid ⟨0,_,rfl,rfl,rfl,rfl,rfl,rfl,Zk _,bg.o,cc.o,ax.o,Mk.nil _ _ _⟩
 clear bg cc ax HW;rintro⟨t,ce⟩ wr hI;obtain⟨i,ds,h0,J,h1,bh,bi,ao,hi,dc,au,aq,cv⟩:=hI.o;clear hI;simp only at h0 J h1 bh bi ao;subst h0;have cw:(L-(intOf (slt (⟨t,ce⟩:Act).tmps 14)).toNat)=L-i:=by show L-(intOf (slt t 14)).toNat=_;rw[ao];simp[intOf]
 rw[cw];clear cw;rw[ZbB J,h1,bh,bi,ao];generalize slt t 0=u0,slt t 2=u2,slt t 3=u3,slt t 4=u4,slt t 5=u5,slt t 6=u6,slt t 7=u7,slt t 8=u8,slt t 9=u9,slt t 10=u10,slt t 11=u11,slt t 15=u15,slt t 16=u16,slt t 17=u17,slt t 18=u18,slt t 19=u19,slt t 20=u20,slt t 21=u21,slt t 22=u22,slt t 23=u23,slt t 24=u24,slt t 25=u25,slt t 26=u26,slt t 27=u27,slt t 28=u28,slt t 29=u29,slt t 30=u30,slt t 31=u31,slt t 32=u32,slt t 33=u33,slt t 34=u34,slt t 35=u35,slt t 36=u36,slt t 37=u37,slt t 38=u38,slt t 39=u39,slt t 40=u40,slt t 41=u41,slt t 42=u42,slt t 43=u43;clear J h1 bh bi ao t;have am:=hid dc;have ak:=hid au;have bc:=hid aq;have bf:=hid cv;have ee:=aq.size;have j:RowKit.Below wS.1.size wS wr:=ay.o.trans (aq.below bb (fun b e=>bu.o b e));have ek:=hid j;have cx:=au.cell;have dv:=au.lt;clear dc au aq cv;by_cases cu:i<L
 .have ah:i<f.tells.length:=by rw[be.o];exact cu
  obtain⟨b,o,dw,hb,y0,y1,y2,y4,ad,cap,y3,E⟩:=(dr.o wS (RowKit.Below.refl _ _)).at ah;have X:=fun oo=>j.cell (p:=⟨b,oo,none⟩) hb
  have z:=Zi ah;have bn:=vb (f:=f) (B:=B) (u:=u) (d:=d) ah;obtain⟨x,Z⟩:=ez (f.tells[i]);rw[Z] at y0 y1 y2 y3 y4 E z bn;have ca:=hid bn;have az:=hid z;have aj:=du.o x z;have ec:=dt.o x z;have bz:=hid aj;have i1:(i:Int)<(L:Int):=oq;have i0:(0:Int)<=(i:Int):=oq;have dg:=hid (fun W=>Kq (w:=W) x.per x.ph u);have bx:=hid E;replace y0:=(X _).trans y0;replace y1:=(X _).trans y1;replace y2:=(X _).trans y2;replace y3:=(X _).trans y3;replace y4:=(X _).trans y4;have ef:b<wr.1.size:=by have:=j.size;omega
  clear Z z bn aj E j X;subst dw;gi_upto_region 4 with fail
  obtain⟨m,V⟩:=ez (wr.alloc (.cells #[.int .i64 x.per,.int .i64 x.ph,.int .i64 x.arg.src,.slice ad x.arg.ops.length cap,.int .i64 x.dl] 94));have hb1:RowKit.Below wr.1.size wr m:=by rw[<-V];exact bq
  have ed:wr.1.size<m.1.size:=by rw[<-V];simp
  have eh:m.1.size<=wr.1.size+1:=by rw[<-V];simp
  have aw:ZfD m wr.1.size x ad cap:=by rw[<-V];exact Yx wr _
  rw[V];clear V y0 y1 y2 y3 y4 cx;have k0:=Z8 m wr.1.size 0 _ _ _ aw;have k1:=Z8 m wr.1.size 1 _ _ _ aw;simp only[List.getElem?_toArray,List.getElem?_cons_succ,List.getElem?_cons_zero] at k0 k1;have ab:Boxed m w.1.size 122 (.pointer (some ⟨M,0,none⟩)):=(hb1.block _ ak.o.lt).trans ak.o;have cx:=ab.cell;have ba:=hid (am.o.below hb1);have c4:=(Xf ba.o.box).1.2.2.2.2.1;have HB1:=hid hb1;have cd:=hid aw;have bp:=hid ab;clear hb1 aw ab;refine wpIn_wide.2 (wp_region_noPanic ?_);go_still_tail 6,kq
  change wpList _ _ _ _ _ m.drew
  go_wp2_with (go_at_call 107;refine(dg.o _).mono ?_;rintro e w2 ⟨rfl,hb2,bm,cq,da⟩;have HB2:=hid (show RowKit.Below m.1.size m w2 from((RowKit.Below.refl _ m).drew.trans hb2));have dq:=hid (show w2.1.size=m.1.size+2 from bm);have bw:=hid (show K5 w2 m.1.size x.per x.ph/\Boxed w2 (m.1.size+1) 2 (.int .i64 u) from ⟨cq,da⟩);clear hb2 bm cq da);refine NoPanic.normal ?_;clear k0 k1 cx c4;gi_wp2;have hb2:=HB2.o;have bm:=dq.o;have aa:RowKit.Below wr.1.size wr w2:=HB1.o.trans (hb2.mono oq);have bd:=hid (Zh (am.o.below aa) (Zh ((aa.block _ dv).trans ak.o) (Zh (show ZfD w2 wr.1.size x ad cap from(hb2.block _ ed).trans cd.o) (Zh (bc.o.then (But.of_below (S:=fun _=>False) aa) (fun _ _ e=>e.elim)) (bf.o.below aa)))));obtain⟨d0,dx⟩:=ez (Jw f B u d (f.tells.take i));rw[dx] at bd ca;have eg:d0.size=B.length:=(bd.o.1).sz;clear hb2 aa cd bp ba am ak bc bf;refine xq (F:=Fence.wide) (gf:=174) (lb:=#[.pointer (some ⟨m.1.size,0,none⟩),.pointer (some ⟨m.1.size+1,0,none⟩)]) rfl oq rfl trivial (enters_of func174 kq rfl)
   (Kr x.per x.ph u bz.o.1 hu m.1.size (m.1.size+1) _ w2 bw.o.1 bw.o.2) (fun h k=>h.trans k) (fun W l o o' _ h hc=>KD.putObj W l o o' h hc) (fun W W' h=>KD.of_below h) (fun _=>rfl)
   (fun pre W=>QF W f ai an aT (some ⟨b,o,none⟩) ci cn ct cl u M pb cp Y cj B (tellN f B x d0 pre.length)/\Boxed W w.1.size 122 (.pointer (some ⟨M,0,none⟩))/\ZfD W wr.1.size x ad cap/\But (fun b=>jaB Y=some b) w W/\Mk w.1.size wr.1.size ce W)
   (fun s A C row hs hg hrw=>by
    obtain⟨g1,g2,g3,g4,g5⟩:=hs;exact⟨g1.bcE (Ei hg (fun r e=>(hrw r e).2)),boxed_own _ _ (fun(_:Unit)=>Value.pointer (some ⟨M,0,none⟩)) () A C row g2 hg (fun r e=>(hrw r e).2),Gb g3 hg (fun r e=>(hrw r e).2),g4.then (But.of_grown hg) (fun k hk e=>by have:=(hrw k e).1;omega),Mk.own (β:=Unit) (show wr.1.size<=w2.1.size by omega) () A C row g5 hg hrw⟩)
   (fun _ _ _=>trivial) bd.o
   (fun pre y a' _=>y=pre.length/\y<Vh x.per x.ph u/\a'.tmps.size=44/\slt a'.tmps 1=.pointer (some ⟨w.1.size,0,none⟩)/\slt a'.tmps 3=.pointer (some ⟨wr.1.size,0,none⟩)/\slt a'.tmps 4=.int .i64 (y:Int)/\slt a'.tmps 5=.int .i64 (x.ph+(y:Int)*x.per)/\a'.defers=[])
   (fun pre y a' s A C row hs _ _=>hs) ?assign ?body ?done
  case assign =>
   rintro l pre y W K hi ⟨rfl,Z⟩ hK;gi_wp2;exact hK _ _ (RowKit.Below.refl _ _) hi ⟨by simp,Z,by simp,by simp[slt],by simp[slt],by simp[slt],by simp[slt],rfl⟩
  case body =>
   rintro l pre y ⟨t,dd⟩ W hl hr ⟨g1,g2,g3,g4,g5⟩ ⟨rfl,Z,J,s1,s3,s4,s5,hd⟩;simp only at J s1 s3 s4 s5 hd;subst hd;rw[ZbB J,s1,s3,s4,s5];generalize slt t 0=u0,slt t 2=u2,slt t 6=u6,slt t 7=u7,slt t 8=u8,slt t 9=u9,slt t 10=u10,slt t 11=u11,slt t 12=u12,slt t 13=u13,slt t 14=u14,slt t 15=u15,slt t 16=u16,slt t 17=u17,slt t 18=u18,slt t 19=u19,slt t 20=u20,slt t 21=u21,slt t 22=u22,slt t 23=u23,slt t 24=u24,slt t 25=u25,slt t 26=u26,slt t 27=u27,slt t 28=u28,slt t 29=u29,slt t 30=u30,slt t 31=u31,slt t 32=u32,slt t 33=u33,slt t 34=u34,slt t 35=u35,slt t 36=u36,slt t 37=u37,slt t 38=u38,slt t 39=u39,slt t 40=u40,slt t 41=u41,slt t 42=u42,slt t 43=u43;clear J s1 s3 s4 s5 t;have aj:=bz.o;have dz:=(QU (u:=u) aj.1.1 pre.length).1 Z;have cz:=dm.o x az.o pre.length Z;have dy:0<=x.ph+(pre.length:Int)*x.per:=by have:=Int.mul_nonneg (show 0<=(pre.length:Int) by omega) (show 0<=x.per by omega);omega
   have av:=Uy f B x d0 pre.length;have bl:RowKit.Below wS.1.size wS W:=ay.o.trans (g4.below bb (fun b e=>bu.o b e));have v:=hid (dp.o W _ g1 x az.o pre.length Z ec ad cap (bx.o.below VK bl));obtain⟨O,H⟩:=ez (x.ph+(pre.length:Int)*x.per);rw[H] at dz dy av
   try rw[H]
   obtain⟨dn,ch⟩:=ez (tellN f B x d0 pre.length);rw[ch] at g1 av;have G:=hid (show tellN f B x d0 (pre++[pre.length]).length=Ko dn (Qz f B x.arg (pre.length:Int)) (O+x.dl) by rw[show(pre++[pre.length]).length=pre.length+1 by simp];exact av);obtain⟨⟨x0,x1,x2,x3,x4⟩,xf⟩:=GE g3;have cb:=g2.cell;have ei:IntKind.i64.wrap (O+x.dl)=O+x.dl:=ZL _ oq;have R:=hid g1;have T:=hid g2;have U:=hid g3;have bs:=hid g4;have bt:=hid g5;clear g1 g2 g3 g4 g5 av ch H aj
   cases ho:Qz f B x.arg (pre.length:Int) with
   | none =>
    rw[ho] at v G;unfold jE at v;simp only[Option.getD_none,Option.isSome_none] at v;simp only[Ko] at G;clear ho cz;gi_wp2_with (refine⟨trivial,?_⟩;gi_at_call 110;refine(CallsIn.inRound l (Zu.2 v.o)).mono ?_;rintro e w3 ⟨rfl,hb3⟩;have HB3:=hid hb3;clear hb3);refine⟨Gk HB3.o,KD.of_below HB3.o,(by rw[G.o];exact R.o.below HB3.o),(HB3.o.block _ T.o.lt).trans T.o,(HB3.o.block _ (Zb U.o)).trans U.o,bs.o.then (But.of_below (S:=fun _=>False) HB3.o) (fun _ _ e=>e.elim),bt.o.below HB3.o⟩
   | some p =>
    rw[ho] at v G;unfold jE at v;simp only[Ya,Option.isSome_some] at v;simp only[Ko] at G;obtain⟨q,rfl,hq⟩:=cz p ho;rw[ZR] at G;clear ho;have em:dn.size=B.length:=R.o.sz;obtain⟨g,ae,af⟩:=R.o.jobs.resolve_left oq;have en:=dh.o oq g (by rw[ae];rfl);have bk:=(Xf R.o.box).1.2.2.2.2.2.1;rw[ae] at bk;have dj:=hid ae;have dk:=hid af;have db:=Zb R.o.box;have df:=hid (fun(w3:World) (h:RowKit.Below W.1.size W w3)=>zK (W:=w3) M g 0 cj dn ((h.cell (p:=⟨M,5,none⟩) db).trans bk) (af.but (h.block g af.lt)) q oq (O+x.dl));have co:jaB Y=some g:=by rw[ae];rfl
    have bv:=hid co;have eb:=af.lt;clear co ae bk af;gi_wp2_with (first|(refine⟨trivial,?_⟩;gi_at_call 110;refine(CallsIn.inRound l (Zu.2 v.o)).mono ?_;rintro e w3 ⟨rfl,hb3⟩;have HB3:=hid hb3;have el:=Boxed.cell ((hb3.block _ T.o.lt).trans T.o);obtain⟨⟨z0,z1,z2,z3,z4⟩,zf⟩:=GE ((hb3.block _ (Zb U.o)).trans U.o);clear hb3)|(refine⟨trivial,?_⟩;gi_at_call 113;refine(CallsIn.inRound l (Zu.2 (df.o _ HB3.o))).mono ?_;rintro e w4 ⟨rfl,cm,hb4⟩;have di:=hid cm;have HB4:=hid hb4;clear cm hb4));have ea:JH w3 g 0 dn:=dk.o.but (HB3.o.block g eb);have ar:But (fun b=>jaB Y=some b) W w4:=(But.of_below HB3.o).then HB4.o (fun k _ e=>by rw[e];exact bv.o);have cy:∀k,w.1.size<=k->¬jaB Y=some k:=fun k hk e=>by rw[bv.o] at e;injection e with e;omega
    have cr:∀Bb,KeepsFrom Bb W w4:=fun Bb=>(Gk HB3.o).trans (yc HB4.o (ea.cells oq))
    have de:=ee;refine⟨cr _,(KD.of_below HB3.o).trans (KD.of_but HB4.o oq oq),(by rw[G.o];exact R.o.but ar (Vy _ _ _) (.inr ⟨g,dj.o,di.o⟩)),(ar.block _ T.o.lt (cy _ (Zc _))).trans T.o,(ar.block _ (Zb U.o) (cy _ de)).trans U.o,bs.o.then ar (fun _ _ e=>e),bt.o.from (cr _)⟩
  rintro D xs W hD rfl ⟨g1,g2,g3,g4,g5⟩ hk;rw[List.length_range,<-ca.o] at g1;gi_wp2;refine⟨hid ⟨i+1,_,rfl,by simp,by simp[slt],by simp[slt],by simp[slt],by first|(simp[slt];done)|(simp[slt];go_num),cu,g1,g2,g4,g5.cons oq oq hk⟩,?_⟩;simp[slt,intOf];omega
 obtain rfl:i=L:=oq;have i1:¬(i:Int)<(i:Int):=oq;have ac:=am.o;rw[<-be.o,ZT] at ac;have br:=hid ac;clear ac j;gi_wp2;refine bf.o.leaves (fun W' hW'=>⟨.tuple #[],?_,?_⟩)
 .exact results_none rfl _ _ _
 exact⟨rfl,br.o.mk' hW',bc.o.then (show But (fun k=>w.1.size<=k) wr W' from ⟨hW'.os,hW'.tape,hW'.output,Nat.le_of_eq hW'.size.symm,fun k _ hk=>hW'.low k oq⟩) (fun k hk e=>oq)⟩
open Go.RowKit Go.Sort
def Qr(d d':Array YH):Prop:=d'.size=d.size/\∀k:Nat,d'[k]!.t=d[k]!.t/\d'[k]!.n=d[k]!.n/\d'[k]!.r=d[k]!.r/\d'[k]!.na=d[k]!.na/\d'[k]!.nl=d[k]!.nl/\d'[k]!.nc=d[k]!.nc
theorem Qr.refl(d:Array YH):Qr d d:=⟨rfl,fun k=>⟨rfl,rfl,rfl,rfl,rfl,rfl⟩⟩
theorem Qr.trans{a b c:Array YH}(h:Qr a b)(k:Qr b c):Qr a c:=⟨k.1.trans h.1,fun i=>by
 obtain⟨h1,h2,h3,h4,h5,h6⟩:=h.2 i;obtain⟨k1,k2,k3,k4,k5,k6⟩:=k.2 i;exact⟨k1.trans h1,k2.trans h2,k3.trans h3,k4.trans h4,k5.trans h5,k6.trans h6⟩⟩
theorem K9(d:Array YH)(p:Nat)(x:Int):Qr d (X4 d p x):=by
 refine⟨Vy d p x,fun k=>?_⟩;by_cases f:p<d.size
 .unfold X4;rw[Kb f];by_cases e:k=p
  .subst e;rw[Z3 rfl];exact⟨rfl,rfl,rfl,rfl,rfl,rfl⟩
  rw[Z2 e];exact⟨rfl,rfl,rfl,rfl,rfl,rfl⟩
 have:X4 d p x=d:=by unfold X4;exact Array.setIfInBounds_eq_of_size_le oq
 rw[this];exact⟨rfl,rfl,rfl,rfl,rfl,rfl⟩
theorem ZbJ(f:p<d.size)(x:Int)(k:Nat):(X4 d p x)[k]!.d=if k=p then min d[k]!.d x else d[k]!.d:=by
 unfold X4;rw[Kb f];by_cases e:k=p
 .subst e;rw[Z3 rfl,Z3 rfl]
 rw[Z2 e,Z2 e]
theorem qg(d:Array YH)(o:Option Int)(x:Int):Qr d (Ko d o x):=by
 cases o with
 | none=>exact Qr.refl d
 | some p=>exact K9 _ _ _
theorem zj(f:FD)(B:List (Nat × Nat))(t:LD)(d:Array YH):∀n,Qr d (tellN f B t d n)
 | 0=>Qr.refl d
 | n+1=>by rw[Uy];exact(zj f B t d n).trans (qg _ _ _)
theorem JN(f:FD)(B:List (Nat × Nat))(u:Int):∀(l:List LD)(d:Array YH),Qr d (Jw f B u d l)
 | [],d=>Qr.refl d
 | t::l,d=>(zj f B t d _).trans (JN f B u l _)
def DB(c:Nat)(d:Array YH):Prop:=∀p,p<d.size->-(1000*(c:Int))<=d[p]!.d/\d[p]!.d<=30000
theorem DB.bring(h:DB c d)(j:-(1000*(c:Int))<=x):DB c (X4 d p x):=by
 intro k f;rw[Vy] at f;by_cases g:p<d.size
 .rw[ZbJ g];have:=h k f;split<;>omega
 have:X4 d p x=d:=by unfold X4;exact Array.setIfInBounds_eq_of_size_le oq
 rw[this];exact h k f
theorem DB.mono{c c':Nat}(h:DB c d)(hc:c<=c'):DB c' d:=fun p hp=>by have:=h p hp;omega
theorem DB.tellN{f:FD}{B:List (Nat × Nat)}{t:LD}(hr:1<=t.per/\0<=t.ph/\1<=t.dl){d:Array YH}(h:DB 0 d):∀n,DB 0 (tellN f B t d n)
 | 0=>h
 | n+1=>by
  rw[Uy];have ih:=DB.tellN (f:=f) (B:=B) hr h n
  cases ho:Qz f B t.arg (n:Int) with
  | none=>exact ih
  | some p =>
   refine ih.bring ?_;have:=Int.mul_nonneg (show 0<=(n:Int) by omega) (show 0<=t.per by omega);omega
theorem DB.tells{f:FD}{B:List (Nat × Nat)}{u:Int}:∀(l:List LD),(∀t∈l,1<=t.per/\0<=t.ph/\1<=t.dl)->∀{d:Array YH},DB 0 d->DB 0 (Jw f B u d l)
 | [],_,d,h=>h
 | t::l,hl,d,h=>DB.tells l (fun x hx=>hl x (by simp[hx])) (DB.tellN (hl t (by simp)) h _)
def e7(f:FD)(B:List (Nat × Nat))(i:Nat):Int:=(f.nods.getD (tkO f (B.getD i (0,0)).1).node.toNat ⟨0,0⟩).bud
def bringL(x:Int)(d:Array YH)(l:List Int):Array YH:=l.foldl (fun d p=>X4 d p.toNat x) d
theorem qe{l:List Int}{m:Nat}(h:m<l.length):bringL x d (l.take (m+1))=X4 (bringL x d (l.take m)) l[m].toNat x:=by
 unfold bringL;rw[Zw h,List.foldl_append];rfl
theorem JI(x:Int):∀(l:List Int)(d:Array YH),Qr d (bringL x d l)
 | [],d=>Qr.refl d
 | p::l,d=>(K9 d p.toNat x).trans (JI x l _)
theorem DB.bringL{c:Nat}{x:Int}(hx:-(1000*(c:Int))<=x):∀(l:List Int){d:Array YH},DB c d->DB c (bringL x d l)
 | [],d,h=>h
 | p::l,d,h=>DB.bringL hx l (h.bring hx)
def ZfE(f:FD)(B:List (Nat × Nat))(d:Array YH)(i:Nat):Array YH:=bringL (d[i]!.d-e7 f B i) d (XK f B i)
def adjN(f:FD)(B:List (Nat × Nat))(d:Array YH):Nat->Array YH
 | 0=>d
 | k+1=>ZfE f B (adjN f B d k) (B.length-1-k)
theorem JY(f:FD)(B:List (Nat × Nat))(d:Array YH):∀k,Qr d (adjN f B d k)
 | 0=>Qr.refl d
 | k+1=>(JY f B d k).trans (JI _ _ _)
theorem kX{order:List Int}(x:X1 f order u B)(z:Y8 f order)(A:RgF f)(hi:i<B.length):1<=e7 f B i/\e7 f B i<=1000:=by
 have hb:B[i]?=some (B.getD i (0,0)):=by rw[Zf,Ze hi];rfl
 obtain⟨⟨t,n⟩,g⟩:=ez (B.getD i (0,0));unfold e7;rw[g] at hb ⊢;have y:=(x.mem z).1 (Yb hb);obtain⟨k,j,m,q,v⟩:=A.node t y.1;rw[j,ZR,Zf,Ze m];exact⟨q,v⟩
theorem DB.adjN{f:FD}{order:List Int}{u:Int}{B:List (Nat × Nat)}(hB:X1 f order u B)(ho:Y8 f order)(hr:RgF f){d:Array YH}(hd:d.size=B.length)(h:DB 0 d):∀k,k<=B.length->DB k (adjN f B d k)
 | 0,_=>h
 | k+1,hk=>by
  have ih:=DB.adjN hB ho hr hd h k oq;have hs:=(JY f B d k).1;have h1:=ih (B.length-1-k) oq;have h2:=kX hB ho hr (i:=B.length-1-k) oq;show DB (k+1) (syn.bringL _ _ _);exact DB.bringL oq _ (ih.mono (Nat.le_succ k))
theorem JH.inj{d z:Array YH}(h:JH W g 0 d)(L:JH W g 0 z)(hi:i<d.size)(A:i<z.size):d[i]! = z[i]!:=by
 obtain⟨⟨C,D,E,F,G⟩,_⟩:=h.cell hi;obtain⟨⟨f,j,m,q,v⟩,_⟩:=L.cell A;rw[C] at f;rw[D] at j;rw[E] at m;rw[F] at q;rw[G] at v;obtain⟨x,M⟩:∃x,d[i]! = x:=⟨_,rfl⟩;obtain⟨y,hy⟩:∃y,z[i]! = y:=⟨_,rfl⟩;rw[M,hy] at f j m q v ⊢;obtain⟨O,R,T,U,V,X,Y⟩:=x;obtain⟨Z,y1,y2,y3,y4,y5,y6⟩:=y;simp only[Option.some.injEq,Value.int.injEq,Value.slice.injEq,true_and] at f j m q v;obtain⟨H,I,J⟩:=v;subst f;subst j;subst m;subst q;subst H;subst I;subst J;rfl
