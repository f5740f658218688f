/- Parts of the proof. -/
import Derived.Test.YtdgifkjaflfdeaaGreatDoorJ45
import Derived.Test.YtdgifkjaflfdeaaGreatDoorJ46
set_option linter.all false
set_option maxRecDepth 100000
set_option maxHeartbeats 16000000
namespace Go.Proofs.YtdgifkjaflfdeaaGreatDoor.syn
open Tryz
open Go.RowKit Go.Shelf Go.Sort
variable {f:FD}{ob g i k N:Nat}{j:Nat->Int}{t per ph u:Int}{W W':World}{α:Type}{a:Option Addr}{l:List Int}{B:List (Nat × Nat)}{NF:Nat->List Int}
def LsR(H:Nat)(W2:World)(d:List YK)(v:Value)(W:World):Prop:=RowKit.Below H W2 W/\W.ownsRow H 128 5 v d.length (d.flatMap XX)
def LsS(fb:Nat)(v2:Value)(ob oi:Nat)(t:Int)(bt o1 o2:Nat)(per ph:Int)(W:World):Prop:=W.cell? ⟨fb,2,none⟩=some v2/\W.cell? ⟨ob,oi,none⟩=some (.int .i64 t)/\W.cell? ⟨bt,o1,none⟩=some (.int .i64 per)/\W.cell? ⟨bt,o2,none⟩=some (.int .i64 ph)
theorem EV{f:Nat}{m:Value}{ob j:Nat}{bt o1 g:Nat}(h:LsS f m ob j t bt o1 g per ph W)(q:W'.1[f]?=W.1[f]?)(v:W'.1[ob]?=W.1[ob]?)(x:W'.1[bt]?=W.1[bt]?):LsS f m ob j t bt o1 g per ph W':=by
 obtain⟨s0,s1,s2,s3⟩:=h;have c1:=fun o=>Zn (w:=W) (w':=W') (a:=⟨f,o,none⟩) q
 have c2:=fun o=>Zn (w:=W) (w':=W') (a:=⟨ob,o,none⟩) v
 have c3:=fun o=>Zn (w:=W) (w':=W') (a:=⟨bt,o,none⟩) x
 exact⟨(c1 _).trans s0,(c2 _).trans s1,(c3 _).trans s2,(c3 _).trans s3⟩
def LtS(ob oi:Nat)(t:Int)(p:Nat)(per ph:Int)(W:World):Prop:=W.cell? ⟨ob,oi,none⟩=some (.int .i64 t)/\W.cell? ⟨p,0,none⟩=some (.int .i64 per)/\W.cell? ⟨p,1,none⟩=some (.int .i64 ph)
theorem Kh{ob f:Nat}{p:Nat}(h:LtS ob f t p per ph W)(g:W'.1[ob]?=W.1[ob]?)(j:W'.1[p]?=W.1[p]?):LtS ob f t p per ph W':=by
 obtain⟨s0,s1,s2⟩:=h;have c1:=fun o=>Zn (w:=W) (w':=W') (a:=⟨ob,o,none⟩) g
 have c2:=fun o=>Zn (w:=W) (w':=W') (a:=⟨p,o,none⟩) j
 exact⟨(c1 _).trans s0,(c2 _).trans s1,(c2 _).trans s2⟩
theorem jH(f:FD)(D:Nat)(l:List Int):(QD f D l).length<=l.length:=List.length_filterMap_le _ _
theorem jJ(f:FD)(l:List Int):∀D,(QE f l D).length<=D*l.length
 | 0=>by simp[QE]
 | D+1=>by
  rw[Vr,Zx,Nat.succ_mul];have:=jJ f l D;have:=jH f D l;omega
theorem bZ470{p:Prop}(h:p:=by first|with_reducible exact KA.o|exact EV KA.o ((show Below m.1.size m _ from bq).block fb bj) ((show Below m.1.size m _ from bq).block E aq) ((show Below m.1.size m _ from bq).block bt bp)):p:=h
theorem bZ471{p:Prop}(h:p:=by first|with_reducible exact KI.o|with_reducible exact bf.o|exact Kh KI.o ((show Below x.1.size x _ from bq).block E A.o.1) ((show Below x.1.size x _ from bq).block z A.o.2.2.1)):p:=h
theorem kJ{w0 W:World}(f:FD)(ai an aT al:Option Addr)(ci cn ct cl:Nat)(hf:FAP w0 f ai an aT al)(cr:Y3 f=true)(bl:Below w0.1.size w0 W)(l:List Int)(ho:ofP f=some l)(hc:Vj f)(dm:l.length<=1000)(u:Nat)(hu:u<=20000) :
  Calls prog 51 #[fv f ai an aT al ci cn ct cl,.int .i64 (u:Int)] W fun y W'=>∃H v,y=.returned v/\W.1.size<=H/\W'.ownsRow H 128 5 v ((QE f l u).map (mkJ f)).length (((QE f l u).map (mkJ f)).flatMap XX)/\Below W.1.size W W':=by
 have bc:=JQ ho;have ab:=hf.lens;have HT:=hid hf.tasks;have Y:=hid (fun(W:World) (hb:Below w0.1.size w0 W)=>Zac (w:=W) f ai an aT al ci cn ct cl (hf.below hb));rw[yI cr,ho] at Y;simp only[xc] at Y;have bv:=hid bc;have cz:=hid hc;unfold fv at *;obtain⟨W1,aa⟩:=ez (W.alloc (.cells #[.slice ai f.ins.length ci,.slice an f.nods.length cn,.slice aT f.tasks.length ct,.slice al f.tells.length cl] 35));have hb1:Below W.1.size W W1:=by rw[<-aa];exact bq
 have U:W1.1[W.1.size]?=some (.cells #[.slice ai f.ins.length ci,.slice an f.nods.length cn,.slice aT f.tasks.length ct,.slice al f.tells.length cl] 35 (0,0)):=by rw[<-aa];exact Yx W _
 obtain⟨fb,bk⟩:=ez W.1.size;obtain⟨nT,av⟩:=ez f.tasks.length;have ds:nT<=1000:=by rw[<-av];exact ab.2.2.1
 have bs:=hid av;rw[av] at U aa Y ⊢;have bb:=bl.trans (hb1.mono bl.size);have ak:=hid bb;rw[bk] at U;have cd:fb<W1.1.size:=Zb U;have bw:=hid U;have HB1:=hid hb1;obtain⟨⟨f0,f1,f2,f3⟩,ff⟩:=Yy U;clear ab bl hb1 U hf av bc hc ho cr bb;go_enter func51,ntmps51;go_upto_region 1 with fail
 first|rw[aa]|skip
 clear aa;have du:=hid bk;clear bk;go_upto_region 2 with (go_at_call 12;refine(Y.o _ ak.o).mono ?_;rintro y w1 ⟨⟨vo,rfl,cg⟩,hb2⟩;have be:=hid cg;have HB2:=hid hb2;clear cg hb2)
 obtain⟨W2,rfl⟩:=ey w1;obtain⟨oa,oc,rfl⟩:=YF be.o;have bu:=hid (zg be.o);clear f0 f1 f2 f3 ff Y;obtain⟨H,hH⟩:=ez W2.1.size;have HH:=hid hH;have dj:fb<H:=by have:=HB2.o.size;omega
 have bx:=hid ((HB2.o.block _ cd).trans bw.o);have X:=hid (ak.o.trans (HB2.o.mono ak.o.size));have HBW:=hid (HB1.o.trans (HB2.o.mono HB1.o.size));have bz:W.1.size<=H:=by rw[<-hH];exact HBW.o.size
 clear hH bw HB1 HB2 ak be cd W1;go_wp2;go_loopw [7,8] (fun s7 s8 wr=>Hid (∃D:Nat,s8=.int .i64 (D:Int)/\D<=u/\LsR H W2 ((QE f l D).map (mkJ f)) s7 wr)) (fun _ s _=>u-(intOf s).toNat)
 case atStart=>exact⟨0,rfl,Zk _,by rw[<-HH.o];exact Zg _ _,Ye _ _ _ _⟩
 obtain⟨dy,rfl⟩:=ey wr;obtain⟨D,rfl,hD,T⟩:=hrel.o;clear hrel;have F:=hid T;by_cases dz:D<u
 .have d0:(D:Int)<(u:Int):=oq;clear T;go_wp2;go_loopw [7,9] (fun s7 s9 wr=>Hid (∃i:Nat,s9=.int .i64 (i:Int)/\i<=l.length/\LsR H W2 ((QE f l D++QD f D (l.take i)).map (mkJ f)) s7 wr)) (fun _ s _=>l.length-(intOf s).toNat)
  case atStart=>exact⟨0,rfl,Zk _,by rw[show QE f l D++QD f D (l.take 0)=QE f l D by simp[QD]];exact F.o⟩
  obtain⟨m,rfl⟩:=ey wr;obtain⟨i,rfl,hi,T⟩:=hrel.o;clear hrel F;have F:=hid T;obtain⟨hb3,G⟩:=T;obtain⟨ja,cj,rfl⟩:=YF G;obtain⟨N,hN⟩:=ez (((QE f l D++QD f D (l.take i)).map (mkJ f)).length);have ea:N<=20001000:=by
   rw[<-hN,Zo,Zx];have h1:=jJ f l D;have h2:=jH f D (l.take i);have h3:D*l.length<=20000*1000:=Nat.mul_le_mul oq dm;rw[Ya] at h2;omega
  obtain⟨cs,cb⟩:=ez (((QE f l D++QD f D (l.take i)).map (mkJ f)).flatMap XX);rw[hN] at F G ⊢;by_cases ap:i<l.length
  .have i0:(0:Int)<=(i:Int):=oq;have i1:(i:Int)<(l.length:Int):=oq;have ar:=Ze ap;have hr:=bv.o.rng l[i] (Zi ap);obtain⟨q,cw⟩:∃q:Nat,l[i]=(q:Int):=⟨l[i].toNat,oq⟩;have M:=kI f D ar;rw[cw] at hr ar M;rw[ZQ] at M;have dp:q<nT:=by rw[<-bs.o];omega
   have C:q<f.tasks.length:=by rw[bs.o];exact dp
   have t0:(0:Int)<=(q:Int):=oq;have t1:(q:Int)<(nT:Int):=oq;obtain⟨E,oo,rfl,ch,cm⟩:=bu.o.resolve_left (fun e=>by rw[e] at ap;simp at ap);have ck:E<H:=by rw[<-HH.o];exact ch
   have o1:=(hb3.cell (p:=⟨E,oo+i,none⟩) ck).trans (cm i _ ar);obtain⟨bt,ot,rfl,bh,cc⟩:=HT.o.resolve_left (fun e=>by rw[e] at C;simp at C);obtain⟨u0,u1,u2,ta,tc,u3,cu⟩:=cc q C;have cx:w0.1.size<=H:=by rw[<-HH.o];exact X.o.size
   have au:=X.o.trans (hb3.mono cx);have y1:=(au.cell (p:=⟨bt,_,none⟩) bh).trans u1;have y2:=(au.cell (p:=⟨bt,_,none⟩) bh).trans u2;obtain⟨bi,dg,dh,di⟩:=cz.o q C;rw[Vy C] at y1 y2;obtain⟨j,bm⟩:∃j,(tkO f q).per=j:=⟨_,rfl⟩;obtain⟨ph,bn⟩:∃ph,(tkO f q).ph=ph:=⟨_,rfl⟩;rw[bm] at y1 bi dg;rw[bn] at y2 dh di;have cv:H<=m.1.size:=by rw[<-HH.o];exact hb3.size
   have bj:fb<m.1.size:=oq;have aq:E<m.1.size:=oq;have bp:bt<m.1.size:=by have:=au.size;omega
   obtain⟨⟨f0,f1,f2,f3⟩,ff⟩:=Yy ((hb3.block _ dj).trans bx.o);have dw:=hid (show H<=H from Zc _);have V:=hid M;have R:=hid bm;have Z:=hid bn;have ax:=hid G;have HB3:=hid hb3;have HN:=hid hN;have ah:=hid cb;clear au u0 u1 u2 u3 cu cc cm ch bh hr ar M cw bm bn G hb3 hN cb bx HT bu X C cx F;go_upto_region 9 with fail
   have KA:=hid (show LsS fb (.slice (some ⟨bt,ot,none⟩) nT ct) E (oo+i) (q:Int) bt (ot+q*4+1) (ot+q*4+2) j ph m.drew from ⟨f2,o1,y1,y2⟩);refine ZO (S:=LsS fb (.slice (some ⟨bt,ot,none⟩) nT ct) E (oo+i) (q:Int) bt (ot+q*4+1) (ot+q*4+2) j ph) kq bZ470 (fun hH=>?_);refine tk 0 hH ?_;refine tk 1 hH ?_;refine tk 2 hH ?_;refine tk 3 hH ?_;refine tk 4 hH ?_;refine tk 5 hH ?_;refine tk 6 hH ?_;refine tk 7 hH ?_;refine tk 8 hH ?_;refine ry 9 fun K hK=>?_
   go_simp;refine hK.o _ _ (fun hH=>?_) bZ470;clear hK K;refine ry 10 fun K hK=>?_
   go_simp;refine hK.o _ _ (fun hH=>?_) bZ470;clear hK K;refine Zy kq ?_ _;have q0:m.cell? ⟨E,oo+i,none⟩=some (.int .i64 (q:Int)):=o1;clear f0 f1 f2 f3 ff y1 y2 KA hH o1;obtain⟨x,am⟩:=ez ((m.alloc (.cells #[.int .i64 j,.int .i64 ph] 50)).drew);rw[am];have hb4:RowKit.Below m.1.size m x:=by rw[<-am];exact bq
   obtain⟨z,bd⟩:=ez m.1.size;have aw:x.1[z]?=some (.cells #[.int .i64 j,.int .i64 ph] 50 (0,0)):=by rw[<-am,<-bd];exact Yx m _
   have q1:=(hb4.cell (p:=⟨E,oo+i,none⟩) aq).trans q0;have HB4:=hid (HB3.o.trans (hb4.mono cv));have O:=hid (own_below ax.o hb4);obtain⟨⟨a0,a1⟩,af⟩:=YL aw;rw[bd] at ⊢;have dv:=hid aw;have cq:z<x.1.size:=Zb aw;rw[ah.o] at O;clear am hb4 aw;have co:j≠0:=oq;have dr:(j == 0)=false:=ZX.2 co;by_cases cp:ph<=(D:Int)
   .obtain⟨y,hy⟩:=ez ((D:Int)-ph);have eg:0<=y:=oq;have eh:y<=20000:=oq;have ee:IntKind.i64.wrap ((D:Int)-ph)=y:=by rw[ZK _ oq,hy]
    obtain⟨r,hr⟩:=ez (y.tmod j);by_cases bo:r=0
    .subst bo;obtain⟨n,hn⟩:∃n,K6 (tkO f q) (D:Int)=some n:=⟨((D:Int)-ph).tdiv j |>.toNat,by unfold K6;rw[R.o,Z.o,Z0 (by rw[hy];omega)]⟩;have bg:=Uc (by rw[R.o];exact bi) hn;rw[R.o,Z.o] at bg;have br:y=(n:Int)*j:=oq;have ec:y.tdiv j=(n:Int):=by rw[br,Int.mul_tdiv_cancel _ co]
     have dt:(n:Int)<=20000:=by
      have h1:(n:Int)*1<=(n:Int)*j:=Int.mul_le_mul_of_nonneg_left bi oq;omega
     have ed:IntKind.i64.wrap (n:Int)=(n:Int):=ZK _ oq;have ef:IntKind.i64.wrap ((D:Int)+j)=(D:Int)+j:=ZK _ oq;have dc:=hid hn;have da:=hid bg;have dx:=hid br;clear hn bg br hy;obtain⟨ij,ce,ay,az,ba⟩:=info_parts eX;have aj:=hid (Zh ce (Zh ay (Zh az ba)));have ao:=X1 O.o;have ac:(Value.slice ja N cj).ownBlock≠some z:=by
      intro e;rcases ax.o.2 with ⟨e0,_⟩|⟨g,cap,cur,e0,hb,hgg,_⟩
      .rw[e0] at e;cases e
      rw[e0] at e;have e1:g=z:=by injection e
      have:=Zb hgg;omega
     have ae:(Value.slice ja N cj).ownBlock≠some E:=fun e=>by have:=ao _ e;omega
     have dl:E<x.1.size:=by have:=HB4.o.size;have:=HB3.o.size;omega
     have de:H<=x.1.size:=by have:=O.o.1;omega
     have A:=hid (Zh dl (Zh ae (Zh cq ac)));have db:=hid ao;clear ce ay az ba ao ac ae;go_upto_region 11 with fail
     have KI:=hid (show LtS E (oo+i) (q:Int) z j ph x.drew from ⟨q1,a0,a1⟩);clear q0 q1 a0 a1 af;refine ZO (S:=LtS E (oo+i) (q:Int) z j ph) kq bZ471 (fun hH=>?_);refine tk 0 hH ?_;refine tk 1 hH ?_;refine tk 2 hH ?_;refine tk 3 hH ?_;refine tk 4 hH ?_;refine tk 5 hH ?_;refine tk 6 hH ?_;refine tk 7 hH ?_;refine tk 8 hH ?_;refine tk 9 hH ?_;refine tk 10 hH ?_;refine tk 11 hH ?_;refine tk 12 hH ?_;refine tk 13 hH ?_;refine tk 14 hH ?_;refine tk 15 hH ?_;refine tk 16 hH ?_;refine tk 17 hH ?_;refine ry 18 fun K hK=>?_
     go_simp;refine hK.o _ _ (fun hH=>?_) bZ471;clear hK K;refine ry 19 fun K hK=>?_
     (refine step_append_lies _ (by rfl) _ _ _ (by rfl) H 128 ij _ 5 56 underlying59 aj.o.1 aj.o.2.1 aj.o.2.2.1 aj.o.2.2.2 rfl oq (.slice ja N cj) N cs (by rfl) (own_below O.o bq) ⟨x.1.size,0,none⟩ 1 1 [.int .i64 (q:Int),.int .i64 (n:Int),.int .i64 (D:Int),.int .i64 ((D:Int)+j),.slice none 0 0] (by rfl) (by rfl) (World.news_of_block (Zz _ _)) (by simp[Value.oneCell']) oq (by unfold maxLen;omega) oq (by simp;omega) (x.1.size+1) (by simp) ?_;intro gg dq w4 ag L ca cf;have J:But (fun b=>(Value.slice ja N cj).ownBlock=some b) x w4:=(But.of_below (bq:Below x.1.size x _)).then (But.of_grown L) (fun i _ e=>e);have bf:=hid (show LtS E (oo+i) (q:Int) z j ph w4 from Kh KI.o (J.block E A.o.1 A.o.2.1) (J.block z A.o.2.2.1 A.o.2.2.2));have cy:=hid J;have dd:=hid ag;clear J ag L ca cf)
     refine hK.o _ _ (fun hH=>?_) bZ471;clear hK K;refine tk 20 hH ?_;refine Zy kq ?_ _;go_wp2;have hL:(QE f l D++QD f D (l.take (i+1))).map (mkJ f)=(QE f l D++QD f D (l.take i)).map (mkJ f)++[mkJ f (q,n)]:=by
      rw[V.o,dc.o,<-List.append_assoc,ZU];rfl
     have hE:[mkJ f (q,n)].flatMap XX=[.int .i64 (q:Int),.int .i64 (n:Int),.int .i64 (D:Int),.int .i64 ((D:Int)+j),.slice none 0 0]:=by
      simp only[List.flatMap_cons,List.flatMap_nil,List.append_nil,XX,mkJ,XQ];rw[R.o,Z.o,<-da.o]
     have df:=cy.o.below de db.o;refine⟨hid ⟨i+1,rfl,oq,HB4.o.trans df,?_⟩,by simp[intOf];omega⟩;rw[hL,Zx,HN.o,List.flatMap_append,ah.o,hE];exact dd.o
    have eb:(r == 0)=false:=ZX.2 bo;have I:=hid (show K6 (tkO f q) (D:Int)=none by unfold K6;rw[R.o,Z.o,hy,hr,Z1 (.inr bo)]);clear hy;go_wp2;exact⟨hid ⟨i+1,rfl,oq,HB4.o,by rw[V.o,I.o];simp only[List.append_nil];rw[HN.o,ah.o];exact O.o⟩,by simp[intOf];omega⟩
   have ao:decide (ph<=(D:Int))=false:=ZY cp;have I:=hid (show K6 (tkO f q) (D:Int)=none by unfold K6;rw[R.o,Z.o,Z1 (.inl oq)]);go_wp2;exact⟨hid ⟨i+1,rfl,oq,HB4.o,by rw[V.o,I.o];simp only[List.append_nil];rw[HN.o,ah.o];exact O.o⟩,by simp[intOf];omega⟩
  have dn:decide ((i:Int)<(l.length:Int))=false:=ZY oq;have dk:i=l.length:=oq;clear G;go_wp2;exact⟨hid ⟨D+1,rfl,oq,by rw[Vr];have h:=F.o;rw[dk,ZS] at h;exact h⟩,by simp[intOf];omega⟩
 have dn:decide ((D:Int)<(u:Int))=false:=ZY oq;obtain rfl:D=u:=oq;clear T;go_wp2;go_ret;exact⟨H,_,rfl,bz,F.o.2,HBW.o.trans (F.o.1.mono bz)⟩
open Go.RowKit Go.Sort
def JK(F:Nat->α)(i:Nat)(x:α):Nat->α:=fun k=>if k=i then x else F k
theorem Uk(F:Nat->α)(i:Nat)(x:α):JK F i x i=x:=Z1 rfl
theorem Zat(F:Nat->α)(x:α)(h:k≠i):JK F i x k=F k:=Z0 h
theorem vR(F:Nat->α)(i:Nat)(x y:α):JK (JK F i x) i y=JK F i y:=by
 funext k;unfold JK;split<;>rfl
theorem yS(F:Nat->α)(i:Nat):JK F i (F i)=F:=by
 funext k;unfold JK;split
 .rename_i h;rw[h]
 rfl
def UU(g:Nat)(W:World)(a:Option Addr)(l:List Int):Prop:=l=[]\/∃b o,a=some ⟨b,o,none⟩/\b≠g/\b<W.1.size/\∀(i:Nat)(x:Int),l[i]?=some x->W.cell? ⟨b,o+i,none⟩=some (.int .i64 x)
theorem UU.row(h:UU g W a l):qi W (Value.int .i64) a l:=by
 rcases h with h|⟨b,o,e,_,hb,hc⟩
 .exact .inl h
 exact .inr ⟨b,o,e,hb,hc⟩
theorem UU.keep(h:UU g W a l)(j:W.1.size<=W'.1.size)(f:∀b,b<W.1.size->b≠g->W'.1[b]?=W.1[b]?):UU g W' a l:=by
 rcases h with h|⟨b,o,e,hg,hb,hc⟩
 .exact .inl h
 exact .inr ⟨b,o,e,hg,Zd hb j,fun i x hx=>(Zn (w:=W) (a:=⟨b,o+i,none⟩) (f b hb hg)).trans (hc i x hx)⟩
def JA(g N:Nat)(f:FD)(B:List (Nat × Nat))(DF:Nat->Int)(NF:Nat->List Int)(W:World):Prop :=
 ∃d:Array YK,d.size=N/\(0<N->JH W g 0 d)/\∀k,k<N->(d[k]!.t=((B.getD k (0,0)).1:Int)/\d[k]!.n=((B.getD k (0,0)).2:Int)/\d[k]!.r=XQ f (B.getD k (0,0)))/\d[k]!.d=DF k/\d[k]!.nl=(NF k).length/\UU g W d[k]!.na (NF k)
theorem JA.congr{q j:Nat->Int}{NF m:Nat->List Int}(h:JA g N f B q NF W)(hd:∀k,k<N->j k=q k)(z:∀k,k<N->m k=NF k):JA g N f B j m W:=by
 obtain⟨d,v,x,y⟩:=h;refine⟨d,v,x,fun k hk=>?_⟩;rw[hd k hk,z k hk];exact y k hk
theorem JA.keep{g N:Nat}{f:FD}{B:List (Nat × Nat)}{j:Nat->Int}{NF:Nat->List Int}{W W':World}(h:JA g N f B j NF W)(hb:Below W.1.size W W'):JA g N f B j NF W':=by
 obtain⟨d,z,m,A⟩:=h;refine⟨d,z,fun h0=>(m h0).but (hb.block _ (m h0).lt),fun k hk=>?_⟩;obtain⟨q,v,x,y⟩:=A k hk;exact⟨q,v,x,y.keep hb.size (fun b hb' _=>hb.block b hb')⟩
theorem JA.cell{g N:Nat}{f:FD}{B:List (Nat × Nat)}{j:Nat->Int}{NF:Nat->List Int}{W:World}(h:JA g N f B j NF W){i:Nat}(hi:i<N) :
  g<W.1.size/\∃na nc,(W.cell? ⟨g,i*5,none⟩=some (.int .i64 ((B.getD i (0,0)).1:Int))/\W.cell? ⟨g,i*5+1,none⟩=some (.int .i64 ((B.getD i (0,0)).2:Int))/\W.cell? ⟨g,i*5+2,none⟩=some (.int .i64 (XQ f (B.getD i (0,0))))/\W.cell? ⟨g,i*5+3,none⟩=some (.int .i64 (j i))/\W.cell? ⟨g,i*5+4,none⟩=some (.slice na (NF i).length nc)) /\
   (W.frozen? ⟨g,i*5+3,none⟩=false/\W.frozen? ⟨g,i*5+4,none⟩=false)/\UU g W na (NF i):=by
 obtain⟨d,E,F,G⟩:=h;obtain⟨⟨x,y,z⟩,A,C,D⟩:=G i hi;have v:=F oq;obtain⟨⟨c0,c1,c2,c3,c4⟩,m,q⟩:=v.cell (i:=i) (by rw[E];exact hi);rw[ZD] at c0 c1 c2 c3 c4 m q;rw[x] at c0;rw[y] at c1;rw[z] at c2;rw[A] at c3;rw[C] at c4;exact⟨v.lt,_,_,⟨c0,c1,c2,c3,c4⟩,⟨m,q⟩,D⟩
theorem JA.setD{y:Nat->Int}(h:JA g N f B y NF W)(hi:i<N)(x:Int):JA g N f B (JK y i x) NF (W.setCell ⟨g,i*5+3,none⟩ (.int .i64 x)):=by
 obtain⟨d,C,G,H⟩:=h;have j:i<d.size:=by rw[C];exact hi
 have D:=(G oq).put (i:=i) (c:=3) j oq (v:=.int .i64 x) (x:={ d[i]! with d:=x }) rfl;rw[ZD] at D;refine⟨d.setIfInBounds i { d[i]! with d:=x },by simpa using C,fun _=>D,fun k hk=>?_⟩;obtain⟨z,E,A,F⟩:=H k hk;have q:UU g (W.setCell ⟨g,i*5+3,none⟩ (.int .i64 x)) d[k]!.na (NF k):=F.keep (by simp) (fun b hb hg=>Zr _ _ _ _ (fun e=>hg e));rw[Vg j];by_cases m:k=i
 .subst m;rw[Z1 rfl,Uk];exact⟨z,rfl,A,q⟩
 rw[Z0 m,Zat _ _ m];exact⟨z,E,A,q⟩
theorem JA.setN{z:Nat->Int}(h:JA g N f B z NF W)(hi:i<N)(l:List Int)(na:Option Addr)(nc:Nat)(J:UU g W na l):JA g N f B z (JK NF i l) (W.setCell ⟨g,i*5+4,none⟩ (.slice na l.length nc)):=by
 obtain⟨d,D,H,I⟩:=h;have j:i<d.size:=by rw[D];exact hi
 have E:=(H oq).put (i:=i) (c:=4) j oq (v:=.slice na l.length nc) (x:={ d[i]! with na:=na,nl:=l.length,nc:=nc }) rfl;rw[ZD] at E;have y:∀{a:Option Addr}{m:List Int},UU g W a m->UU g (W.setCell ⟨g,i*5+4,none⟩ (.slice na l.length nc)) a m:=fun hr=>hr.keep (by simp) (fun b hb hg=>Zr _ _ _ _ (fun e=>hg e))
 refine⟨d.setIfInBounds i { d[i]! with na:=na,nl:=l.length,nc:=nc },by simpa using D,fun _=>E,fun k hk=>?_⟩;obtain⟨A,C,F,G⟩:=I k hk;rw[Vg j];by_cases q:k=i
 .subst q;rw[Z1 rfl,Uk];exact⟨A,C,rfl,y J⟩
 rw[Z0 q,Zat _ _ q];exact⟨A,C,F,y G⟩
theorem JA.jbr(h:JA g N f B j NF W)(m:0<N):JbR W g 0 N f B j NF:=by
 refine⟨(h.cell m).1,fun k hk=>?_⟩;obtain⟨_,v,x,⟨c0,c1,c2,c3,c4⟩,_,q⟩:=h.cell hk;rw[ZD];exact⟨c0,c1,c2,c3,v,x,c4,q.row⟩
theorem zQ{f g:Array YK}(m:f.size=g.size)(h:∀k:Nat,f[k]!.d=g[k]!.d)(p:Nat)(x:Int)(k:Nat):(Xb f p x)[k]!.d=(Xb g p x)[k]!.d:=by
 by_cases j:p<f.size
 .rw[J6 j,J6 oq,h k]
 rw[show Xb f p x=f by unfold Xb;exact Array.setIfInBounds_eq_of_size_le oq,show Xb g p x=g by unfold Xb;exact Array.setIfInBounds_eq_of_size_le oq,h k]
theorem Uo(x:Int):∀(l:List Int){d1 d2:Array YK},d1.size=d2.size->(∀k:Nat,d1[k]!.d=d2[k]!.d)->∀k:Nat,(bringL x d1 l)[k]!.d=(bringL x d2 l)[k]!.d
 | [],_,_,_,h,k=>h k
 | p::l,d1,d2,hs,h,k=>Uo x l (by rw[Qs,Qs,hs]) (fun k=>zQ hs h _ _ k) k
theorem Gq(f:FD)(B:List (Nat × Nat)){d1 d2:Array YK}(hs:d1.size=d2.size)(h:∀k:Nat,d1[k]!.d=d2[k]!.d):∀m (k:Nat),(adjN f B d1 m)[k]!.d=(adjN f B d2 m)[k]!.d
 | 0,k=>h k
 | m+1,k=>by
  have ih:=Gq f B hs h m;show(bringL _ (adjN f B d1 m) _)[k]!.d=(bringL _ (adjN f B d2 m) _)[k]!.d;rw[ih];exact Uo _ _ (by rw[(Qr f B d1 m).1,(Qr f B d2 m).1,hs]) ih k
theorem ZeO{f g:Array YK}(m:f.size=g.size)(j:¬k<f.size):f[k]!.d=g[k]!.d:=by
 rw[getElem!_neg f k j,getElem!_neg g k oq]
def dT0(f:FD)(B:List (Nat × Nat))(u:Int):Array YK:=X9 f B u (B.map (mkJ f)).toArray f.tells
theorem Zdf(g:k<B.length):(B.map (mkJ f)).toArray[k]! = mkJ f (B.getD k (0,0)):=by
 rw[getElem!_pos _ k (by simpa using g),Zf,Ze g];simp
theorem qD(f:FD)(B:List (Nat × Nat))(u:Int):(dT0 f B u).size=B.length:=by unfold dT0;rw[JV];simp
theorem ZfA(j:Xg f l u B)(m:YQ f l)(q:RgF f)(g:k<B.length):(dT0 f B u)[k]!.d=tlL f ((B.getD k (0,0)).1:Int) ((B.getD k (0,0)).2:Int) u (XQ f (B.getD k (0,0))+(tkO f (B.getD k (0,0)).1).per) f.tells:=by
 have hb:B[k]?=some ((B.getD k (0,0)).1,(B.getD k (0,0)).2):=by rw[Zf,Ze g];rfl
 unfold dT0;rw[zJ j m q hb f.tells _ (fun _ h=>h) (by simp),Zdf g];rfl
theorem Zf7(y:Xg f l u B)(z:YQ f l)(v:RgF f)(C:u<=20000):DB 0 (dT0 f B u):=by
 unfold dT0;refine DB.tells f.tells (fun t ht=>?_) (fun k hk=>?_)
 .have h:=v.tel t ht;have x:=clock.Y1.1 (XR h.2).1;exact⟨x.1,oq,h.1.1⟩
 have g:k<B.length:=by simpa using hk
 rw[Zdf g];have hb:B[k]?=some (B.getD k (0,0)):=by rw[Zf,Ze g];rfl
 obtain⟨⟨s,m⟩,j⟩:=ez (B.getD k (0,0));rw[j] at hb ⊢;have q:=(y.mem z).1 (Z9 hb);obtain⟨c1,c2,c3,c4⟩:=v.clk s q.1;have hd:=(XN c1 m).1 q.2;have A:0<=(m:Int)*(tkO f s).per:=Int.mul_nonneg oq oq;have e:(mkJ f (s,m)).d=(tkO f s).ph+(m:Int)*(tkO f s).per+(tkO f s).per:=rfl;rw[e];omega
theorem Zgh{y:Option Addr}{d:Array YK}(h:ZbV W f l u B y d)(k:Nat):d[k]!.d=(adjN f B (dT0 f B u) B.length)[k]!.d:=by
 obtain⟨q,v,j,x⟩:=h.from_;rw[x];have m:(X9 f B u q f.tells).size=(dT0 f B u).size:=by rw[qD,JV,j]
 refine Gq f B m (fun k=>?_) _ k;by_cases g:k<B.length
 .rw[ZfA h.win h.ord h.rgf g];have hb:B[k]?=some ((B.getD k (0,0)).1,(B.getD k (0,0)).2):=by rw[Zf,Ze g];rfl
  rw[zJ h.win h.ord h.rgf hb f.tells _ (fun _ h=>h) j,(v k g).2.2.2]
 exact ZeO m (by rw[JV,j];exact g)
