/- Parts of the proof. -/
import Derived.Test.YtdgifkjaflfdeaaGreatDoorJ47
set_option linter.all false
set_option maxRecDepth 100000
set_option maxHeartbeats 16000000
namespace Go.Proofs.YtdgifkjaflfdeaaGreatDoor.syn
open Tryz
open Go.RowKit Go.Shelf Go.Sort
variable {W w0 W':World}{g m io H c:Nat}{f:FD}{B:List (Nat × Nat)}{q F G I J v x z A C D E y:Value}{a:Option Addr}{l:List Int}
structure RA (W2:World) (g N:Nat) (f:FD) (B:List (Nat × Nat)) (DF:Nat->Int) (NF:Nat->List Int) (W:World):Prop where
 but:But (fun k=>k=g) W2 W
 ja:JA g N f B DF NF W
theorem RA.congr{W2 W:World}{g N:Nat}{f:FD}{B:List (Nat × Nat)}{DF DF':Nat->Int}{NF NF':Nat->List Int}(h:RA W2 g N f B DF NF W)(hd:∀k,k<N->DF' k=DF k)(hn:∀k,k<N->NF' k=NF k):RA W2 g N f B DF' NF' W:=⟨h.but,h.ja.congr hd hn⟩
theorem RA.keep{W2 W W':World}{g N:Nat}{f:FD}{B:List (Nat × Nat)}{DF:Nat->Int}{NF:Nat->List Int}(h:RA W2 g N f B DF NF W)(hb:Below W.1.size W W'):RA W2 g N f B DF NF W':=⟨h.but.then (But.of_below (S:=fun _=>False) hb) (fun _ _ e=>e.elim),h.ja.keep hb⟩
theorem RA.setD{W2 W:World}{g N:Nat}{f:FD}{B:List (Nat × Nat)}{DF:Nat->Int}{NF:Nat->List Int}(h:RA W2 g N f B DF NF W){i:Nat}(hi:i<N)(x:Int):RA W2 g N f B (JK DF i x) NF (W.setCell ⟨g,i*5+3,none⟩ (.int .i64 x)):=⟨h.but.then (But.set (S:=fun k=>k=g) rfl _) (fun _ _ e=>e),h.ja.setD hi x⟩
theorem RA.setN{W2 W:World}{g N:Nat}{f:FD}{B:List (Nat × Nat)}{DF:Nat->Int}{NF:Nat->List Int}(h:RA W2 g N f B DF NF W){i:Nat}(hi:i<N)(l:List Int)(na:Option Addr)(nc:Nat)(hl:UU g W na l):RA W2 g N f B DF (JK NF i l) (W.setCell ⟨g,i*5+4,none⟩ (.slice na l.length nc)):=⟨h.but.then (But.set (S:=fun k=>k=g) rfl _) (fun _ _ e=>e),h.ja.setN hi l na nc hl⟩
theorem RA.low{W2 W w0:World}{g N:Nat}{DF:Nat->Int}{NF:Nat->List Int}(h:RA W2 g N f B DF NF W)(h0:Below w0.1.size w0 W2)(hg:w0.1.size<=g):Below w0.1.size w0 W:=h0.trans (h.but.below h0.size (fun k e=>by rw[e];exact hg))
def AlS(fb p8 g io:Nat)(v0 v1 v2 v3 a0 a1 j0 j1 j2 j3 j4:Value)(W:World):Prop:=W.cell? ⟨fb,0,none⟩=some v0/\W.cell? ⟨fb,1,none⟩=some v1/\W.cell? ⟨fb,2,none⟩=some v2/\W.cell? ⟨fb,3,none⟩=some v3/\W.cell? ⟨p8,2,none⟩=some a0/\W.cell? ⟨p8,3,none⟩=some a1 /\
 W.cell? ⟨g,io,none⟩=some j0/\W.cell? ⟨g,io+1,none⟩=some j1/\W.cell? ⟨g,io+2,none⟩=some j2/\W.cell? ⟨g,io+3,none⟩=some j3/\W.cell? ⟨g,io+4,none⟩=some j4
theorem Zb3{m q g io:Nat}(h:AlS m q g io F G I J v x z A C D E W)(L:∀b,b<H->W'.1[b]?=W.1[b]?)(j:m<H)(y:q<H)(f:g<H):AlS m q g io F G I J v x z A C D E W':=by
 obtain⟨s0,s1,s2,s3,s4,s5,s6,s7,s8,s9,s10⟩:=h;have c:=fun b (hb:b<H) o=>Zn (w:=W) (w':=W') (a:=⟨b,o,none⟩) (L b hb)
 exact⟨(c _ j _).trans s0,(c _ j _).trans s1,(c _ j _).trans s2,(c _ j _).trans s3,(c _ y _).trans s4,(c _ y _).trans s5,(c _ f _).trans s6,(c _ f _).trans s7,(c _ f _).trans s8,(c _ f _).trans s9,(c _ f _).trans s10⟩
def NlS(fb g io ko:Nat)(v0 v1 v2 v3 j0 j1 j2 j3 j4 o0 o1 o2 o3 o4:Value)(W:World):Prop:=W.cell? ⟨fb,0,none⟩=some v0/\W.cell? ⟨fb,1,none⟩=some v1/\W.cell? ⟨fb,2,none⟩=some v2/\W.cell? ⟨fb,3,none⟩=some v3 /\
 W.cell? ⟨g,io,none⟩=some j0/\W.cell? ⟨g,io+1,none⟩=some j1/\W.cell? ⟨g,io+2,none⟩=some j2/\W.cell? ⟨g,io+3,none⟩=some j3/\W.cell? ⟨g,io+4,none⟩=some j4 /\
 W.cell? ⟨g,ko,none⟩=some o0/\W.cell? ⟨g,ko+1,none⟩=some o1/\W.cell? ⟨g,ko+2,none⟩=some o2/\W.cell? ⟨g,ko+3,none⟩=some o3/\W.cell? ⟨g,ko+4,none⟩=some o4
theorem Zdo{m g io A:Nat}{G I J L q v x y z C o1 D E F:Value}(h:NlS m g io A G I J L q v x y z C o1 D E F W)(M:∀b,b<H->W'.1[b]?=W.1[b]?)(j:m<H)(f:g<H):NlS m g io A G I J L q v x y z C o1 D E F W':=by
 obtain⟨s0,s1,s2,s3,s4,s5,s6,s7,s8,s9,s10,s11,s12,s13⟩:=h;have c:=fun b (hb:b<H) o=>Zn (w:=W) (w':=W') (a:=⟨b,o,none⟩) (M b hb)
 exact⟨(c _ j _).trans s0,(c _ j _).trans s1,(c _ j _).trans s2,(c _ j _).trans s3,(c _ f _).trans s4,(c _ f _).trans s5,(c _ f _).trans s6,(c _ f _).trans s7,(c _ f _).trans s8,(c _ f _).trans s9,(c _ f _).trans s10,(c _ f _).trans s11,(c _ f _).trans s12,(c _ f _).trans s13⟩
theorem Zbk(h:UU g W a l)(hb:Below W.1.size W W'):∀j u,(ints l)[j]?=some u->∃x:Addr,a=some x/\W'.cell? (x.add j)=some u:=by
 intro j u f;unfold ints at f;rw[List.getElem?_map] at f;obtain⟨z,m,rfl⟩:=Option.map_eq_some_iff.1 f;rcases h with rfl|⟨b,o,rfl,_,hlt,hc⟩
 .simp at m
 refine⟨_,rfl,?_⟩;rw[show(⟨b,o,none⟩:Addr).add j=⟨b,o+j,none⟩ from by unfold Addr.add;split<;>simp_all];exact(hb.cell (p:=⟨b,o+j,none⟩) hlt).trans (hc j z m)
theorem Zdx{g base:Nat}(h:W.ownsRow base 3 1 (.slice a l.length c) l.length (ints l))(j:g<base):UU g W a l:=by
 have f:=X1 h;rcases zg h with e|⟨b,o,e,hb,hc⟩
 .exact .inl e
 exact .inr ⟨b,o,e,fun hh=>by have:=f b (by rw[e];rfl);omega,hb,hc⟩
def BgS(fb g io:Nat)(v0 v1 v2 v3 j0 j1 j2 j3 j4:Value)(W:World):Prop:=W.cell? ⟨fb,0,none⟩=some v0/\W.cell? ⟨fb,1,none⟩=some v1/\W.cell? ⟨fb,2,none⟩=some v2/\W.cell? ⟨fb,3,none⟩=some v3 /\
 W.cell? ⟨g,io,none⟩=some j0/\W.cell? ⟨g,io+1,none⟩=some j1/\W.cell? ⟨g,io+2,none⟩=some j2/\W.cell? ⟨g,io+3,none⟩=some j3/\W.cell? ⟨g,io+4,none⟩=some j4
theorem qv(h:BgS m g io A C D E q v x y z W)(F:∀b,b<H->W'.1[b]?=W.1[b]?)(j:m<H)(f:g<H):BgS m g io A C D E q v x y z W':=by
 obtain⟨s0,s1,s2,s3,s4,s5,s6,s7,s8⟩:=h;have c:=fun b (hb:b<H) o=>Zn (w:=W) (w':=W') (a:=⟨b,o,none⟩) (F b hb)
 exact⟨(c _ j _).trans s0,(c _ j _).trans s1,(c _ j _).trans s2,(c _ j _).trans s3,(c _ f _).trans s4,(c _ f _).trans s5,(c _ f _).trans s6,(c _ f _).trans s7,(c _ f _).trans s8⟩
theorem Vn{f g io p:Nat}{z A C D j m q x y:Value}(h:BgS f g io z A C D j m q x y W)(E:f≠g)(F:p<io):BgS f g io z A C D j m q x y (W.setCell ⟨g,p,none⟩ v):=by
 obtain⟨s0,s1,s2,s3,s4,s5,s6,s7,s8⟩:=h;have c:=fun o=>World.cell?_setCell_other W ⟨g,p,none⟩ ⟨f,o,none⟩ v (by intro e;injection e with e _ _;omega)
 have d:=fun o (ho:p<o)=>World.cell?_setCell_other W ⟨g,p,none⟩ ⟨g,o,none⟩ v (by intro e;injection e with _ e _;omega)
 exact⟨(c _).trans s0,(c _).trans s1,(c _).trans s2,(c _).trans s3,(d _ oq).trans s4,(d _ oq).trans s5,(d _ oq).trans s6,(d _ oq).trans s7,(d _ oq).trans s8⟩
theorem Kq(f:FD)(B:List (Nat × Nat))(i:Nat):∀c,(Ve f B i c).length<=c
 | 0=>Zc _
 | c+1=>by
  rw[Ve,Zx];have:=Kq f B i c;split<;>simp<;>omega
def DA(f:FD)(B:List (Nat × Nat))(u:Int)(i:Nat)(k:Nat):Int:=if k<i then (dT0 f B u)[k]!.d else XQ f (B.getD k (0,0))+(tkO f (B.getD k (0,0)).1).per
def NA(f:FD)(B:List (Nat × Nat))(i:Nat)(k:Nat):List Int:=if k<i then Ve f B k B.length else []
theorem ZcR{u:Int}(h:W.ownsRow H 128 5 (.slice a B.length c) B.length ((B.map (mkJ f)).flatMap XX)):∃g,H<=g/\(0<B.length->a=some ⟨g,0,none⟩)/\JA g B.length f B (DA f B u 0) (NA f B 0) W:=by
 rcases h.2 with ⟨e,hn⟩|⟨g,cap,cur,e,hb,_⟩
 .exact⟨H,Zc _,fun h0=>oq,(B.map (mkJ f)).toArray,by simp,fun h0=>oq,fun k hk=>oq⟩
 injection e with e1 e2 e3
 subst e1;have j:W.ownsRow H 128 5 (.slice (some ⟨g,0,none⟩) (B.map (mkJ f)).length c) (B.map (mkJ f)).length ((B.map (mkJ f)).flatMap XX):=by rw[Zo];exact h
 refine⟨g,hb,fun _=>rfl,(B.map (mkJ f)).toArray,by simp,fun _=>yK j,fun k hk=>?_⟩;rw[Zdf hk];refine⟨⟨rfl,rfl,rfl⟩,?_,?_,?_⟩
 .unfold DA;rw[Z0 oq];rfl
 .unfold NA;rw[Z0 oq];rfl
 unfold NA;rw[Z0 oq];exact .inl rfl
theorem Ze6(g:YQ f l):l.length<=f.tasks.length:=by
 have:=List.Nodup.length_le_of_subset (l₂:=(List.range f.tasks.length).map (fun k:Nat=>(k:Int))) g.nd (by
  intro x j;have:=g.rng x j;exact Yd.2 ⟨x.toNat,List.mem_range.2 oq,oq⟩)
 simpa using this
theorem bZ480{p:Prop}(h:p:=by first|with_reducible exact KA.o|with_reducible exact KB.o|exact Vn KB.o X oq):p:=h
theorem bZ481{p:Prop}(h:p:=by first|with_reducible exact KA.o|with_reducible exact KB.o):p:=h
theorem Zaw(f:FD)(ai an aT al:Option Addr)(ci cn ct cl:Nat)(hf:FAP w0 f ai an aT al)(eb:Y3 f=true)(dv:Below w0.1.size w0 W)(l:List Int)(ho:ofP f=some l)(u:Nat)(hu:u<=20000)(hB:Xg f l (u:Int) B)(hN:B.length<=1000000) :
  Calls prog 21 #[fv f ai an aT al ci cn ct cl,.int .i64 (u:Int)] W fun y W'=>∃a c,y=.returned (.slice a B.length c)/\(B.length=0\/∃g,a=some ⟨g,0,none⟩/\JbR W' g 0 B.length f B (fun k=>(adjN f B (dT0 f B (u:Int)) B.length)[k]!.d) (YR f B))/\Below W.1.size W W':=by
 have av:=JQ ho;have hr:=Uh eb;have ap:=hf.lens;have ca:=fun(W:World) (hb:Below w0.1.size w0 W)=>kJ f ai an aT al ci cn ct cl hf eb hb l ho hr.clk (Zm (Ze6 av) ap.2.2.1) u hu
 rw[Zc5 hr.clk av hB] at ca;obtain⟨N,cb⟩:=ez B.length;have fn:(B.map (mkJ f)).length=N:=by rw[Zo,cb]
 rw[fn] at ca;have dc:=hid ca;have HF:=hid hf;have I:=hid av;have T:=hid hr;have L:=hid hB;have R:=hid cb;rw[cb] at hN ⊢;unfold fv at *;obtain⟨nL,cm⟩:=ez f.tells.length;have kf:nL<=1000:=by rw[<-cm];exact ap.2.2.2
 have bh:=hid cm;rw[cm] at dc ⊢;obtain⟨W1,cc⟩:=ez (W.alloc (.cells #[.slice ai f.ins.length ci,.slice an f.nods.length cn,.slice aT f.tasks.length ct,.slice al nL cl] 35));have hb1:Below W.1.size W W1:=by rw[<-cc];exact bq
 have bc:W1.1[W.1.size]?=some (.cells #[.slice ai f.ins.length ci,.slice an f.nods.length cn,.slice aT f.tasks.length ct,.slice al nL cl] 35 (0,0)):=by rw[<-cc];exact Yx W _
 obtain⟨fb,dq⟩:=ez W.1.size;have cy:=dv.trans (hb1.mono dv.size);have bg:=hid cy;rw[dq] at bc;have fe:fb<W1.1.size:=Zb bc;have er:=hid bc;have HB1:=hid hb1;obtain⟨⟨f0,f1,f2,f3⟩,ff⟩:=Yy bc;clear ap dv hb1 bc hf cm av hr ho eb cy ca hB fn cb;go_enter func21,ntmps21;go_upto_region 1 with fail
 first|rw[cc]|skip
 clear cc;have kh:=hid dq;clear dq;go_upto_region 2 with (go_at_call 51;refine(dc.o _ bg.o).mono ?_;rintro y w1 ⟨H,v,rfl,hH,ft,hb2⟩;have dg:=hid ft;have HB2:=hid hb2;have HH:=hid hH;clear ft hb2 hH)
 obtain⟨W2,rfl⟩:=ey w1;obtain⟨a,c,rfl⟩:=YF dg.o;obtain⟨g,fa,az,ds⟩:=ZcR (u:=(u:Int)) (show W2.ownsRow H 128 5 (.slice a B.length c) B.length ((B.map (mkJ f)).flatMap XX) by rw[R.o];exact dg.o);rw[R.o] at az ds;have dm:W1.1.size<=g:=Zm HH.o fa;have dd:=hid ds;have ay:w0.1.size<=g:=Zm bg.o.size dm;have ar:=hid (bg.o.trans (HB2.o.mono bg.o.size));have bi:=hid ((HB2.o.block _ fe).trans er.o);have HBW:=hid (HB1.o.trans (HB2.o.mono HB1.o.size));have X:fb≠g:=oq;have Y:fb<W2.1.size:=Zb bi.o;have jc:W.1.size<=g:=Zm HB1.o.size dm;clear HH dg HB2 dc HB1 er bg ds fa f0 f1 f2 f3 ff fe dm H W1;go_wp2;go_loopw [6] (fun s6 wr=>Hid (∃i:Nat,s6=.int .i64 (i:Int)/\i<=N/\RA W2 g N f B (DA f B (u:Int) i) (NA f B i) wr)) (fun s _=>N-(intOf s).toNat)
 case atStart=>exact⟨0,rfl,Zk _,But.refl _ _,dd.o⟩
 obtain⟨W3,rfl⟩:=ey wr;obtain⟨i,rfl,hi,D⟩:=hrel.o;clear hrel;have di:=hid D;by_cases U:i<N
 .have i0:(0:Int)<=(i:Int):=oq;have i1:(i:Int)<(N:Int):=oq;obtain rfl:=az oq;have aa:i<B.length:=by rw[R.o];exact U
  clear D az dd;go_wp2;obtain⟨⟨s,m⟩,am⟩:=ez (B.getD i (0,0));have ec:s<f.tasks.length:=by
   have hb:B[i]?=some (s,m):=by rw[<-am,Zf,Ze aa];rfl
   exact((L.o.mem I.o).1 (Z9 hb)).1
  have jw:(0:Int)<=(s:Int)/\(s:Int)<=1000000:=by have:=HF.o.lens.2.2.1;omega
  obtain⟨x0,gc⟩:=ez (DA f B (u:Int) i i);have ac:=hid am;have ex:=hid gc;clear am gc;go_loopw [7] (fun s7 wr=>Hid (∃j:Nat,s7=.int .i64 (j:Int)/\j<=nL/\RA W2 g N f B (JK (DA f B (u:Int) i) i (tlL f (s:Int) (m:Int) (u:Int) x0 (f.tells.take j))) (NA f B i) wr)) (fun s _=>nL-(intOf s).toNat)
  case atStart=>exact⟨0,rfl,Zk _,by rw[show tlL f (s:Int) (m:Int) (u:Int) x0 (f.tells.take 0)=DA f B (u:Int) i i by rw[ex.o];rfl,yS];exact di.o⟩
  obtain⟨W4,rfl⟩:=ey wr;obtain⟨j,rfl,hj,D⟩:=hrel.o;clear hrel;have J:=hid D;obtain⟨⟨f0,f1,f2,f3⟩,ff⟩:=Yy ((D.but.block _ Y X).trans bi.o);by_cases jf:j<nL
  .have j0:(0:Int)<=(j:Int):=oq;have j1:(j:Int)<(nL:Int):=oq;have bs:j<f.tells.length:=by rw[bh.o];exact jf
   obtain⟨bl,ol,rfl,bm,fd⟩:=HF.o.tells.resolve_left (fun e=>by rw[e] at bs;simp at bs);obtain⟨u0,u1,u2,u4,oa,oc,u3,bx⟩:=fd j bs;have bd:=Zd6 (f:=f) (jt:=(s:Int)) (jn:=(m:Int)) (u:=(u:Int)) (x:=x0) (Ze bs);obtain⟨t,ht⟩:=ez (f.tells[j]);have ga:t∈f.tells:=by rw[<-ht];exact Zi bs
   rw[ht] at u0 u1 u2 u3 u4 bx bd;have C:=D.low ar.o ay;have y0:=(C.cell (p:=⟨bl,_,none⟩) bm).trans u0;have y1:=(C.cell (p:=⟨bl,_,none⟩) bm).trans u1;have y2:=(C.cell (p:=⟨bl,_,none⟩) bm).trans u2;have y3:=(C.cell (p:=⟨bl,_,none⟩) bm).trans u3;have y4:=(C.cell (p:=⟨bl,_,none⟩) bm).trans u4;obtain⟨je,bp⟩:=T.o.tel t ga;obtain⟨cp,jm,jo,jp⟩:=clock.Y1.1 (XR bp).1;have fu:=(HF.o.tops t ga).1;obtain⟨per,dy⟩:∃per,t.per=per:=⟨_,rfl⟩;obtain⟨ph,dz⟩:∃ph,t.ph=ph:=⟨_,rfl⟩;obtain⟨dl,bo⟩:∃dl,t.dl=dl:=⟨_,rfl⟩;obtain⟨src,ed⟩:∃src,t.arg.src=src:=⟨_,rfl⟩;obtain⟨nO,dw⟩:=ez t.arg.ops.length;have bf:=hid (fun(W:World) (hb:Below w0.1.size w0 W) (n:Nat) (hn:n<=1000000) (jr jd:Int) (na:Option Addr) (nl nc:Nat)=>EI (W:=W) f ai an aT (some ⟨bl,ol,none⟩) ci cn ct cl HF.o.lens.1 t.arg oa oc (Zah (bx.below VV hb)) fu (qM bp) n hn (s:Int) (m:Int) jr jd na nl nc jw);unfold fv at bf;rw[bh.o,dw,ed] at bf;rw[dy] at y0 cp jm bd;rw[dz] at y1 jo jp bd;rw[bo] at y4 je;rw[ed] at y2;rw[dw] at y3;obtain⟨x1,gd⟩:=ez (tlL f (s:Int) (m:Int) (u:Int) x0 (f.tells.take j));rw[gd] at bd J;have gw:=hid bd;have dh:=hid (Zh dy (Zh dz bo));clear D fd bx C dy dz bo ed dw ht bd u0 u1 u2 u3 u4 gd fu bp;go_upto_region 9 with fail
   obtain⟨W5,cd⟩:=ez (W4.alloc (.cells #[.int .i64 per,.int .i64 ph,.int .i64 src,.slice oa nO oc,.int .i64 dl] 94));rw[cd];have hb5:RowKit.Below W4.1.size W4 W5:=by rw[<-cd];exact bq
   obtain⟨p8,dx⟩:=ez W4.1.size;have ea:W5.1[p8]?=some (.cells #[.int .i64 per,.int .i64 ph,.int .i64 src,.slice oa nO oc,.int .i64 dl] 94 (0,0)):=by rw[<-cd,<-dx];exact Yx W4 _
   have eu:=hid (J.o.keep hb5);have fi:p8≠g:=by have:=(J.o.ja.cell U).1;omega
   have dt:p8<W5.1.size:=Zb ea;have es:=hid ea
   try rw[dx]
   clear cd hb5 ea dx y0 y1 y2 y3 y4 f0 f1 f2 f3 ff J;go_wp2;go_loopw [9] (fun s9 wr=>Hid (∃n:Nat,s9=.int .i64 (n:Int)/\n<=QK per ph (u:Int)/\But (fun k=>k=g) W5 wr/\RA W2 g N f B (JK (DA f B (u:Int) i) i (tl1 f (s:Int) (m:Int) t x1 n)) (NA f B i) wr)) (fun s _=>QK per ph (u:Int)-(intOf s).toNat)
   case atStart=>exact⟨0,rfl,Zk _,But.refl _ _,eu.o⟩
   obtain⟨V,rfl⟩:=ey wr;obtain⟨n,rfl,hn,bn,D⟩:=hrel.o;clear hrel;have G:=hid D;have gg:=hid bn;obtain⟨⟨c0,c1,c2,c3,c4⟩,cf⟩:=Q1 ((bn.block _ dt fi).trans es.o);obtain⟨⟨f0,f1,f2,f3⟩,ff⟩:=Yy ((D.but.block _ Y X).trans bi.o);obtain⟨q,hq⟩:=ez ((n:Int)*per);have bc:0<=q:=by rw[<-hq];exact Int.mul_nonneg oq oq
   have ab:=XN (per:=per) (ph:=ph) (u:=(u:Int)) cp n;have kp:q<=22000:=by
    by_cases h0:n=0
    .subst h0;rw[<-hq];simp
    have h1:=(XN (per:=per) (ph:=ph) (u:=(u:Int)) cp (n-1)).1 oq;have h2:((n-1:Nat):Int)*per+per=q:=by
     rw[<-hq];obtain⟨k,rfl⟩:∃k,n=k+1:=⟨n-1,oq⟩;rw[Nat.add_sub_cancel,Int.natCast_succ,Int.add_mul,Int.one_mul]
    omega
   rw[hq] at ab;have ks:IntKind.i64.wrap ((n:Int)*per)=q:=by rw[hq];exact ZK _ oq
   have kt:IntKind.i64.wrap (ph+q)=ph+q:=ZK _ oq;have et:=hid hq;clear hq;by_cases fq:n<QK per ph (u:Int)
   .have ke:ph+q<(u:Int):=ab.1 fq;have jl:n<=1000000:=by
     have:(n:Int)*1<=(n:Int)*per:=Int.mul_le_mul_of_nonneg_left cp oq;rw[et.o] at this;omega
    obtain⟨br,na,nc,⟨d0,d1,d2,d3,d4⟩,⟨e3,e4⟩,Z⟩:=D.ja.cell U;rw[ac.o] at d0 d1 d2;rw[Uk] at d3;obtain⟨rr,ak⟩:=ez (XQ f (s,m));rw[ak] at d2;obtain⟨x,hx⟩:=ez (tl1 f (s:Int) (m:Int) t x1 n);rw[hx] at d3 G;obtain⟨ni,M⟩:=ez ((NA f B i i).length);rw[M] at d4;have C:=D.low ar.o ay;have ag:RowKit.Below w0.1.size w0 V.drew:=⟨C.os,C.tape,C.output,C.size,C.block⟩;have gj:=hid (bf.o V.drew ag n jl rr x na ni nc);have HX:=hid hx;have ah:fb<V.1.size:=Zd Y D.but.size;have fl:p8<V.1.size:=Zd dt bn.size;have O:=hid (Zh ah (Zh fl br));clear ak hx M C ag Z D bn ab;go_upto_region 12 with fail
    have KA:=hid (show AlS fb p8 g (i*5) (.slice ai f.ins.length ci) (.slice an f.nods.length cn) (.slice aT f.tasks.length ct) (.slice (some ⟨bl,ol,none⟩) nL cl) (.int .i64 src) (.slice oa nO oc) (.int .i64 (s:Int)) (.int .i64 (m:Int)) (.int .i64 rr) (.int .i64 x) (.slice na ni nc) V.drew from ⟨f0,f1,f2,f3,c2,c3,d0,d1,d2,d3,d4⟩);clear f0 f1 f2 f3 ff c0 c1 c2 c3 c4 cf d0 d1 d2 d3 d4 e3 e4;refine ZO (S:=AlS fb p8 g (i*5) (.slice ai f.ins.length ci) (.slice an f.nods.length cn) (.slice aT f.tasks.length ct) (.slice (some ⟨bl,ol,none⟩) nL cl) (.int .i64 src) (.slice oa nO oc) (.int .i64 (s:Int)) (.int .i64 (m:Int)) (.int .i64 rr) (.int .i64 x) (.slice na ni nc)) kq bZ481 (fun hH=>?_);refine tk 0 hH ?_;refine tk 1 hH ?_;refine tk 2 hH ?_;refine tk 3 hH ?_;refine tk 4 hH ?_;refine tk 5 hH ?_;refine tk 6 hH ?_;refine tk 7 hH ?_;refine ry 8 fun K hK=>?_
    (go_simp;go_at_call 52;refine gj.o.mono ?_;rintro y w8 ⟨rfl,ba⟩;have bk:RowKit.Below V.1.size V w8:=⟨ba.os,ba.tape,ba.output,ba.size,ba.block⟩;have el:=hid bk;have KB:=hid (Zb3 KA.o (fun b h=>bk.block b h) O.o.1 O.o.2.1 O.o.2.2);clear ba bk)
    refine hK.o _ _ (fun hH=>?_) bZ481;clear hK K;refine Zy kq ?_ _;clear hH KA KB;have bj:=hid (G.o.keep el.o);have be:=hid (gg.o.then (But.of_below (S:=fun _=>False) el.o) (fun _ _ e=>e.elim));obtain⟨⟨c0,c1,c2,c3,c4⟩,cf⟩:=Q1 ((be.o.block _ dt fi).trans es.o);obtain⟨kc,kx,lb,⟨d0,d1,d2,d3,d4⟩,⟨e3,e4⟩,Z⟩:=bj.o.ja.cell U;rw[Uk] at d3;clear Z d0 d1 d2 d4 e4 c2 c3;have ku:IntKind.i64.wrap (ph+q+dl)=ph+q+dl:=ZK _ oq
    cases hb:JP f t.arg (n:Int) (s:Int) (m:Int) with
    | false =>
     have af:=hid (show tl1 f (s:Int) (m:Int) t x1 (n+1)=x by rw[tl1,hb];exact HX.o);go_wp2;exact⟨hid ⟨n+1,rfl,oq,be.o,by rw[af.o];exact bj.o⟩,by simp[intOf];omega⟩
    | true =>
     have af:=hid (show tl1 f (s:Int) (m:Int) t x1 (n+1)=min x (ph+q+dl) by rw[tl1,hb,Z1 rfl,HX.o,dh.o.1,dh.o.2.1,dh.o.2.2,et.o]);go_upto_region 13 with fail
     go_still_tail 22,kq
     change wpList _ _ _ _ _ w8.drew
     go_wp2;refine⟨hid ⟨n+1,rfl,oq,(be.o.then (But.set (S:=fun k=>k=g) rfl _) (fun _ _ e=>e)).drew,?_⟩,by simp[intOf];omega⟩;rw[af.o];have h:=bj.o.setD U (min x (ph+q+dl));rw[vR] at h;exact h.keep ((Zg _ _).drew)
   have kl:decide (ph+q<(u:Int))=false:=ZY (fun h=>fq (ab.2 h));have go:=hid (show n=QK per ph (u:Int) by omega);clear D bn ab;go_wp2;exact⟨hid ⟨j+1,rfl,oq,by rw[gw.o,<-go.o];exact G.o⟩,by simp[intOf];omega⟩
  have ab:decide ((j:Int)<(nL:Int))=false:=ZY oq;have gl:=hid (show j=nL by omega);clear D;go_wp2;obtain⟨xd,ee⟩:=ez ((dT0 f B (u:Int))[i]!.d);have fz:tlL f (s:Int) (m:Int) (u:Int) x0 (f.tells.take j)=xd:=by
   have h:=ZfA L.o I.o T.o aa;rw[ac.o] at h;rw[<-ee,h,show f.tells.take j=f.tells by rw[gl.o,<-bh.o,ZS],<-ex.o];unfold DA;rw[Z0 oq,ac.o]
  rw[fz] at J;have gx:=hid ee;clear ee fz;go_loopw [10] (fun s10 wr=>Hid (∃k:Nat,s10=.int .i64 (k:Int)/\k<=N/\RA W2 g N f B (JK (DA f B (u:Int) i) i xd) (JK (NA f B i) i (Ve f B i k)) wr)) (fun s _=>N-(intOf s).toNat)
  case atStart=>exact⟨0,rfl,Zk _,by rw[show Ve f B i 0=NA f B i i by unfold NA;rw[Z0 oq];rfl,yS];exact J.o⟩
  obtain⟨V,rfl⟩:=ey wr;obtain⟨k,rfl,hk,D⟩:=hrel.o;clear hrel;have G:=hid D;clear f0 f1 f2 f3 ff;obtain⟨⟨f0,f1,f2,f3⟩,ff⟩:=Yy ((D.but.block _ Y X).trans bi.o);by_cases aj:k<N
  .have k0:(0:Int)<=(k:Int):=oq;have k1:(k:Int)<(N:Int):=oq;obtain⟨br,na,nc,⟨d0,d1,d2,d3,d4⟩,⟨e3,e4⟩,Z⟩:=D.ja.cell U;obtain⟨_,ef,eg,⟨g0,g1,g2,g3,g4⟩,_,_⟩:=D.ja.cell aj;rw[ac.o] at d0 d1 d2;rw[Uk] at d3 d4 Z;obtain⟨⟨s2,m2⟩,ax⟩:=ez (B.getD k (0,0));rw[ax] at g0 g1 g2;obtain⟨rr,ak⟩:=ez (XQ f (s,m));rw[ak] at d2;obtain⟨ei,da⟩:=ez (XQ f (s2,m2));rw[da] at g2;obtain⟨ej,db⟩:=ez (JK (DA f B (u:Int) i) i xd k);rw[db] at g3;obtain⟨eh,cz⟩:=ez ((JK (NA f B i) i (Ve f B i k) k).length);rw[cz] at g4;obtain⟨ni,M⟩:=ez ((Ve f B i k).length);rw[M] at d4;have fr:ni<=1000000:=by rw[<-M];exact Zm (Kq f B i k) oq
   have bw:=fun(k:Nat) (b:Nat × Nat) (hb:B[k]?=some b)=>(L.o.mem I.o (t:=b.1) (n:=b.2)).1 (Z9 hb)
   have ck:=bw i (s,m) (by rw[<-ac.o,Zf,Ze aa];rfl);have fm:=bw k (s2,m2) (by rw[<-ax,Zf,Ze (show k<B.length by rw[R.o];exact aj)];rfl);have ji:m<=1000000:=by have:=Ka T.o.clk (show(u:Int)<=20000 by omega) ck.1;have:=ck.2;omega
   have fy:(0:Int)<=(s2:Int)/\(s2:Int)<=1000000:=by have:=HF.o.lens.2.2.1;have:=fm.1;omega
   have C:=D.low ar.o ay;have ag:RowKit.Below w0.1.size w0 V.drew:=⟨C.os,C.tape,C.output,C.size,C.block⟩;have co:=jW (W:=V.drew) f ai an aT al ci cn ct cl HF.o T.o ag s m ck.1 ji rr xd na ni nc (s2:Int) (m2:Int) ei ej ef eh eg fy;unfold fv at co;rw[bh.o] at co;have gp:=hid co;have ah:fb<V.1.size:=Zd Y D.but.size;have O:=hid (Zh ah br);have df:=hid M;have cr:=hid ax;have kj:=hid Z;clear ak da db cz M bw ck fm ax Z C ag co D;go_upto_region 17 with fail
   have KA:=hid (show NlS fb g (i*5) (k*5) (.slice ai f.ins.length ci) (.slice an f.nods.length cn) (.slice aT f.tasks.length ct) (.slice al nL cl) (.int .i64 (s:Int)) (.int .i64 (m:Int)) (.int .i64 rr) (.int .i64 xd) (.slice na ni nc) (.int .i64 (s2:Int)) (.int .i64 (m2:Int)) (.int .i64 ei) (.int .i64 ej) (.slice ef eh eg) V.drew from ⟨f0,f1,f2,f3,d0,d1,d2,d3,d4,g0,g1,g2,g3,g4⟩);clear f0 f1 f2 f3 ff d0 d1 d2 d3 d4 g0 g1 g2 g3 g4 e3 e4;refine ZO (S:=NlS fb g (i*5) (k*5) (.slice ai f.ins.length ci) (.slice an f.nods.length cn) (.slice aT f.tasks.length ct) (.slice al nL cl) (.int .i64 (s:Int)) (.int .i64 (m:Int)) (.int .i64 rr) (.int .i64 xd) (.slice na ni nc) (.int .i64 (s2:Int)) (.int .i64 (m2:Int)) (.int .i64 ei) (.int .i64 ej) (.slice ef eh eg)) kq bZ481 (fun hH=>?_);refine tk 0 hH ?_;refine tk 1 hH ?_;refine tk 2 hH ?_;refine tk 3 hH ?_;refine tk 4 hH ?_;refine tk 5 hH ?_;refine tk 6 hH ?_;refine tk 7 hH ?_;refine tk 8 hH ?_;refine ry 9 fun K hK=>?_
   (go_simp;go_at_call 53;refine gp.o.mono ?_;rintro y w9 ⟨rfl,E⟩;have F:RowKit.Below V.1.size V w9:=⟨E.os,E.tape,E.output,E.size,E.block⟩;have ao:=hid F;have KB:=hid (Zdo KA.o (fun b h=>F.block b h) O.o.1 O.o.2);clear E F)
   refine hK.o _ _ (fun hH=>?_) bZ481;clear hK K;refine Zy kq ?_ _;clear hH KA KB;have au:=hid (G.o.keep ao.o)
   cases hb:GE f s (m:Int) (s2:Int) (m2:Int) with
   | false =>
    have af:=hid (show Ve f B i (k+1)=Ve f B i k by rw[Ve,ac.o,cr.o,hb,Z0 (by simp),List.append_nil]);go_wp2;exact⟨hid ⟨k+1,rfl,oq,by rw[af.o];exact au.o⟩,by simp[intOf];omega⟩
   | true =>
    have af:=hid (show Ve f B i (k+1)=Ve f B i k++[(k:Int)] by rw[Ve,ac.o,cr.o,hb,Z1 rfl]);obtain⟨ij,fk,cv,cw,cx⟩:=info_parts jA;have HI:=hid (Zh fk (Zh cv (Zh cw cx)));obtain⟨fj,ka,kb,⟨d0,d1,d2,d3,d4⟩,⟨e3,e4⟩,aw⟩:=au.o.ja.cell U;rw[Uk] at d4 aw;rw[df.o] at d4;obtain⟨ln,du⟩:=ez (Ve f B i k);have bu:ln.length=ni:=by rw[<-du];exact df.o
    rw[du] at aw af;have gk:=hid (show(ints ln).length=ni*1 by rw[Ja,Z7,bu]);have gs:=hid (show ∀v∈ints ln,v.oneCell'=true by intro v hv;unfold ints at hv;obtain⟨z,_,rfl⟩:=Yd.1 hv;rfl);have gq:=hid (fun(W:World) (hb:RowKit.Below w9.1.size w9 W)=>Zbk aw hb);have gn:=hid bu;clear fk cv cw cx d0 d1 d2 d3 e3 aw du bu;go_wp2_with (first|(refine lite.Y6 _ (by rfl) _ _ _ (by rfl) w9.1.size 3 ij _ 1 8 underlying44 HI.o.1 HI.o.2.1 HI.o.2.2.1 HI.o.2.2.2 rfl oq (.slice (some ⟨w9.1.size,0,none⟩) 0 0) 0 [] (by rfl) (ZfG w9 w9 _ _ (Zc _)) ka ni kb (ints ln) (by rfl) gk.o (gq.o _ ((Zg _ _).alloc (Zc _) _)) gs.o (by unfold maxLen;omega) oq (by simp) ?_;intro v4 w4 ae fg jg;rw[ZD,ZM] at ae;obtain⟨oa,oc,rfl⟩:=YF ae;have HB4:=hid (show RowKit.Below w9.1.size w9 w4 from Below.grown ((Zg w9.1.size w9).alloc (Zc _) (.cells #[] 3)) fg (by simp) (fun k e=>by simp[Value.ownBlock] at e;omega));have eq:=hid ae;clear ae fg jg)|(refine lite.Y6 _ (by rfl) _ _ _ (by rfl) w9.1.size 3 ij _ 1 8 underlying44 HI.o.1 HI.o.2.1 HI.o.2.2.1 HI.o.2.2.2 rfl oq (.slice oa ni oc) ni (ints ln) (by rfl) (own_below eq.o ((Zg _ _).alloc (Zc _) _)) (some ⟨w4.1.size,0,none⟩) 1 1 [.int .i64 (k:Int)] (by rfl) (by rfl) (fun j u h=>⟨_,rfl,World.news_of_block (Zz _ _) j u h⟩) (by simp[Value.oneCell']) (by unfold maxLen;omega) oq (by have:=HB4.o.size;simp;omega) ?_;intro v5 wz aq fh jh;obtain⟨pa,pc,rfl⟩:=YF aq;have en:=hid (show RowKit.Below w9.1.size w9 wz from Below.grown (HB4.o.alloc HB4.o.size (.cells #[.int .i64 (k:Int)] 3)) fh (by have:=HB4.o.size;simp;omega) (fun k e=>X1 eq.o k e));have gt:=hid aq;obtain⟨kd,la,ld,⟨z0,z1,z2,z3,z4⟩,⟨z5,z6⟩,_⟩:=(au.o.keep en.o).ja.cell U;clear aq fh jh z0 z1 z2 z3 z5));refine⟨hid ⟨k+1,rfl,oq,?_⟩,by simp[intOf];omega⟩;have bt:(ln++[(k:Int)]).length=ni+1:=by rw[Zx,gn.o];rfl
    have h:=(au.o.keep en.o).setN U (ln++[(k:Int)]) pa pc (Zdx (base:=w9.1.size) (c:=pc) (by rw[bt];have:=gt.o;simpa [ints] using this) fj);rw[vR,bt] at h;rw[af.o];exact h
  have ab:decide ((k:Int)<(N:Int))=false:=ZY oq;have gm:=hid (show k=N by omega);clear D;go_wp2;refine⟨hid ⟨i+1,rfl,oq,?_⟩,by simp[intOf];omega⟩;refine G.o.congr (fun q hq=>?_) (fun q hq=>?_)
  .unfold DA JK;by_cases e:q=i
   .subst e;rw[Z1 oq,Z1 rfl];exact gx.o
   rw[Z0 e];by_cases h:q<i
   .rw[Z1 oq];exact(Z1 h).symm
   rw[Z0 oq];exact(Z0 h).symm
  unfold NA JK;by_cases e:q=i
  .subst e;rw[Z1 oq,Z1 rfl,gm.o,R.o]
  rw[Z0 e];by_cases h:q<i
  .rw[Z1 oq];exact(Z1 h).symm
  rw[Z0 oq];exact(Z0 h).symm
 have ab:decide ((i:Int)<(N:Int))=false:=ZY oq;have ep:=hid (show i=N by omega);have kr:IntKind.i64.wrap ((N:Int)-1)=(N:Int)-1:=ZK _ oq;clear D dd;go_wp2;obtain⟨A0,bz⟩:=ez (dT0 f B (u:Int));have dn:=Zf7 L.o I.o T.o (show(u:Int)<=20000 by omega);have dp:=qD f B (u:Int);rw[bz] at dn dp;have gf:=hid bz;have gh:=hid dn;have eo:=hid dp;have fw:RA W2 g N f B (fun k=>(adjN f B A0 0)[k]!.d) (YR f B) W3:=by
  refine di.o.congr (fun k hk=>?_) (fun k hk=>?_)
  .unfold DA;rw[Z1 (by rw[ep.o];exact hk),bz];rfl
  unfold NA;rw[Z1 (by rw[ep.o];exact hk)];exact(Gh L.o I.o T.o (by rw[R.o];exact hk)).symm
 have ev:=hid fw;clear dn dp fw bz di;go_loopw [11] (fun s11 wr=>Hid (∃q:Nat,s11=.int .i64 ((N:Int)-1-(q:Int))/\q<=N/\RA W2 g N f B (fun k=>(adjN f B A0 q)[k]!.d) (YR f B) wr)) (fun s _=>(intOf s+1).toNat)
 case atStart=>exact⟨0,by simp,Zk _,ev.o⟩
 obtain⟨W4,rfl⟩:=ey wr;obtain⟨q,rfl,hq,D⟩:=hrel.o;clear hrel ev;have J:=hid D;by_cases ko:q<N
 .obtain⟨i,dr⟩:=ez (N-1-q);have U:i<N:=oq;have aa:i<B.length:=by rw[R.o];exact U
  have e0:(N:Int)-1-(q:Int)=(i:Int):=oq;rw[e0];have i0:(0:Int)<=(i:Int):=oq;have i1:(i:Int)<(N:Int):=oq;have ki:=hid dr;have gi:=hid e0;obtain rfl:=az oq;obtain⟨⟨s,m⟩,am⟩:=ez (B.getD i (0,0));have ec:s<f.tasks.length:=by
   have hb:B[i]?=some (s,m):=by rw[<-am,Zf,Ze aa];rfl
   exact((L.o.mem I.o).1 (Z9 hb)).1
  obtain⟨kn,fo,fp,jj,jk⟩:=T.o.node s ec;obtain⟨bv,cg⟩:=ez (f.nods[kn].bud);rw[cg] at jj jk;have fc:xt f B i=bv:=by unfold xt;rw[am,fo,ZQ,Zf,Ze fp];exact cg
  obtain⟨A,hA⟩:=ez (adjN f B A0 q);have has:A.size=B.length:=by rw[<-hA,(Qr f B A0 q).1,eo.o]
  have cu:DB q A:=by rw[<-hA];exact DB.adjN L.o I.o T.o eo.o gh.o q (by rw[R.o];exact hq)
  obtain⟨xi,cq⟩:=ez (A[i]!.d);have jx:=cu i (by rw[has];exact aa);rw[cq] at jx;have fs:adjN f B A0 (q+1)=bringL (xi-bv) A (YR f B i):=by
   show bringL ((adjN f B A0 q)[B.length-1-q]!.d-xt f B (B.length-1-q)) (adjN f B A0 q) (YR f B (B.length-1-q))=_;rw[R.o,dr,hA,cq,fc]
  have kw:IntKind.i64.wrap (xi-bv)=xi-bv:=ZK _ oq;have kv:IntKind.i64.wrap ((i:Int)-1)=(i:Int)-1:=ZK _ oq;rw[hA] at J;have gr:=hid fs;have ac:=hid am;have ek:=hid has;have gy:=hid cq;have de:=hid (Zh fo (Zh fp cg));clear D dr e0 am fc hA has cu cq fs az cg;go_wp2;go_loopw [12] (fun s12 wr=>Hid (∃p:Nat,s12=.int .i64 (p:Int)/\p<=(YR f B i).length/\RA W2 g N f B (fun k=>(bringL (xi-bv) A ((YR f B i).take p))[k]!.d) (YR f B) wr)) (fun s _=>(YR f B i).length-(intOf s).toNat)
  case atStart=>exact⟨0,rfl,Zk _,J.o⟩
  obtain⟨V,rfl⟩:=ey wr;obtain⟨p,rfl,hp,D⟩:=hrel.o;clear hrel;have G:=hid D;obtain⟨⟨f0,f1,f2,f3⟩,ff⟩:=Yy ((D.but.block _ Y X).trans bi.o);obtain⟨br,na,nc,⟨d0,d1,d2,d3,d4⟩,⟨e3,e4⟩,Z⟩:=D.ja.cell U;rw[ac.o] at d0 d1 d2;obtain⟨ni,M⟩:=ez ((YR f B i).length);rw[M] at hp d4 ⊢;by_cases jq:p<ni
  .have p0:(0:Int)<=(p:Int):=oq;have p1:(p:Int)<(ni:Int):=oq;have bb:p<(YR f B i).length:=by rw[M];exact jq
   have fr:ni<=1000000:=by rw[<-M,<-Gh L.o I.o T.o aa];exact Zm (Kq f B i _) (by rw[R.o];exact hN)
   obtain⟨k,cj,km⟩:=Kj L.o I.o T.o aa (Zi bb);have aj:k<N:=oq;have k0:(0:Int)<=(k:Int):=oq;have k1:(k:Int)<(N:Int):=oq;obtain⟨rb,ro,rfl,js,ju,fx⟩:=Z.resolve_left (fun e=>by rw[e] at bb;simp at bb);have hz:=fx p _ (Ze bb);rw[cj] at hz;have ge:(bringL (xi-bv) A ((YR f B i).take p))[i]!.d=xi:=by
    have h:=(qx (x:=xi-bv) ((YR f B i).take p) A (fun y hy=>by
     obtain⟨z,jy,jz⟩:=Kj L.o I.o T.o aa (List.mem_of_mem_take hy);rw[ek.o,R.o];omega) i).2.2 (fun hm=>by
     obtain⟨z,jy,jz⟩:=Kj L.o I.o T.o aa (List.mem_of_mem_take hm);omega)
    rw[h,gy.o]
   rw[ge] at d3;obtain⟨dk,ch⟩:=ez ((bringL (xi-bv) A ((YR f B i).take p))[k]!.d);have gb:(fun y:Nat=>(bringL (xi-bv) A ((YR f B i).take (p+1)))[y]!.d)=JK (fun y:Nat=>(bringL (xi-bv) A ((YR f B i).take p))[y]!.d) k (min dk (xi-bv)):=by
    funext y;rw[Gt bb,J6 (by rw[(Q4 _ _ _).1,ek.o,R.o,cj];omega)];unfold JK;rw[cj,ZQ];by_cases e:y=k
    .rw[Z1 e,Z1 e,e,ch]
    rw[Z0 e,Z0 e]
   have ew:=hid gb;obtain⟨_,ky,lc,⟨g0,g1,g2,dj,g4⟩,⟨kk,_⟩,_⟩:=D.ja.cell aj;rw[ch] at dj;have C:=D.low ar.o ay;have ag:RowKit.Below w0.1.size w0 V.drew:=⟨C.os,C.tape,C.output,C.size,C.block⟩;obtain⟨rr,ak⟩:=ez (XQ f (s,m));rw[ak] at d2;have ce:=ux (w:=V.drew) f ai an aT al ci cn ct cl (HF.o.below ag) ⟨(s:Int),(m:Int),rr,xi,some ⟨rb,ro,none⟩,ni,nc⟩ s kn bv rfl ec de.o.1 de.o.2.1 de.o.2.2;unfold fv jv at ce;rw[bh.o] at ce;have em:=hid ce;have ah:fb<V.1.size:=Zd Y D.but.size;have O:=hid (Zh ah br);have df:=hid M;have kg:=hid ch;clear ch gb g0 g1 g2 g4 C ag ak ce M ge cj js ju fx Z D bb;go_upto_region 26 with fail
   have KA:=hid (show BgS fb g (i*5) (.slice ai f.ins.length ci) (.slice an f.nods.length cn) (.slice aT f.tasks.length ct) (.slice al nL cl) (.int .i64 (s:Int)) (.int .i64 (m:Int)) (.int .i64 rr) (.int .i64 xi) (.slice (some ⟨rb,ro,none⟩) ni nc) V.drew from ⟨f0,f1,f2,f3,d0,d1,d2,d3,d4⟩);clear f0 f1 f2 f3 ff d0 d1 d2 d3 d4 e3 e4 hz;refine ZO (S:=BgS fb g (i*5) (.slice ai f.ins.length ci) (.slice an f.nods.length cn) (.slice aT f.tasks.length ct) (.slice al nL cl) (.int .i64 (s:Int)) (.int .i64 (m:Int)) (.int .i64 rr) (.int .i64 xi) (.slice (some ⟨rb,ro,none⟩) ni nc)) kq bZ480 (fun hH=>?_);refine tk 0 hH ?_;refine tk 1 hH ?_;refine tk 2 hH ?_;refine tk 3 hH ?_;refine tk 4 hH ?_;refine tk 5 hH ?_;refine tk 7 hH ?_;refine tk 8 hH ?_;refine tk 9 hH ?_;refine tk 10 hH ?_;refine tk 11 hH ?_;refine tk 12 hH ?_;refine tk 13 hH ?_;refine tk 14 hH ?_;refine tk 15 hH ?_;refine tk 16 hH ?_;refine rz 6 17 (fun K hK=>?_) fun K hK=>?_
   .go_simp;refine hK.o _ _ (fun hH=>?_) bZ480;clear hK K;refine ry 17 fun K hK=>?_
    (go_simp;go_at_call 54;refine em.o.mono ?_;rintro y w9 ⟨rfl,E⟩;have F:RowKit.Below V.1.size V w9:=⟨E.os,E.tape,E.output,E.size,E.block⟩;have ao:=hid F;have KB:=hid (qv KA.o (fun b h=>F.block b h) O.o.1 O.o.2);have jb:w9.cell? ⟨g,k*5+3,none⟩=some (.int .i64 dk):=(F.cell (p:=⟨g,k*5+3,none⟩) O.o.2).trans dj;obtain⟨_,_,_,_,⟨gz,_⟩,_⟩:=(G.o.keep ao.o).ja.cell aj;clear E F)
    refine hK.o _ _ (fun hH=>?_) bZ480;clear hK K;refine tk 18 hH ?_;refine tk 19 hH ?_;refine tk 20 hH ?_;refine tk 21 hH ?_;refine ry 22 fun K hK=>?_
    go_simp;refine hK.o _ _ (fun hH=>?_) bZ480;clear hK K;refine Zy kq ?_ _;clear hH KA KB;go_wp2;refine⟨hid ⟨p+1,rfl,oq,?_⟩,by simp[intOf];omega⟩;have h:=(G.o.keep ao.o).setD aj (min dk (xi-bv));rw[ew.o];exact h
   (go_simp;go_at_call 54;refine em.o.mono ?_;rintro y w9 ⟨rfl,E⟩;have F:RowKit.Below V.1.size V w9:=⟨E.os,E.tape,E.output,E.size,E.block⟩;have ao:=hid F;have KB:=hid (qv KA.o (fun b h=>F.block b h) O.o.1 O.o.2);have jb:w9.cell? ⟨g,k*5+3,none⟩=some (.int .i64 dk):=(F.cell (p:=⟨g,k*5+3,none⟩) O.o.2).trans dj;obtain⟨_,_,_,_,⟨gz,_⟩,_⟩:=(G.o.keep ao.o).ja.cell aj;clear E F)
   refine hK.o _ _ (fun hH=>?_) bZ480;clear hK K;refine tk 18 hH ?_;refine ry 6 fun K hK=>?_
   go_simp;refine hK.o _ _ (fun hH=>?_) bZ480;clear hK K;refine tk 19 hH ?_;refine tk 20 hH ?_;refine tk 21 hH ?_;refine ry 22 fun K hK=>?_
   go_simp;refine hK.o _ _ (fun hH=>?_) bZ480;clear hK K;refine Zy kq ?_ _;clear hH KA KB;go_wp2;refine⟨hid ⟨p+1,rfl,oq,?_⟩,by simp[intOf];omega⟩;have h:=(G.o.keep ao.o).setD aj (min dk (xi-bv));rw[ew.o];exact h
  have ab:decide ((p:Int)<(ni:Int))=false:=ZY oq;have gu:=hid (show p=(YR f B i).length by rw[M];omega);clear D Z M;go_wp2;refine⟨hid ⟨q+1,?_,oq,?_⟩,by simp[intOf]⟩
  .congr 1;have:=gi.o;omega
  have h:=G.o;rw[gu.o,ZS,<-gr.o] at h;exact h
 have ab:decide ((N:Int)-1-(q:Int)>=0)=false:=ZY oq;have gv:=hid (show q=N by omega);clear D;go_wp2;go_ret;refine⟨a,c,rfl,?_,HBW.o.trans (J.o.but.below HBW.o.size (fun k e=>by rw[e];exact jc))⟩;by_cases h0:N=0
 .exact .inl h0
 refine .inr ⟨g,az oq,?_⟩;have h:=J.o.ja.jbr oq;rw[gv.o,<-gf.o] at h;exact h
