/- Parts of the proof. -/
import Derived.Test.YtdgifkjaflfdeaaGreatDoorX44
set_option linter.all false
set_option maxRecDepth 100000
set_option maxHeartbeats 16000000
namespace Go.Proofs.YtdgifkjaflfdeaaGreatDoor.syn
open Tryz
open Go.RowKit
section
variable {P:Program} {ops:Array Oper} {Q:Exit->Act->World->Prop} {S:World->Prop}
theorem UY(n:Nat)(j:ops.size=n){m:Nat}{a:Act}{w:World}(g:P.follows .mixedOrders=true)(f:S w.drew)(h:S w.drew->wpAnyH P .any ops Q S n (Array.replicate n false) a w.drew):(Code.region m ops true).wp P Q a w:=by
 subst j;exact wp_region_held_drew g f h
theorem take_at(n:Nat){md:Region.Mode}{oi:Oper}{v:Value}{fuel:Nat}{listed:Array Bool}{a:Act}{w:World}(hf:Region.free md ops listed (n-(fuel+1))=true)(hr:(Region.ready md ops listed).contains (n-(fuel+1))=true)(hs:Region.noSelect ops=true)(hQ:∀c a w,Q (.panic c) (a.put oi.dst v) w->Q (.panic c) a w)(hS:S w)(hi:ops[n-(fuel+1)]?=some oi)
  (hw:Region.wanted oi (yielded ops a.tmps)=true)(hy:∀w,S w->(execOp a.eval oi).run P w=.ok (.value v) w)
  (h:wpAnyH P md ops Q S fuel (listed.setIfInBounds (n-(fuel+1)) true) (a.put oi.dst v) w):wpAnyH P md ops Q S (fuel+1) listed a w :=
 wpAnyH_take hi hs hf hr hQ (.inl ⟨hw,hy⟩) hS h
theorem ZeO(n:Nat){md:Region.Mode}{oi:Oper}{fuel:Nat}{listed:Array Bool}{a:Act}{w:World}(hf:Region.free md ops listed (n-(fuel+1))=true)(hr:(Region.ready md ops listed).contains (n-(fuel+1))=true)(hs:Region.noSelect ops=true)(hQ:∀c a w,Q (.panic c) (a.put oi.dst undef) w->Q (.panic c) a w)(hS:S w)(hi:ops[n-(fuel+1)]?=some oi)
  (hw:Region.wanted oi (yielded ops a.tmps)=false)
  (h:wpAnyH P md ops Q S fuel (listed.setIfInBounds (n-(fuel+1)) true) (a.put oi.dst undef) w):wpAnyH P md ops Q S (fuel+1) listed a w :=
 wpAnyH_take hi hs hf hr hQ (.inr ⟨hw,rfl⟩) hS h
end
def S13(bL oi oj bf:Nat)(v0 v1 v2 v3:Value)(si tj sj:Int)(W:World):Prop:=W.cell? ⟨bL,oi+2,none⟩=some (.int .i64 si)/\W.cell? ⟨bL,oj,none⟩=some (.int .i64 tj)/\W.cell? ⟨bL,oj+2,none⟩=some (.int .i64 sj)/\W.cell? ⟨bf,0,none⟩=some v0/\W.cell? ⟨bf,1,none⟩=some v1/\W.cell? ⟨bf,2,none⟩=some v2/\W.cell? ⟨bf,3,none⟩=some v3
theorem S13.below{g oi q f:Nat}{z A C D:Value}{v y x:Int}{w w':World}(h:S13 g oi q f z A C D v y x w)(hb:Below w.1.size w w')(m:g<w.1.size)(j:f<w.1.size):S13 g oi q f z A C D v y x w':=by
 obtain⟨E,F,G,H,I,J,L⟩:=h;exact⟨(hb.cell (p:=⟨g,_,none⟩) m).trans E,(hb.cell (p:=⟨g,_,none⟩) m).trans F,(hb.cell (p:=⟨g,_,none⟩) m).trans G,(hb.cell (p:=⟨f,_,none⟩) j).trans H,(hb.cell (p:=⟨f,_,none⟩) j).trans I,(hb.cell (p:=⟨f,_,none⟩) j).trans J,(hb.cell (p:=⟨f,_,none⟩) j).trans L⟩
def S19(bL oi xb:Nat)(si S H:Int)(W:World):Prop:=W.cell? ⟨bL,oi+2,none⟩=some (.int .i64 si)/\W.cell? ⟨xb,0,none⟩=some (.int .i64 S)/\W.cell? ⟨xb,1,none⟩=some (.int .i64 H)
def S20(bL ok oi xb:Nat)(sk si H:Int)(W:World):Prop:=W.cell? ⟨bL,ok+2,none⟩=some (.int .i64 sk)/\W.cell? ⟨bL,oi+2,none⟩=some (.int .i64 si)/\W.cell? ⟨xb,1,none⟩=some (.int .i64 H)
def S22(bL ok oi xb fb bT oT oP:Nat)(nT ct:Nat)(tk9 nk sk ti ni si H per:Int)(W:World):Prop:=W.cell? ⟨bL,ok,none⟩=some (.int .i64 tk9)/\W.cell? ⟨bL,ok+1,none⟩=some (.int .i64 nk)/\W.cell? ⟨bL,ok+2,none⟩=some (.int .i64 sk)/\W.cell? ⟨bL,oi,none⟩=some (.int .i64 ti)/\W.cell? ⟨bL,oi+1,none⟩=some (.int .i64 ni)/\W.cell? ⟨bL,oi+2,none⟩=some (.int .i64 si)/\W.cell? ⟨xb,1,none⟩=some (.int .i64 H)/\W.cell? ⟨fb,2,none⟩=some (.slice (some ⟨bT,oT,none⟩) nT ct)/\W.cell? ⟨bT,oP,none⟩=some (.int .i64 per)
theorem eP{w:World}(p0 p1 p2 p3:OA)(n0 n1 n2 n3 c0 c1 c2 c3:Nat)
  (hM:∀W,Below w.1.size w W->Calls prog 9 #[.agg #[.slice p0 n0 c0,.slice p1 n1 c1,.slice p2 n2 c2,.slice p3 n3 c3]] W fun x w'=>MdS x w'/\Below W.1.size W w')
  (hA:∀W,Calls prog 22 #[] W fun x w'=>x=.returned (.bool true)/\Below W.1.size W w') :
  Calls prog 5 #[.agg #[.slice p0 n0 c0,.slice p1 n1 c1,.slice p2 n2 c2,.slice p3 n3 c3]] w fun x w'=>x=.returned (.bool true)/\Below w.1.size w w':=by
 have HM:=hid hM;have cd:=hid hA;clear hM hA;obtain⟨W1,au⟩:=ez (w.alloc (.cells #[.slice p0 n0 c0,.slice p1 n1 c1,.slice p2 n2 c2,.slice p3 n3 c3] 27));have hB:Below w.1.size w W1:=by rw[<-au];exact bq
 have bx:W1.1[w.1.size]?=some (.cells #[.slice p0 n0 c0,.slice p1 n1 c1,.slice p2 n2 c2,.slice p3 n3 c3] 27 (0,0)):=by rw[<-au];exact Yx w _
 have ds:=Zb bx;have HB:=hid hB;have HQ:=hid bx;clear hB bx;go_enter func5,ntmps5;go_upto_region 1 with fail
 first|rw[au]|skip
 clear au;go_upto_region 6 with (first
  | (go_at_call 22;refine(cd.o _).mono ?_;rintro x w2 ⟨rfl,hb2⟩;have HB2:=hid (HB.o.trans (hb2.mono HB.o.size));have ee:=hb2.size;obtain⟨⟨T,V,E,x3⟩,xf⟩:=Yy ((hb2.block _ ds).trans HQ.o);clear hb2)
  | (go_at_call 9;refine(HM.o _ HB2.o).mono ?_;rintro x w4 ⟨aj,hb4⟩;have HB4:=hid (HB2.o.trans (hb4.mono HB2.o.size));have ef:=hb4.size;clear hb4;rcases aj with rfl|⟨f,ai,an,aT,al,ci,cn,ct,cl,rfl,hf4,hg4⟩<;>(try (have cf:=hid hf4;have Y:=hid hg4;clear hf4 hg4;unfold fv))))
 .exact Zl (v:=.bool true) (by simp only[results,results5];go_simp) rfl ⟨rfl,bq⟩
 obtain⟨W5,av⟩:=ez (w4.alloc (.cells #[.slice ai f.ins.length ci,.slice an f.nods.length cn,.slice aT f.tasks.length ct,.slice al f.tells.length cl] 35));have A:W5.1[w4.1.size]?=some (.cells #[.slice ai f.ins.length ci,.slice an f.nods.length cn,.slice aT f.tasks.length ct,.slice al f.tells.length cl] 35 (0,0)):=by rw[<-av];exact Yx w4 _
 have hb5:Below w4.1.size w4 W5:=by rw[<-av];exact bq
 have HB5:=hid (HB4.o.trans (hb5.mono HB4.o.size));have aq:=hid (cf.o.below hb5);obtain⟨fb,bv⟩:=ez w4.1.size;rw[bv] at A;have bw:fb<W5.1.size:=Zb A;have bo:=hid A;have df:=HB5.o.size;obtain⟨⟨y0,y1,y2,y3⟩,yf⟩:=Yy A;have bn:=hid (Za1 (w:=W5) f ai an aT al ci cn ct cl aq.o Y.o);have co:=hid (show SgF f from ⟨(QS Y.o.1).clk,(QS Y.o.1).node⟩);unfold fv at bn;rw[av]
 try rw[bv]
 clear av A hb5 T V E x3 xf HM cd HQ cf bv Y;go_upto_region 9 with (go_at_call 23;refine bn.o.mono ?_;rintro x w6 ⟨aj,hb6⟩;have HB6:=hid hb6;have eg:=hb6.size;clear y0 y1 y2 y3 yf;obtain⟨⟨y0,y1,y2,y3⟩,yf⟩:=Yy ((hb6.block _ bw).trans bo.o);clear hb6;rcases aj with ⟨e,he,rfl⟩|⟨S,H,v,P,rfl,⟨ap,cp,rfl,hcp1,hcp2,hrow⟩,hpl,hP,hS,hH,htk⟩<;>first|(have eb:¬e=0:=he;clear he)|(have ah:=hid hpl;have ar:=hid htk;have ck:=hid hrow;clear hpl htk hrow))
 .exact Zl (v:=.bool true) (by simp only[results,results5];go_simp) rfl ⟨rfl,bq⟩
 obtain⟨W7,aw⟩:=ez (w6.alloc (.cells #[.int .i64 S,.int .i64 H,.slice ap P.length cp] 68));have C:W7.1[w6.1.size]?=some (.cells #[.int .i64 S,.int .i64 H,.slice ap P.length cp] 68 (0,0)):=by rw[<-aw];exact Yx w6 _
 have bs:Below w6.1.size w6 W7:=by rw[<-aw];exact bq
 have HB7:=hid (HB6.o.trans (bs.mono HB6.o.size));have du:W5.1.size<=w6.1.size:=HB6.o.size;obtain⟨xb,cb⟩:=ez w6.1.size;rw[cb] at C du;have dt:xb<W7.1.size:=Zb C;have dk:=hid C;have da:fb<W7.1.size:=oq;clear y0 y1 y2 y3 yf;obtain⟨⟨y0,y1,y2,y3⟩,yf⟩:=Yy ((HB7.o.block _ bw).trans bo.o);obtain⟨⟨T,V,E⟩,xf⟩:=Y9 C;have dn:=ah.o.s0;have dm:=ah.o.h1;have ao:=hid (Et (w:=W7) f ai an aT al ci cn ct cl (aq.o.below HB7.o) co.o P ap P.length cp rfl (ck.o.below Va bs) hP ah.o.ok S H 800 dn ⟨dm,hH⟩ ⟨oq,oq⟩);have I:=hid (Zb1 (U:=800) ah.o ar.o oq);obtain⟨l,hl⟩:=ez (Es f S H P 800);rw[hl] at ao I;unfold fv at ao;rw[aw]
 try rw[cb]
 clear aw C bs hl cb bn ck ah;go_upto_region 10 with (go_at_call 24;refine ao.o.mono ?_;rintro y w8 ⟨⟨v8,rfl,⟨aL,cL,rfl,cv,cw,ak⟩⟩,bt⟩;have bj:=hid bt;have cm:=hid ak;have eh:=bt.size;clear bt ak y0 y1 y2 y3 yf T V E xf)
 have A:=(bj.o.block _ da).trans ((HB7.o.block _ bw).trans bo.o);have C:=(bj.o.block _ dt).trans dk.o;have be:=Zb A;have bf:=Zb C;have az:=hid A;have ba:=hid C;have O:=hid (HB7.o.trans (bj.o.mono HB7.o.size));have bl:=hid (fun(W:World) (hW:Below w8.1.size w8 W) (t:Nat) (ht:t<f.tasks.length)=>jU (w:=W) f ai an aT al ci cn ct cl ((aq.o.below O.o).below hW) co.o t ht);have dl:=hid (fun(t:Nat) (ht:t<f.tasks.length)=>Zgs (aq.o.below O.o).tasks ht);have cj:=hid (show ∀i j (hij:i<j) (m:j<l.length),l[i].s+bdg f l[i].t<=l[j].s/\l[i].s<l[j].s from fun i j hij m=>I.o.step ar.o hij m);obtain⟨n,hn⟩:=ez l.length;have HN:=hid hn;have ed:(n:Int)<=9223372036854775807:=oq;rw[hn];unfold fv at bl;clear A C ao hn cv cw hcp1 hcp2 hP;go_wp2;go_loopw [8] (fun s8 wr=>Hid (∃i:Nat,s8=.int .i64 (i:Int)/\1<=i/\i<=n+1/\Below w8.1.size w8 wr)) (fun s _=>n+1-(intOf s).toNat)
 case atStart=>exact⟨1,rfl,Zc _,oq,Zg _ _⟩
 obtain⟨wo,rfl⟩:=ey wr;obtain⟨i,rfl,dr,hi,J⟩:=hrel.o;clear hrel;have g:=hid J;have bz:=J.size;clear J;by_cases M:i<n
 .obtain⟨j,m⟩:∃j,i=j+1:=⟨i-1,oq⟩;have z:=HN.o;obtain⟨bL,G,br,aa,L⟩:=cm.o.resolve_left (fun h=>by rw[h] at z;simp at z;omega);have F:i<l.length:=by rw[z];exact M
  have cx:j<l.length:=oq;obtain⟨T,V,E⟩:=Va _ _ _ _ _ g.o aa (L i F);obtain⟨z0,z1,z2⟩:=Va _ _ _ _ _ g.o aa (L j cx);clear T V z1;have am:=(cj.o j i oq F).1;obtain⟨⟨t,ht,af⟩,dy,hz⟩:=I.o.ok l[j] (Zi _);clear dy;obtain⟨D,ac⟩:=ez (l[i].s);obtain⟨sj,dd⟩:=ez (l[j].s);rw[ac] at E am;rw[dd] at z2 am hz;rw[ht] at z0 am;have ce:=hid (fun W hW=>bl.o W hW t af);have dq:=ar.o.bud t af;obtain⟨bd,bb⟩:=ez (bdg f (t:Int));rw[bb] at ce am dq;obtain⟨⟨f0,f1,f2,f3⟩,f4⟩:=Yy ((g.o.block _ be).trans az.o);have ws:IntKind.i64.wrap (sj+bd)=sj+bd:=ZL _ oq;have wm:IntKind.i64.wrap ((i:Int)-1)=(j:Int):=by rw[ZL _ oq];omega
  have HG:=hid (show decide (D<sj+bd)=false from Z0 oq);have i0:(0:Int)<=(i:Int):=oq;have i1:(i:Int)<(n:Int):=oq;have j0:(0:Int)<=(j:Int):=oq;have j1:(j:Int)<(n:Int):=oq;clear m;subst br;have KS:=hid (show S13 bL (G+i*3) (G+j*3) fb (.slice ai f.ins.length ci) (.slice an f.nods.length cn) (.slice aT f.tasks.length ct) (.slice al f.tells.length cl) D (t:Int) sj wo.drew from ⟨E,z0,z2,f0,f1,f2,f3⟩);clear L am ht af ac dd bb hz E z0 z2 f0 f1 f2 f3 f4 F cx z;go_upto_region 13 with fail
  refine UY 21 (by rfl) (S:=S13 bL (G+i*3) (G+j*3) fb (.slice ai f.ins.length ci) (.slice an f.nods.length cn) (.slice aT f.tasks.length ct) (.slice al f.tells.length cl) D (t:Int) sj) kq (by first|with_reducible exact KS.o|with_reducible exact KS3.o) (fun hH=>?_)
  iterate 18
   refine take_at 21 (oi:=?_) (v:=?_) kq kq kq ?_ hH ?_ ?_ ?_ ?_;rotate_left 3
   ·(simp only[List.getElem?_toArray,List.getElem?_cons_succ,List.getElem?_cons_zero];rfl)
   .rfl
   ·(intro w hSw;(obtain⟨s0,s1,s2,s3,s4,s5,s6⟩:=hSw);go_simp;try with_reducible rfl)
   rotate_left
   .exact fun _ _ _ h=>h
   try simp only[Act.put,sA,sB,sC]
  refine ZW (rs:=[18]) kq (by simp) ?_;refine ZI (o:=?_) ?_ (fun K hK=>?_) AllReadyH.nil;rotate_left 1
  ·(simp only[List.getElem?_toArray,List.getElem?_cons_succ,List.getElem?_cons_zero];rfl)
  (go_simp;go_at_call 25;refine(ce.o _ g.o.drew).mono ?_;rintro y w9 ⟨rfl,bu⟩;have KS3:=hid (KS.o.below bu (by simp;omega) (by simp;omega));have dg:=hid (g.o.drew.trans (bu.mono g.o.drew.size));clear bu)
  refine hK.o _ _ (by first|with_reducible exact KS.o|with_reducible exact KS3.o) (fun hH=>?_);clear hK K
  try simp only[Act.put,sA,sB,sC]
  iterate 2
   refine take_at 21 (oi:=?_) (v:=?_) kq kq kq ?_ hH ?_ ?_ ?_ ?_;rotate_left 3
   ·(simp only[List.getElem?_toArray,List.getElem?_cons_succ,List.getElem?_cons_zero];rfl)
   .rfl
   ·(intro w hSw;(obtain⟨s0,s1,s2,s3,s4,s5,s6⟩:=hSw);go_simp;try with_reducible rfl)
   rotate_left
   .exact fun _ _ _ h=>h
   try simp only[Act.put,sA,sB,sC]
  refine Zz kq ?_ _;rw[HG.o];go_wp2;exact⟨hid ⟨i+1,by go_num,oq,oq,dg.o⟩,by simp[intOf];omega⟩
 have i1:¬(i:Int)<(n:Int):=oq;clear dr hi M;go_wp2;clear i1 bl;go_loopw [9,10] (fun s9 s10 wr=>Hid (∃k i:Nat,s9=.int .i64 (k:Int)/\s10=.int .i64 (i:Int)/\k<=n/\i<=n/\(∀j (m:j<l.length),j<k->∀i' (hi':i'<l.length),i<=i'->l[j].s<l[i'].s+H)/\Below w8.1.size w8 wr)) (fun _ s _=>n-(intOf s).toNat)
 case atStart=>exact⟨0,0,rfl,rfl,Zk _,Zk _,fun j m h=>absurd h oq,g.o⟩
 clear g bz;obtain⟨wo,rfl⟩:=ey wr;obtain⟨k,i,rfl,rfl,hk,hi,bc,J⟩:=hrel.o;clear hrel;have g:=hid J;have R:=hid bc;have bz:=J.size;clear J bc;by_cases M:i<n
 .have z:=HN.o;obtain⟨bL,G,br,aa,L⟩:=cm.o.resolve_left (fun h=>by rw[h] at z;simp at z;omega);have F:i<l.length:=by rw[z];exact M
  have ag:=hid L;obtain⟨T,V,E⟩:=Va _ _ _ _ _ g.o aa (L i F);obtain⟨dw,dx,hz⟩:=I.o.ok l[i] (Zi _);clear T V dw dx;have X:=hid (fun(k:Nat) hS h1 h2 h3=>I.o.find ar.o (i:=i) (k:=k) F hS h1 h2 h3);obtain⟨D,ac⟩:=ez (l[i].s);have bp:=hid ac;rw[ac] at E hz X;obtain⟨sh,dv⟩:=ez (D+H);have ws:IntKind.i64.wrap (D+H)=sh:=by rw[ZL _ oq,dv]
  have ej:IntKind.i64.wrap sh=sh:=ZL _ oq;obtain⟨⟨g0,g1,g2⟩,g3⟩:=Y9 ((g.o.block _ bf).trans ba.o);have i0:(0:Int)<=(i:Int):=oq;have i1:(i:Int)<(n:Int):=oq;subst br;have KS:=hid (show S19 bL (G+i*3) xb D S H wo.drew from ⟨E,g0,g1⟩);clear L E g0 g1 g2 g3 ac;by_cases cr:D<S
  .have HG:=hid (show decide (D<S)=true from Z1 cr);clear X ag;go_upto_region 19 with fail
   refine UY 19 (by rfl) (S:=S19 bL (G+i*3) xb D S H) kq (by exact KS.o) (fun hH=>?_)
   iterate 8
    refine take_at 19 (oi:=?_) (v:=?_) kq kq kq ?_ hH ?_ ?_ ?_ ?_;rotate_left 3
    ·(simp only[List.getElem?_toArray,List.getElem?_cons_succ,List.getElem?_cons_zero];rfl)
    .rfl
    ·(intro w hSw;(obtain⟨s0,s1,s2⟩:=hSw);go_simp;try with_reducible rfl)
    rotate_left
    .exact fun _ _ _ h=>h
    try simp only[Act.put,sA,sB,sC]
   first|rw[HG.o]|skip
   iterate 1
    refine take_at 19 (oi:=?_) (v:=?_) kq kq kq ?_ hH ?_ ?_ ?_ ?_;rotate_left 3
    ·(simp only[List.getElem?_toArray,List.getElem?_cons_succ,List.getElem?_cons_zero];rfl)
    .rfl
    ·(intro w hSw;(obtain⟨s0,s1,s2⟩:=hSw);go_simp;try with_reducible rfl)
    rotate_left
    .exact fun _ _ _ h=>h
    try simp only[Act.put,sA,sB,sC]
   iterate 9
    refine ZeO 19 (oi:=?_) kq kq kq ?_ hH ?_ ?_ ?_;rotate_left 2
    ·(simp only[List.getElem?_toArray,List.getElem?_cons_succ,List.getElem?_cons_zero];rfl)
    .rfl
    rotate_left
    .exact fun _ _ _ h=>h
    try simp only[Act.put,sA,sB,sC]
   iterate 1
    refine take_at 19 (oi:=?_) (v:=?_) kq kq kq ?_ hH ?_ ?_ ?_ ?_;rotate_left 3
    ·(simp only[List.getElem?_toArray,List.getElem?_cons_succ,List.getElem?_cons_zero];rfl)
    .rfl
    ·(intro w hSw;(obtain⟨s0,s1,s2⟩:=hSw);go_simp;try with_reducible rfl)
    rotate_left
    .exact fun _ _ _ h=>h
    try simp only[Act.put,sA,sB,sC]
   refine Zz kq ?_ _;go_wp2;exact⟨hid ⟨k,i+1,rfl,by go_num,hk,M,fun j m hjk i' hi' hii=>R.o j m hjk i' hi' oq,g.o.drew⟩,by simp[intOf];omega⟩
  have HG:=hid (show decide (D<S)=false from Z0 cr);go_upto_region 19 with fail
  refine UY 19 (by rfl) (S:=S19 bL (G+i*3) xb D S H) kq (by exact KS.o) (fun hH=>?_)
  iterate 8
   refine take_at 19 (oi:=?_) (v:=?_) kq kq kq ?_ hH ?_ ?_ ?_ ?_;rotate_left 3
   ·(simp only[List.getElem?_toArray,List.getElem?_cons_succ,List.getElem?_cons_zero];rfl)
   .rfl
   ·(intro w hSw;(obtain⟨s0,s1,s2⟩:=hSw);go_simp;try with_reducible rfl)
   rotate_left
   .exact fun _ _ _ h=>h
   try simp only[Act.put,sA,sB,sC]
  first|rw[HG.o]|skip
  iterate 11
   refine take_at 19 (oi:=?_) (v:=?_) kq kq kq ?_ hH ?_ ?_ ?_ ?_;rotate_left 3
   ·(simp only[List.getElem?_toArray,List.getElem?_cons_succ,List.getElem?_cons_zero];rfl)
   .rfl
   ·(intro w hSw;(obtain⟨s0,s1,s2⟩:=hSw);go_simp;try with_reducible rfl)
   rotate_left
   .exact fun _ _ _ h=>h
   try simp only[Act.put,sA,sB,sC]
  refine Zz kq ?_ _;by_cases ec:800<=sh
  .clear X ag;go_wp2;exact⟨hid ⟨k,i+1,rfl,by go_num,hk,M,fun j m hjk i' hi' hii=>R.o j m hjk i' hi' oq,g.o.drew⟩,by simp[intOf];omega⟩
  have Z:=hid (show ∀j (m:j<l.length),j<k->l[j].s<sh from fun j m hjk=>by have:=R.o j m hjk i F (Zc _);rw[bp.o] at this;omega);clear R KS HG;go_wp2;go_loopw [9] (fun s9 wr=>Hid (∃k:Nat,s9=.int .i64 (k:Int)/\k<=n/\(∀j (m:j<l.length),j<k->l[j].s<sh)/\Below w8.1.size w8 wr)) (fun s _=>n-(intOf s).toNat)
  case atStart=>exact⟨k,rfl,hk,Z.o,g.o.drew⟩
  clear Z g bz hk;obtain⟨wq,rfl⟩:=ey wr;obtain⟨k,rfl,hk,ax,ab⟩:=hrel.o;clear hrel;have cy:k<l.length:=by
   by_cases hc:k<l.length
   .exact hc
   exact(X.o k oq oq (fun j m hjk=>by have:=ax j m hjk;omega) (fun h=>absurd h hc)).1
  have bm:=hid (fun(h1:D+H<800) (h2:D+H<=l[k].s)=>X.o k (show S<=D by omega) h1 (fun j m hjk=>by have:=ax j m hjk;omega) (fun _=>h2));have cz:k<n:=by rw[<-z];exact cy
  obtain⟨z0,z1,z2⟩:=Va _ _ _ _ _ ab aa (ag.o k cy);obtain⟨T,V,E⟩:=Va _ _ _ _ _ ab aa (ag.o i F);obtain⟨sk,ae⟩:=ez (l[k].s);rw[bp.o] at E;rw[ae] at z2 bm;have cq:=hid ae;have Z:=hid ax;obtain⟨⟨g0,g1,g2⟩,g3⟩:=Y9 ((ab.block _ bf).trans ba.o);obtain⟨⟨f0,f1,f2,f3⟩,f4⟩:=Yy ((ab.block _ be).trans az.o);have bk:=hid ab;have k0:(0:Int)<=(k:Int):=oq;have k1:(k:Int)<(n:Int):=oq;have KS:=hid (show S20 bL (G+k*3) (G+i*3) xb sk D H wq.drew from ⟨z2,E,g1⟩);have HX:=hid (Zh T (Zh V (Zh E (Zh z0 (Zh z1 (Zh z2 (Zh g1 f2)))))));have HG:=hid (show decide (k<n)=true from Z1 cz);have dh:=hid (show decide ((k:Int)<(n:Int))=true from Z1 k1);clear ax ab ae z0 z1 z2 T V E g0 g1 g2 g3 f0 f1 f2 f3 f4;go_upto_region 20 with fail
  refine UY 20 (by rfl) (S:=S20 bL (G+k*3) (G+i*3) xb sk D H) kq (by exact KS.o) (fun hH=>?_)
  iterate 4
   refine take_at 20 (oi:=?_) (v:=?_) kq kq kq ?_ hH ?_ ?_ ?_ ?_;rotate_left 3
   ·(simp only[List.getElem?_toArray,List.getElem?_cons_succ,List.getElem?_cons_zero];rfl)
   .rfl
   ·(intro w hSw;(obtain⟨s0,s1,s2⟩:=hSw);go_simp;try with_reducible rfl)
   rotate_left
   .exact fun _ _ _ h=>h
   try simp only[Act.put,sA,sB,sC]
  first|rw[HG.o]|rw[dh.o]|skip
  iterate 16
   refine take_at 20 (oi:=?_) (v:=?_) kq kq kq ?_ hH ?_ ?_ ?_ ?_;rotate_left 3
   ·(simp only[List.getElem?_toArray,List.getElem?_cons_succ,List.getElem?_cons_zero];rfl)
   .rfl
   ·(intro w hSw;(obtain⟨s0,s1,s2⟩:=hSw);go_simp;try with_reducible rfl)
   rotate_left
   .exact fun _ _ _ h=>h
   try simp only[Act.put,sA,sB,sC]
  refine Zz kq ?_ _;by_cases hs:sk<sh
  .go_wp2;exact⟨hid ⟨k+1,by go_num,cz,fun j m hjk=>(by
    by_cases hc:j<k
    .exact Z.o j m hc
    obtain rfl:j=k:=oq;rw[cq.o];exact hs),bk.o.drew⟩,by simp[intOf];omega⟩
  obtain⟨_,ht,ae,q⟩:=bm.o oq oq;obtain⟨⟨t,ca,af⟩,db,_⟩:=I.o.ok l[i] (Zi _);obtain⟨_,dc,_⟩:=I.o.ok l[k] (Zi _);rw[ca] at ht q;obtain⟨bT,oT,cu,dp,_,t1,_⟩:=dl.o t af;obtain⟨T,V,E,z0,z1,z2,g1,f2⟩:=HX.o;rw[ca] at T;rw[ht] at z0;have ay:=(bk.o.cell (p:=⟨bT,_,none⟩) dp).trans t1;rw[show(tkO f t).per=QR f (t:Int) from by unfold QR;rw[ZR]] at ay;obtain⟨cc,bi⟩:=ez (QR f (t:Int));obtain⟨ni,bg⟩:=ez (l[i].n);obtain⟨nk,bh⟩:=ez (l[k].n);rw[bg] at V db q;rw[bh] at z1 dc q;rw[bi] at ay q;have de:sk=sh:=by rw[cq.o] at ae;omega
  obtain⟨d,hd⟩:=ez (nk-ni);rw[hd] at q;have wd:IntKind.i64.wrap (nk-ni)=d:=by rw[ZL _ oq,hd]
  have wp:IntKind.i64.wrap (d*cc)=H:=by rw[q];exact ZL _ oq
  have wH:IntKind.i64.wrap H=H:=ZL _ oq;have ei:IntKind.i64.wrap d=d:=ZL _ oq;have t0:(0:Int)<=(t:Int):=oq;have t2:(t:Int)<(f.tasks.length:Int):=oq;have di:=hid (show decide (k=n)=false from Z0 oq);have cg:=hid (show decide ((k:Int)=(n:Int))=false from Z0 oq);have dz:¬k=n:=oq;have ea:¬(k:Int)=(n:Int):=oq;have Y:=hid (show(k == n)=false from ZZ.2 dz);have dj:=hid (show((k:Int) == (n:Int))=false from ZZ.2 ea);rw[de] at z2;have KT:=hid (show S22 bL (G+k*3) (G+i*3) xb fb bT oT (oT+t*4+1) f.tasks.length ct (t:Int) nk sh (t:Int) ni D H cc wq.drew.drew from ⟨z0,z1,z2,T,V,E,g1,by rw[<-cu];exact f2,ay⟩);have ch:=hid (show ∀j (m:j<l.length),j<k->∀i' (hi':i'<l.length),i+1<=i'->l[j].s<l[i'].s+H from fun j m hjk i' hi' hii=>(by have h1:=Z.o j m hjk;have h2:=(cj.o i i' oq hi').2;rw[bp.o] at h2;omega));clear ht ae q ca af db dc cu t1 T V E z0 z1 z2 g1 f2 ay bi bg bh hd hz bm HX X ag Z KS;go_upto_region 22 with fail
  refine UY 61 (by rfl) (S:=S22 bL (G+k*3) (G+i*3) xb fb bT oT (oT+t*4+1) f.tasks.length ct (t:Int) nk sh (t:Int) ni D H cc) kq (by exact KT.o) (fun hH=>?_)
  iterate 4
   refine take_at 61 (oi:=?_) (v:=?_) kq kq kq ?_ hH ?_ ?_ ?_ ?_;rotate_left 3
   ·(simp only[List.getElem?_toArray,List.getElem?_cons_succ,List.getElem?_cons_zero];rfl)
   .rfl
   ·(intro w hSw;(obtain⟨s0,s1,s2,s3,s4,s5,s6,s7,s8⟩:=hSw);go_simp;try with_reducible rfl)
   rotate_left
   .exact fun _ _ _ h=>h
   try simp only[Act.put,sA,sB,sC]
  first|rw[di.o]|rw[cg.o]|rw[Y.o]|rw[dj.o]|skip
  iterate 57
   refine take_at 61 (oi:=?_) (v:=?_) kq kq kq ?_ hH ?_ ?_ ?_ ?_;rotate_left 3
   ·(simp only[List.getElem?_toArray,List.getElem?_cons_succ,List.getElem?_cons_zero];rfl)
   .rfl
   ·(intro w hSw;(obtain⟨s0,s1,s2,s3,s4,s5,s6,s7,s8⟩:=hSw);go_simp;try with_reducible rfl)
   rotate_left
   .exact fun _ _ _ h=>h
   try simp only[Act.put,sA,sB,sC]
  refine Zz kq ?_ _;go_wp2;exact⟨hid ⟨k,i+1,rfl,by go_num,hk,M,ch.o,bk.o.drew.drew⟩,by simp[intOf];omega⟩
 have i1:¬(i:Int)<(n:Int):=oq;go_wp2;go_ret;exact⟨rfl,(HB5.o.trans (O.o.mono df)).trans (g.o.mono (by have:=O.o.size;omega))⟩
