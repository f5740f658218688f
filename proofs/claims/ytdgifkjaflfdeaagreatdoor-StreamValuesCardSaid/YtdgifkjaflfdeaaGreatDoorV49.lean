/- Parts of the proof. -/
import Derived.Test.YtdgifkjaflfdeaaGreatDoorV47
import Derived.Test.YtdgifkjaflfdeaaGreatDoorV48
set_option linter.all false
set_option maxRecDepth 100000
set_option maxHeartbeats 16000000
namespace Go.Proofs.YtdgifkjaflfdeaaGreatDoor.syn
open Tryz
open Go.RowKit
def SvS(fb xb bs o:Nat)(v0 v1 v2 v3 a0 a1 x0 x1 x2 x3:Value)(W:World):Prop:=W.cell? ⟨fb,0,none⟩=some v0∧W.cell? ⟨fb,1,none⟩=some v1∧W.cell? ⟨fb,2,none⟩=some v2∧W.cell? ⟨fb,3,none⟩=some v3∧W.cell? ⟨xb,2,none⟩=some a0∧W.cell? ⟨xb,3,none⟩=some a1∧W.cell? ⟨bs,o,none⟩=some x0∧W.cell? ⟨bs,o+1,none⟩=some x1∧W.cell? ⟨bs,o+2,none⟩=some x2∧W.cell? ⟨bs,o+3,none⟩=some x3
theorem ZcY{g j f o:Nat}{v x y z m q A C D E:Value}{W W':World}(h:SvS g j f o v x y z m q A C D E W)(F:W'.heap[g]?=W.heap[g]?)(G:W'.heap[j]?=W.heap[j]?)(H:W'.heap[f]?=W.heap[f]?):SvS g j f o v x y z m q A C D E W':=by
 obtain⟨s0,s1,s2,s3,s4,s5,s6,s7,s8,s9⟩:=h;have c1:=fun o=>Zn (w:=W) (w':=W') (a:=⟨g,o,none⟩) F
 have c2:=fun o=>Zn (w:=W) (w':=W') (a:=⟨j,o,none⟩) G
 have c3:=fun o=>Zn (w:=W) (w':=W') (a:=⟨f,o,none⟩) H
 exact⟨(c1 _).trans s0,(c1 _).trans s1,(c1 _).trans s2,(c1 _).trans s3,(c2 _).trans s4,(c2 _).trans s5,(c3 _).trans s6,(c3 _).trans s7,(c3 _).trans s8,(c3 _).trans s9⟩
theorem ZdI{w:World}{b:Nat}{f g j m q:Value}{t:TypeId}(h:w.heap[b]?=some (.cells #[f,g,j,m,q] t (0,0))) :
  (w.cell? ⟨b,0,none⟩=some f∧w.cell? ⟨b,1,none⟩=some g∧w.cell? ⟨b,2,none⟩=some j∧w.cell? ⟨b,3,none⟩=some m∧w.cell? ⟨b,4,none⟩=some q)∧∀o,w.frozen? ⟨b,o,none⟩=false:=by
 refine⟨⟨?_,?_,?_,?_,?_⟩,?_⟩
 all_goals first|(intro o;simp[World.frozen?,h])|simp[World.cell?,h]
theorem ZcL{w0 w1 W:World}{f:FD}{nds:List NE}{inl vals:List (List Int)}{h:Nat}{l:List Int}{ai an aT al cy:Option Addr}(c:Zdt w0 f nds inl vals (h:Int) l ai an aT al cy)(ci cn ct cl bv B E mb:Nat)(vv kk:Value)(vs ks:List Value)(bx:w0.heap.size≤B)(s:List SdD)(hs:Vu f inl vals (h:Int) s)(dy:s.length≤100000000000)(sa:Option Addr)(sc:Nat)
  (bj:Row SdR 4 w1 s sa)(bw:Below w0.heap.size w0 w1)(em:w1.heap.size≤B)(aw:Below w1.heap.size w1 W)(hE:E≤W.heap.size)(hm:MS B E mb vv kk vs ks f.tasks.length (Vj vals) W) :
  Calls prog 16 #[fv f ai an aT al ci cn ct cl,.slice cy inl.length bv,.pointer (some ⟨mb,0,none⟩),.slice sa s.length sc,.int .i64 (h:Int)] W fun y W'=>y=.returned (.bool true)∧MS B E mb vv kk vs ks f.tasks.length (Vj vals) W'∧But (Vr B E) W W':=by
 have da:=fun(a:AD) (cp cf:Int) (m:Xw f a cp cf=true) (n:Nat) (hd:cf+(n:Int)*cp<(h:Int))=>qG c ci cn ct cl bv B E mb vv kk vs ks bx a m n hd (fun s x mm hx _ hmm _ _=>Zco c ci cn ct cl bv B E mb vv kk vs ks bx _ _ s x mm hx hmm rfl rfl)
 unfold fv at *;have dn:=hid da;obtain⟨TL,am⟩:=ez f.tells.length;have ee:TL≤1000:=by rw[←am];exact c.fap.lens.2.2.2
 obtain⟨sl,J⟩:=ez s.length;rw[J] at dy;have ep:h≤400:=by have:=c.hh;omega
 obtain⟨W1,ao⟩:=ez (W.alloc (.cells #[.slice ai f.ins.length ci,.slice an f.nods.length cn,.slice aT f.tasks.length ct,.slice al TL cl] 35));have hb1:Below W.heap.size W W1:=by rw[←ao];exact bq
 have ce:W1.heap[W.heap.size]?=some (.cells #[.slice ai f.ins.length ci,.slice an f.nods.length cn,.slice aT f.tasks.length ct,.slice al TL cl] 35 (0,0)):=by rw[←ao];exact Yw W _
 have dh:=Zb ce;have ej:=bw.size;have dz:=aw.size;have HB1:=hid hb1;have cv:=hid ce;have dr:=hid (aw.trans (hb1.mono aw.size));have aj:=hid bw;have HC:=hid c;have U:=hid hs;have cw:=hid bj;have bp:=hid (Zh (hm.keep hb1) (eS s c.rg (by have:=c.hh;omega) hs));have br:=hid am;have ak:=hid J;rw[am,J];obtain⟨fb,au⟩:=ez W.heap.size;have ek:=hid au;rw[au] at hE dh cv dz;clear da hb1 ce aw bw c hs bj hm am J bx;go_enter func16,ntmps16;go_upto_region 1 with fail
 first|rw[ao]|skip
 try rw[au]
 clear ao au;go_wp2;go_loopw [11,12] (fun s11 s12 wr=>Hid (∃i D:Nat,s11=.int .i64 (i:Int)∧s12=.int .i64 (D:Int)∧D≤h+1∧GI s (D:Int) 0 i∧MS B E mb vv kk vs ks f.tasks.length (Vj vals) wr∧But (Vr B E) W1 wr)) (fun _ s _=>h+1-(intOf s).toNat)
 case atStart=>exact⟨0,0,rfl,rfl,Zk _,bp.out.2,bp.out.1,But.refl _ _⟩
 obtain⟨W3,rfl⟩:=ey wr;obtain⟨i,D,rfl,rfl,hD,hcut,bh,ab⟩:=hrel.out;clear hrel;have de:i≤sl:=by rw[←ak.out];exact hcut.1
 have ea:=ab.size;have R:=hid bh;have O:=hid ab;have j:=hid hcut;clear bh ab hcut bp;by_cases eo:D≤h
 ·have d1:(D:Int)≤(h:Int):=oq;go_upto_region 5 with fail
  go_wp2;go_loopw [11,13] (fun s11 s13 wr=>Hid (∃i t:Nat,s11=.int .i64 (i:Int)∧s13=.int .i64 (t:Int)∧t≤TL∧GI s (D:Int) (t:Int) i∧MS B E mb vv kk vs ks f.tasks.length (Vj vals) wr∧But (Vr B E) W1 wr)) (fun _ s _=>TL-(intOf s).toNat)
  case atStart=>exact⟨i,0,rfl,rfl,Zk _,j.out,R.out,O.out⟩
  clear R O j de ea;obtain⟨V,rfl⟩:=ey wr;obtain⟨i,t,rfl,rfl,ht,hcut,bi,F⟩:=hrel.out;clear hrel;have de:i≤sl:=by rw[←ak.out];exact hcut.1
  have dm:=F.size;have av:V.heap[fb]?=_:=(F.block fb dh (fun e=>by have:=e.2;omega)).trans cv.out;obtain⟨⟨q0,q1,q2,q3⟩,qf⟩:=Yx av;have A:Below w1.heap.size w1 V:=dr.out.trans (F.below oq (fun b e=>by have:=e.1;omega));have be:=hid A;have bf:=hid bi;have bd:=hid F;have j:=hid hcut;clear bi F hcut;by_cases ba:t<TL
  ·have t0:(0:Int)≤(t:Int):=oq;have t1:(t:Int)<(TL:Int):=oq;have ah:t<f.tells.length:=by rw[br.out];exact ba
   obtain⟨bl,ol,rfl,Y,db⟩:=HC.out.fap.tells.resolve_left (fun e=>by rw[e] at ah;simp at ah);obtain⟨u0,u1,u2,u4,pa,pc,u3,af⟩:=db t ah;obtain⟨x,hx⟩:=ez (f.tells[t]);have ch:f.tells[t]?=some x:=by rw[Ze ah,hx]
   rw[hx] at u0 u1 u2 u3 u4 af;obtain⟨⟨ds,dt⟩,m,p1,p2,ec,ed⟩:=HC.out.rg.tel t x ch;have G:Below w0.heap.size w0 V:=aj.out.trans (A.mono aj.out.size);have y0:=(G.cell (p:=⟨bl,_,none⟩) Y).trans u0;have y1:=(G.cell (p:=⟨bl,_,none⟩) Y).trans u1;have y2:=(G.cell (p:=⟨bl,_,none⟩) Y).trans u2;have y3:=(G.cell (p:=⟨bl,_,none⟩) Y).trans u3;have y4:=(G.cell (p:=⟨bl,_,none⟩) Y).trans u4;have bu:=hid ch;have cm:=hid m;have cu:=hid af;have co:=hid G;obtain⟨g,ag⟩:∃g,x.per=g:=⟨_,rfl⟩;obtain⟨ph,cd⟩:∃ph,x.ph=ph:=⟨_,rfl⟩;obtain⟨dl,cb⟩:∃dl,x.dl=dl:=⟨_,rfl⟩;obtain⟨sr,cg⟩:=ez x.arg.src;obtain⟨nO,cc⟩:=ez x.arg.ops.length;rw[ag] at y0 p1 p2;rw[cd] at y1 ec ed;rw[cg] at y2;rw[cc] at y3;rw[cb] at y4 ds dt;have L:=hid (Zh ag (Zh cd (Zh cb (Zh cg cc))));obtain⟨C,ap⟩:=ez (V.alloc (.cells #[.int .i64 g,.int .i64 ph,.int .i64 sr,.slice pa nO pc,.int .i64 dl] 94));have hb6:Below V.heap.size V C:=by rw[←ap];exact bq
   have ay:C.heap[V.heap.size]?=some (.cells #[.int .i64 g,.int .i64 ph,.int .i64 sr,.slice pa nO pc,.int .i64 dl] 94 (0,0)):=by rw[←ap];exact Yw V _
   have di:=Zb ay;have HB6:=hid hb6;have el:=hid ay;have dq:=hid av;obtain⟨⟨z0,z1,z2,z3,z4⟩,zf⟩:=ZdI ay;obtain⟨xb,bc⟩:=ez V.heap.size;have bt:=hid bc;obtain⟨aa,bz⟩:=ez ((D:Int)-dl);have e9:IntKind.i64.wrap ((D:Int)-dl)=aa:=by rw[bz];exact ZJ _ oq
   have bo:=hid bz;have ef:-1000≤aa∧aa≤400:=oq;have ae:=bf.out.keep hb6;have cr:=hid ae;have bn:=hid (show MS B E mb vv kk vs ks f.tasks.length (Vj vals) C∧But (Vr B E) W1 C from ⟨ae,bd.out.then (But.of_below hb6) (fun _ _ e=>e)⟩);rw[bc] at z0 z1 z2 z3 z4 di dm;clear av db u0 u1 u2 u3 u4 af hx ch m ag cd cb cg cc hb6 ay A G ah ae bz;go_upto_region 9 with fail
   first|rw[ap]|skip
   try rw[bc]
   clear ap bc q0 q1 q2 q3 qf y0 y1 y2 y3 y4 zf;by_cases hA:aa<ph
   ·have z:Gn x (D:Int)=none:=by
     unfold Gn;rw[L.out.1,L.out.2.1,L.out.2.2.1,bo.out,Z0 (.inl hA)]
    have T:=hid (xZ HC.out.rg oq U.out bu.out z j.out);clear z z2 z3;go_wp2;exact⟨hid ⟨i,t+1,rfl,by go_num,ba,T.out,bn.out⟩,by simp[intOf];omega⟩
   obtain⟨bb,aq⟩:=ez (aa-ph);have du:IntKind.i64.wrap (aa-ph)=bb:=by rw[aq];exact ZJ _ oq
   have X:0≤bb∧bb≤400:=oq;have cj:=hid aq;have r1:(g == 0)=false:=ZW.2 oq;have r2:¬g=0:=oq;obtain⟨rr,az⟩:=ez (bb.tmod g);have bk:0≤rr∧rr<g:=by rw[←az,Int.tmod_eq_emod_of_nonneg X.1];exact⟨Int.emod_nonneg _ oq,Int.emod_lt_of_pos _ oq⟩
   have cz:IntKind.i64.wrap rr=rr:=ZJ _ oq;have dv:IntKind.i64.wrap (bb.tmod g)=rr:=by rw[az];exact cz
   have cx:=hid az;by_cases hB:rr=0
   ·obtain⟨n,ax⟩:∃n:Nat,bb.tdiv g=(n:Int):=⟨(bb.tdiv g).toNat,by rw[Int.tdiv_eq_ediv_of_nonneg X.1];have:=Int.ediv_nonneg X.1 (show 0≤g by omega);omega⟩;have dx:n≤400:=by
     have h1:=Int.ediv_le_self g X.1;rw[Int.tdiv_eq_ediv_of_nonneg X.1] at ax;omega
    have I:Gn x (D:Int)=some n:=by
     unfold Gn;rw[L.out.1,L.out.2.1,L.out.2.2.1,bo.out,cj.out,cx.out,ZZ oq,ax,ZP]
    obtain⟨H,dc⟩:=ZdQ HC.out.rg oq U.out bu.out I oq j.out;have ca:=qp (by rw[L.out.1];omega) I;obtain⟨v,hv⟩:=ez (Jw f.ins.length inl vals x.arg.src.toNat x.arg.ops (n:Int));rw[hv] at H;have dg:i<sl:=by rw[←ak.out];exact(Zz.1 H).1
    obtain⟨bs,os,rfl,ar,dd⟩:=cw.out.resolve_left (fun e=>by rw[e] at H;simp at H);have df:i<s.length:=(Zz.1 H).1;have dk:s[i]=_:=(Zz.1 H).2;have bm:=dd i df;rw[dk] at bm;obtain⟨g0,g1,g2,g3⟩:=bm;have q:Below w1.heap.size w1 C.drew:=by have h:=be.out.trans (HB6.out.mono be.out.size);exact⟨h.os,h.tape,h.output,h.size,h.block⟩
    have eb:V.heap.size≤C.heap.size:=HB6.out.size;have eq:w1.heap.size≤C.heap.size:=q.size;have m:=cm.out;have M:=dn.out x.arg x.per x.ph m n (by have:=L.out.2.2.1;omega) C.drew pa pc (aj.out.trans (q.mono aj.out.size)) (by show E≤C.heap.size;have:=bt.out;omega) (cr.out.keep ⟨rfl,rfl,rfl,Zc _,fun _ _=>rfl⟩) (cu.out.below Gb (by have h:=co.out.trans (HB6.out.mono co.out.size);exact⟨h.os,h.tape,h.output,h.size,h.block⟩));rw[hv,L.out.2.2.2.1,L.out.2.2.2.2] at M;rw[br.out] at M;have M:=hid M;have ac:=fun o=>Zn (w:=V) (w':=C.drew) (a:=⟨fb,o,none⟩) (HB6.out.block fb (by have:=bt.out;omega))
    obtain⟨⟨q0,q1,q2,q3⟩,qf⟩:=Yx dq.out;have KA:=hid (show SvS fb xb bs (os+i*4) (.slice ai f.ins.length ci) (.slice an f.nods.length cn) (.slice aT f.tasks.length ct) (.slice (some ⟨bl,ol,none⟩) TL cl) (.int .i64 sr) (.slice pa nO pc) (.int .i64 (t:Int)) (.int .i64 (n:Int)) (.int .i64 (D:Int)) (.int .i64 v) C.drew from ⟨(ac _).trans q0,(ac _).trans q1,(ac _).trans q2,(ac _).trans q3,z2,z3,(q.cell (p:=⟨bs,_,none⟩) ar).trans g0,(q.cell (p:=⟨bs,_,none⟩) ar).trans g1,(q.cell (p:=⟨bs,_,none⟩) ar).trans g2,(q.cell (p:=⟨bs,_,none⟩) ar).trans g3⟩);have dp:=hid dc;have eh:bs<B:=oq;have i0:(0:Int)≤(i:Int):=oq;have i1:(i:Int)<(sl:Int):=oq;have i2:¬(i:Int)≥(sl:Int):=oq;have i3:¬sl≤i:=oq;have dw:IntKind.i64.wrap (bb.tdiv g)=(n:Int):=by rw[ax];exact ZJ _ oq
    have es:xb<C.heap.size:=di;have ei:fb<C.heap.size:=by have:=bt.out;omega
    have eg:bs<C.heap.size:=oq;have er:E≤xb:=oq;subst hB;clear I H dc ca hv dg dd df dk g0 g1 g2 g3 q m ac q0 q1 q2 q3 qf bk cz aq eb dm;go_upto_region 12 with fail
    clear z0 z1 z2 z3 z4 e9 du dv dw az ax r1 r2;refine ZN (S:=SvS fb xb bs (os+i*4) (.slice ai f.ins.length ci) (.slice an f.nods.length cn) (.slice aT f.tasks.length ct) (.slice (some ⟨bl,ol,none⟩) TL cl) (.int .i64 sr) (.slice pa nO pc) (.int .i64 (t:Int)) (.int .i64 (n:Int)) (.int .i64 (D:Int)) (.int .i64 v)) kq (by first|with_reducible exact KA.out|with_reducible exact KB.out) (fun hHeld=>?_);refine tk 0 hHeld ?_;refine tk 1 hHeld ?_;refine tk 2 hHeld ?_;refine tk 3 hHeld ?_;refine tk 4 hHeld ?_;refine tk 5 hHeld ?_;refine tk 6 hHeld ?_;refine tk 7 hHeld ?_;refine tk 8 hHeld ?_;refine tk 9 hHeld ?_;refine tk 10 hHeld ?_;refine tk 11 hHeld ?_;refine tk 12 hHeld ?_;refine tk 13 hHeld ?_;refine tk 14 hHeld ?_;refine tk 15 hHeld ?_;refine tk 16 hHeld ?_;refine tk 17 hHeld ?_;refine tk 18 hHeld ?_;refine tk 19 hHeld ?_;refine tk 20 hHeld ?_;refine tk 21 hHeld ?_;refine tk 22 hHeld ?_;refine tk 23 hHeld ?_;refine tk 24 hHeld ?_;refine tk 25 hHeld ?_;refine tk 26 hHeld ?_;refine tk 27 hHeld ?_;refine tk 28 hHeld ?_;refine tk 29 hHeld ?_;refine tk 30 hHeld ?_;refine tk 31 hHeld ?_;refine tk 32 hHeld ?_;refine tk 33 hHeld ?_;refine tk 34 hHeld ?_;refine tk 35 hHeld ?_;refine tk 36 hHeld ?_;refine tk 37 hHeld ?_;refine tk 38 hHeld ?_;refine tk 39 hHeld ?_;refine tk 40 hHeld ?_;refine tk 41 hHeld ?_;refine tk 42 hHeld ?_;refine ry 43 fun K hK=>?_
    (go_simp;go_at_call 39;refine M.out.mono ?_;rintro y w8 ⟨rfl,dj,Z⟩;have cq:=hid dj;have ck:=hid Z;have KB:=hid (ZcY KA.out (Z.block fb (by show fb<C.heap.size;omega) (fun e=>by have:=e.2;omega)) (Z.block xb (by show xb<C.heap.size;omega) (fun e=>by have:=e.2;omega)) (Z.block bs (by show bs<C.heap.size;omega) (fun e=>by have:=e.1;omega)));clear dj Z)
    refine hK.out _ _ (fun hHeld=>?_) (by first|with_reducible exact KA.out|with_reducible exact KB.out);clear hK K;refine tk 44 hHeld ?_;refine tk 45 hHeld ?_;refine Zx kq ?_ _;go_wp2_with fail;exact⟨hid ⟨i+1,t+1,by go_num,by go_num,ba,dp.out,cq.out,bn.out.2.drew.trans ck.out⟩,by simp[intOf];omega⟩
   have z:Gn x (D:Int)=none:=by
    unfold Gn;rw[L.out.1,L.out.2.1,L.out.2.2.1,bo.out,cj.out,cx.out,Z0 (.inr hB)]
   have T:=hid (xZ HC.out.rg oq U.out bu.out z j.out);have en:(rr != 0)=true:=bne_iff_ne.2 hB;clear z z2 z3 bk aq;go_wp2;exact⟨hid ⟨i,t+1,rfl,by go_num,ba,T.out,bn.out⟩,by simp[intOf];omega⟩
  have t1:¬(t:Int)<(TL:Int):=oq;obtain rfl:TL=t:=oq;have T:=hid (Zbx U.out (by rw[br.out];exact j.out));clear av A;go_wp2;exact⟨hid ⟨i,D+1,rfl,by go_num,oq,T.out,bf.out,bd.out⟩,by simp[intOf];omega⟩
 have d1:¬(D:Int)≤(h:Int):=oq;have bg:=ZdP HC.out.rg oq U.out (show GI s ((h:Int)+1) 0 i from by have hc:=j.out;rw[show(D:Int)=(h:Int)+1 by omega] at hc;exact hc);rw[ak.out] at bg;subst bg;go_wp2;go_ret;exact⟨rfl,R.out,(But.of_below HB1.out).trans O.out⟩
end Go.Proofs.YtdgifkjaflfdeaaGreatDoor.syn
