/- Parts of the proof. -/
import Derived.Test.YtdgifkjaflfdeaaGreatDoorV49
set_option linter.all false
set_option maxRecDepth 100000
set_option maxHeartbeats 16000000
namespace Go.Proofs.YtdgifkjaflfdeaaGreatDoor.syn
open Tryz
open Go.RowKit
def SwS(fb bv o bx p:Nat)(v0 v1 v2 v3 r x:Value)(W:World):Prop:=W.cell? ⟨fb,0,none⟩=some v0∧W.cell? ⟨fb,1,none⟩=some v1∧W.cell? ⟨fb,2,none⟩=some v2∧W.cell? ⟨fb,3,none⟩=some v3∧W.cell? ⟨bv,o,none⟩=some r∧W.cell? ⟨bx,p,none⟩=some x
theorem ZcZ{g f o bx p:Nat}{j m q v r x:Value}{W W':World}(h:SwS g f o bx p j m q v r x W)(y:W'.heap[g]?=W.heap[g]?)(z:W'.heap[f]?=W.heap[f]?)(A:W'.heap[bx]?=W.heap[bx]?):SwS g f o bx p j m q v r x W':=by
 obtain⟨s0,s1,s2,s3,s4,s5⟩:=h;have c1:=fun o=>Zn (w:=W) (w':=W') (a:=⟨g,o,none⟩) y
 exact⟨(c1 _).trans s0,(c1 _).trans s1,(c1 _).trans s2,(c1 _).trans s3,(Zn (w:=W) (a:=⟨f,o,none⟩) z).trans s4,(Zn (w:=W) (a:=⟨bx,p,none⟩) A).trans s5⟩
def SxS(fb bv o bt p:Nat)(v2 r x0 x1:Value)(W:World):Prop:=W.cell? ⟨fb,2,none⟩=some v2∧W.cell? ⟨bv,o,none⟩=some r∧W.cell? ⟨bt,p+1,none⟩=some x0∧W.cell? ⟨bt,p+1+1,none⟩=some x1
theorem Zc1{g f o bt p:Nat}{j r m q:Value}{W W':World}(h:SxS g f o bt p j r m q W)(v:W'.heap[g]?=W.heap[g]?)(x:W'.heap[f]?=W.heap[f]?)(y:W'.heap[bt]?=W.heap[bt]?):SxS g f o bt p j r m q W':=by
 obtain⟨s0,s1,s2,s3⟩:=h;have c3:=fun o=>Zn (w:=W) (w':=W') (a:=⟨bt,o,none⟩) y
 exact⟨(Zn (w:=W) (a:=⟨g,2,none⟩) v).trans s0,(Zn (w:=W) (a:=⟨f,o,none⟩) x).trans s1,(c3 _).trans s2,(c3 _).trans s3⟩
def Zbk(f:FD)(vals:List (List Int))(x:Ending)(w':World):Prop:=∃ad cap,x=.returned (.tuple #[.slice ad f.tasks.length cap,.int .i64 0])∧Qo w' ad vals∧Bv 2000000 vals
def Zbf(f:FD)(inl vals:List (List Int))(u:Int)(x:Ending)(w':World):Prop:=∃s ad cap,x=.returned (.tuple #[.slice ad s.length cap,.int .i64 0])∧s.length≤100000000000∧Vu f inl vals u s∧Row SdR 4 w' s ad
theorem ZeI{f:FD}{nds:List NE}{inl:List (List Int)}{u:Int}{x:Ending}{w':World}(h:vk f nds inl u x w')(g:Ji f u=0):Zbk f (Jt f nds inl u) x w':=by
 rcases h with ⟨_,h⟩|⟨h,_⟩
 ·exact h
 exact absurd g h
theorem Zga{f:FD}{nds:List NE}{inl:List (List Int)}{u:Int}{x:Ending}{w':World}(h:vk f nds inl u x w')(g:Ji f u=6):x=.returned (.tuple #[.slice none 0 0,.int .i64 6]):=by
 rcases h with ⟨h,_⟩|⟨_,h⟩
 ·rw[g] at h;cases h
 rw[g] at h;exact h
theorem Zev{f:FD}(m:f.tells.length≤1000){nds:List NE}{inl:List (List Int)}{u:Int}{x:Ending}{w':World}(h:vi f nds inl u x w')(j:Ji f u=0):Zbf f inl (Jt f nds inl u) u x w':=by
 rcases h with ⟨_,l,ad,cap,hl,hx,hr⟩|⟨h,_⟩
 ·obtain⟨g,q,_⟩:=qb j;refine⟨l,ad,cap,hx,?_,hl,hr⟩;rw[hl.1.length_eq];have v:=ET (JU g) (inl:=inl) (vals:=Jt f nds inl u) q.2 f.tells.length;have y:=Nat.mul_le_mul_right 20001 m;omega
 exact absurd j h
theorem ZfZ{f:FD}{nds:List NE}{inl:List (List Int)}{u:Int}{x:Ending}{w':World}(h:vi f nds inl u x w')(g:Ji f u=6):x=.returned (.tuple #[.slice none 0 0,.int .i64 6]):=by
 rcases h with ⟨h,_⟩|⟨_,h⟩
 ·rw[g] at h;cases h
 rw[g] at h;exact h
theorem uV{w:World}(p0 p1 p2 p3:Option Addr)(n0 n1 n2 n3 c0 c1 c2 c3:Nat)
  (hM:∀W,Below w.heap.size w W→Calls prog 9 #[.agg #[.slice p0 n0 c0,.slice p1 n1 c1,.slice p2 n2 c2,.slice p3 n3 c3]] W fun x w'=>MdV x w'∧Below W.heap.size W w')
  (inl:List (List Int))(az:Option Addr)(ba:Nat)(du:Qo w az inl){m':Nat}(en:Bv m' inl)(d0:Nat)(gd:d0≤255) :
  Calls prog 3 #[.agg #[.slice p0 n0 c0,.slice p1 n1 c1,.slice p2 n2 c2,.slice p3 n3 c3],.slice az inl.length ba,.int .u8 (d0:Int)] w fun x w'=>x=.returned (.bool true)∧Below w.heap.size w w':=by
 have HM:=hid hM;have dz:=hid (Zh du en);have fg:=hid (fun W=>xS W);have fj:=hid (fun W (hb:Below w.heap.size w W)=>Zab (w:=W) inl az ba (du.keep hb.block));clear hM du en;obtain⟨W1,cm⟩:=ez (w.alloc (.cells #[.slice p0 n0 c0,.slice p1 n1 c1,.slice p2 n2 c2,.slice p3 n3 c3] 27));have hB:Below w.heap.size w W1:=by rw[←cm];exact bq
 have dv:W1.heap[w.heap.size]?=some (.cells #[.slice p0 n0 c0,.slice p1 n1 c1,.slice p2 n2 c2,.slice p3 n3 c3] 27 (0,0)):=by rw[←cm];exact Yw w _
 have fw:=Zb dv;have HB:=hid hB;have HQ:=hid dv;clear hB dv;obtain⟨h,hh⟩:=ez (d0%200);have fu:h<200:=oq;have ra:(d0:Int).tmod 200=(h:Int):=by rw[Int.tmod_eq_emod_of_nonneg oq];omega
 have wa:IntKind.u8.wrap (h:Int)=(h:Int):=by unfold IntKind.wrap;simp[IntKind.signed,IntKind.bits];omega
 have xa:IntKind.i64.wrap (h:Int)=(h:Int):=ZJ _ oq;clear hh;go_enter func3,ntmps3;go_upto_region 1 with fail
 first|rw[cm]|skip
 clear cm;go_upto_region 6 with (first
  | (go_at_call 7;refine(fg.out _).mono ?_;rintro x w2 ⟨rfl,hb2⟩;first|(have HB3:=hid (HB2.out.trans (hb2.mono HB2.out.size));clear hb2)|(have HB2:=hid (HB.out.trans (hb2.mono HB.out.size));have gb:=hid hb2;have ge:=hb2.size;obtain⟨⟨x0,x1,x2,x3⟩,xf⟩:=Yx ((hb2.block _ fw).trans HQ.out);clear hb2))
  | (go_at_call 8;refine(fj.out _ HB2.out).mono ?_;rintro x w3 ⟨⟨b3,rfl⟩,rfl⟩;cases b3)
  | (go_at_call 9;refine(HM.out _ HB2.out).mono ?_;rintro x w4 ⟨el,hb4⟩;have HB4:=hid (HB2.out.trans (hb4.mono HB2.out.size));have gf:=hb4.size;clear hb4;rcases el with rfl|⟨f,nds,ai,an,aT,al,ci,cn,ct,cl,rfl,ao,bg,X,F⟩<;>(try (have dy:=hid (Zh ao (Zh bg (Zh X F)));clear ao bg X F;unfold fv))))
 ·exact Zl (v:=.bool true) (by simp only[results,results3];go_simp) rfl ⟨rfl,HB3.out⟩
 ·exact Zl (v:=.bool true) (by simp only[results,results3];go_simp) rfl ⟨rfl,bq⟩
 obtain⟨T,hT⟩:=ez f.tasks.length;rw[hT];have fr:T≤1000:=by rw[←hT];exact dy.out.1.lens.2.2.1
 obtain⟨U,bs⟩:=ez (w4.alloc (.cells #[.slice ai f.ins.length ci,.slice an f.nods.length cn,.slice aT T ct,.slice al f.tells.length cl] 35));have cf:U.heap[w4.heap.size]?=some (.cells #[.slice ai f.ins.length ci,.slice an f.nods.length cn,.slice aT T ct,.slice al f.tells.length cl] 35 (0,0)):=by rw[←bs];exact Yw w4 _
 have hb5:Below w4.heap.size w4 U:=by rw[←bs];exact bq
 have ah:w4.heap.size<U.heap.size:=Zb cf;have HB5:=hid (HB4.out.trans (hb5.mono HB4.out.size));have ae:=hid cf;obtain⟨ao,bg,X,F⟩:=dy.out;have HF:=hid (ao.below hb5);have HN:=hid (bg.below hb5);have fh:=hid X;have fm:=hid F;have HT:=hid hT;have dk:=hid (dz.out.1.keep HB5.out.block);have di:=hid dz.out.2;obtain⟨⟨y0,y1,y2,y3⟩,yf⟩:=Yx cf;have bp:=hid (fun(W:World) (hb:Below U.heap.size U W)=>uU (w:=W) f ai an aT al ci cn ct cl (HF.out.below hb) nds (HN.out.below hb) inl az ba (dk.out.keep hb.block) di.out (h:Int));have bo:=hid (fun(W:World) (hb:Below U.heap.size U W)=>ZcN (w:=W) f ai an aT al ci cn ct cl (HF.out.below hb) nds (HN.out.below hb) inl az ba (dk.out.keep hb.block) di.out (h:Int));have R:=hid (fun(W:World) (hb:Below U.heap.size U W)=>Zd9 (w:=W) f ai an aT al ci cn ct cl (HF.out.below hb));rw[Zaw F] at R;unfold fv at bp bo R;rw[hT] at bp bo R;obtain⟨fb,ep⟩:=ez w4.heap.size;have ga:=hid ep;rw[ep] at y0 y1 y2 y3 ah ae
 cases ho:ofP f with
 | none =>
  have am:Ji f (h:Int)=6:=by unfold Ji;rw[Z0 ⟨F,oq,oq⟩,ho]
  rw[ho] at R;simp only[vh] at R;have dj:=hid am;clear ao bg X F am ho hT cf hb5;go_wp2_with (first
   | (go_at_call 10;first|rw[bs]|skip;refine(bp.out _ (Zg _ _)).mono ?_;rintro x w6 ⟨ha,hb6⟩;obtain rfl:=Zga ha dj.out;have HB6:=hid hb6;obtain⟨⟨y0,y1,y2,y3⟩,yf⟩:=Yx ((hb6.block _ ah).trans ae.out);clear hb6 ha)
   | (go_at_call 11;refine(bo.out _ HB6.out).mono ?_;rintro x w7 ⟨ha,bd⟩;obtain rfl:=ZfZ ha dj.out;have J:=HB6.out.trans (bd.mono HB6.out.size);have ab:=hid J;obtain⟨⟨y0,y1,y2,y3⟩,yf⟩:=Yx ((J.block _ ah).trans ae.out);clear bd J ha)
   | (go_at_call 12;refine(R.out _ ab.out).mono ?_;rintro x w8 ⟨rfl,G⟩;have ac:=hid (ab.out.trans (G.mono ab.out.size));clear G))
  go_ret;exact⟨rfl,HB5.out.trans (ac.out.mono HB5.out.size)⟩
 | some l =>
  have am:Ji f (h:Int)=0:=by unfold Ji;rw[Z0 ⟨F,oq,oq⟩,ho]
  rw[ho] at R;simp only[vh] at R;have dj:=hid am;have HO:=hid ho;obtain⟨g,ar⟩:=ez (Jt f nds inl (h:Int));have ef:=hid ar;have br:=hid (fun W hb=>(bp.out W hb).mono (fun x w' h=>Zh (ZeI h.1 am) h.2));have ch:=hid (fun W hb=>(bo.out W hb).mono (fun x w' h=>Zh (Zev ao.lens.2.2.2 h.1 am) h.2));rw[ar] at br ch;unfold Zbk at br;unfold Zbf at ch;rw[hT] at br;have ed:=hid (fun(W:World)=>Zd5 (w:=W) T fr);clear ao bg X F am ho cf hb5 bp bo ar;clear hT;go_upto_region 15 with (first
   | (go_at_call 10;first|rw[bs]|skip;refine(br.out _ (Zg _ _)).mono ?_;rintro x w6 ⟨⟨av,cv,rfl,eu,ak⟩,hb6⟩;have dm:=hid (Zh eu ak);have HB6:=hid hb6;obtain⟨⟨y0,y1,y2,y3⟩,yf⟩:=Yx ((hb6.block _ ah).trans ae.out);clear hb6 eu ak)
   | (go_at_call 11;refine(ch.out _ HB6.out).mono ?_;rintro x w7 ⟨⟨s,sa,sc,rfl,ev,ex,ew⟩,bd⟩;have dn:=hid (Zh ev (Zh ex ew));have J:=HB6.out.trans (bd.mono HB6.out.size);have bi:=hid bd;have ab:=hid J;obtain⟨⟨y0,y1,y2,y3⟩,yf⟩:=Yx ((J.block _ ah).trans ae.out);clear bd J ev ex ew)
   | (go_at_call 12;refine(R.out _ ab.out).mono ?_;rintro x w8 ⟨⟨gp,rfl,_⟩,G⟩;have bj:=hid G;have ac:=hid (ab.out.trans (G.mono ab.out.size));obtain⟨⟨y0,y1,y2,y3⟩,yf⟩:=Yx ((ac.out.block _ ah).trans ae.out);clear G)
   | (go_at_call 13;refine(ed.out _).mono ?_;rintro x Y ⟨rfl,es⟩;have ec:=hid es;clear es))
  clear y0 y1 y2 y3 yf br ch R ed bs;obtain⟨vv,kk,vs,ks,V,K,db,ek,ej,eq,cp,_⟩:=ec.out;obtain⟨B,bc⟩:=ez w8.heap.size;obtain⟨E,ck⟩:=ez Y.heap.size;have ag:Zdt U f nds inl g (h:Int) l ai an aT al az:=by
   have dw:=fm.out;have hn:=HN.out;have hv:=ef.out;refine⟨HF.out,⟨hn.row,hn.len,hn.ok⟩,fh.out,dk.out,fun d hd n=>yu di.out dm.out.2 hn.nums hd n,JU dw,zV dw hn.len (fun t ht=>(HF.out.args t ht).1),?_,Ga HO.out,oq,oq⟩;have:=Zgb dw hn.len HO.out (inl:=inl) (h:=(h:Int)) oq;rw[hv] at this;exact this
  have cx:Below U.heap.size U Y:=ac.out.trans (cp.mono ac.out.size);have cc:MS w8.heap.size Y.heap.size w8.heap.size vv kk vs ks f.tasks.length (Vj g) Y:=⟨V,K,db,by rw[HT.out];exact ek,by rw[HT.out];exact ej,Zaa eq _⟩;rw[bc,ck] at cc;have fe:U.heap.size≤B:=by rw[←bc];exact ac.out.size
  have fz:w7.heap.size≤B:=by rw[←bc];exact bj.out.size
  have gl:w6.heap.size≤w7.heap.size:=bi.out.size;have gm:B≤E:=by rw[←bc,←ck];exact cp.size
  have dr:Below w7.heap.size w7 Y:=bj.out.trans (cp.mono bj.out.size);have ei:Below w6.heap.size w6 Y:=bi.out.trans (dr.mono bi.out.size);have ay:=hid ag;have fl:=hid cc;have bk:=hid cx;have ff:=hid dr;have dx:=hid ei;have bm:=hid ck;have dp:=hid (fun(W:World) (hlo:Below w7.heap.size w7 W) (hE:E≤W.heap.size) (hm:MS B E B vv kk vs ks f.tasks.length (Vj g) W)=>ZcL (w1:=w7) ag ci cn ct cl ba B E B vv kk vs ks fe s dn.out.2.1 dn.out.1 sa sc dn.out.2.2 ab.out fz hlo hE hm);have dq:=hid (fun(t:Nat) (x:TD) (n:Nat) (hx:f.tasks[t]?=some x) (hn:n<(g.getD t []).length)=>Zco ag ci cn ct cl ba B E B vv kk vs ks fe _ _ t x n hx hn rfl rfl);unfold fv at dp;unfold zo fv at dq;rw[HT.out] at dp dq;have fa:g.length=T:=by rw[←HT.out];exact ag.vr.len
  have ee:=hid fa;have cz:fb<B:=oq
  try rw[bc]
  clear db ek ej eq cp ag cx cc dr ei ck bc ec ef fa;go_wp2;go_loopw [17] (fun s17 wr=>Hid (∃D:Nat,s17=.int .i64 (D:Int)∧D≤h∧MS B E B vv kk vs ks f.tasks.length (Vj g) wr∧But (Vr B E) Y wr)) (fun s _=>h-(intOf s).toNat)
  case atStart=>exact⟨0,rfl,Zk _,fl.out,But.refl _ _⟩
  obtain⟨W3,rfl⟩:=ey wr;obtain⟨D,rfl,hD,dc,cy⟩:=hrel.out;clear hrel;have bn:=hid dc;have au:=hid cy;clear dc cy;by_cases fq:D<h
  ·have d1:(D:Int)<(h:Int):=oq;go_upto_region 18 with fail
   go_wp2;go_loopw [18] (fun s18 wr=>Hid (∃t:Nat,s18=.int .i64 (t:Int)∧t≤T∧MS B E B vv kk vs ks f.tasks.length (Vj g) wr∧But (Vr B E) Y wr)) (fun s _=>T-(intOf s).toNat)
   case atStart=>exact⟨0,rfl,Zk _,bn.out,au.out⟩
   clear bn au;obtain⟨C,rfl⟩:=ey wr;obtain⟨t,rfl,ht,dd,ax⟩:=hrel.out;clear hrel;have fc:E≤C.heap.size:=by have:=ax.size;have:=bm.out;omega
   have em:Below Y.heap.size Y Y:=Zg _ _;have H:Below B Y C:=ax.below (by have:=bm.out;omega) (fun b e=>e.1);have I:=hid H;have be:C.heap[fb]?=_:=(H.block fb cz).trans ((bk.out.block fb ah).trans ae.out);obtain⟨⟨q0,q1,q2,q3⟩,qf⟩:=Yx be;have cw:=hid dd;have cu:=hid ax;have fk:=hid be;clear dd ax em H be;by_cases Z:t<T
   ·have t0:(0:Int)≤(t:Int):=oq;have t1:(t:Int)<(T:Int):=oq;have O:t<f.tasks.length:=by rw[HT.out];exact Z
    obtain⟨bt,ot,rfl,q,bw⟩:=ay.out.fap.tasks.resolve_left (fun e=>by rw[e] at O;simp at O);obtain⟨u0,u1,u2,u3⟩:=bw t O;obtain⟨x,hx⟩:=ez (f.tasks[t]);have bh:f.tasks[t]?=some x:=by rw[Ze O,hx]
    rw[hx] at u1 u2;have hc:=ay.out.rg.clk t x bh;have cq:Below U.heap.size U C:=(bk.out.trans (Zg _ _)).trans ⟨I.out.os,I.out.tape,I.out.output,I.out.size,fun k hk=>I.out.block k oq⟩;have y1:=(cq.cell (p:=⟨bt,_,none⟩) q).trans u1;have y2:=(cq.cell (p:=⟨bt,_,none⟩) q).trans u2;have eg:=hid bh;have j:=hid cq;obtain⟨m,M⟩:∃m,x.per=m:=⟨_,rfl⟩;obtain⟨ph,aq⟩:∃ph,x.ph=ph:=⟨_,rfl⟩;rw[M] at y1 hc;rw[aq] at y2 hc;have HX:=hid (Zh M aq);obtain⟨p1,p2,gn,go⟩:=hc;obtain⟨W6,co⟩:=ez (C.alloc (.cells #[.int .i64 m,.int .i64 ph] 50));have hb6:Below C.heap.size C W6:=by rw[←co];exact bq
    have et:W6.heap[C.heap.size]?=some (.cells #[.int .i64 m,.int .i64 ph] 50 (0,0)):=by rw[←co];exact Yw C _
    have HB6:=hid hb6;obtain⟨⟨z0,z1⟩,zf⟩:=YJ et;have fd:C.heap.size≤W6.heap.size:=hb6.size;have cd:=cw.out.keep hb6;have eb:=hid cd;have dg:=hid (show MS B E B vv kk vs ks f.tasks.length (Vj g) W6∧But (Vr B E) Y W6 from ⟨cd,cu.out.then (But.of_below hb6) (fun _ _ e=>e)⟩);clear bw u0 u1 u2 u3 hx bh M aq et hb6 cq O cd;go_upto_region 22 with fail
    first|rw[co]|skip
    clear co q0 q1 q2 q3 qf y1 y2 zf;by_cases hA:(D:Int)<ph
    ·have a1:¬(D:Int)≥ph:=oq;have a2:¬ph≤(D:Int):=oq;go_wp2;exact⟨hid ⟨t+1,by go_num,Z,dg.out⟩,by simp[intOf];omega⟩
    have a1:(D:Int)≥ph:=oq;have a2:ph≤(D:Int):=oq;obtain⟨bb,ds⟩:=ez ((D:Int)-ph);have fn:IntKind.i64.wrap ((D:Int)-ph)=bb:=by rw[ds];exact ZJ _ oq
    have aj:0≤bb∧bb≤400:=oq;have r1:(m == 0)=false:=ZW.2 oq;have r2:¬m=0:=oq;obtain⟨rr,cg⟩:=ez (bb.tmod m);have de:0≤rr∧rr<m:=by rw[←cg,Int.tmod_eq_emod_of_nonneg aj.1];exact⟨Int.emod_nonneg _ oq,Int.emod_lt_of_pos _ oq⟩
    have eh:IntKind.i64.wrap rr=rr:=ZJ _ oq;have fo:IntKind.i64.wrap (bb.tmod m)=rr:=by rw[cg];exact eh
    by_cases hR:rr=0
    ·obtain⟨n,ce⟩:∃n:Nat,bb.tdiv m=(n:Int):=⟨(bb.tdiv m).toNat,by rw[Int.tdiv_eq_ediv_of_nonneg aj.1];have:=Int.ediv_nonneg aj.1 (show 0≤m by omega);omega⟩;have fx:n≤400:=by
      have h1:=Int.ediv_le_self m aj.1;rw[Int.tdiv_eq_ediv_of_nonneg aj.1] at ce;omega
     have dt:ph+(n:Int)*m=(D:Int):=by
      have h2:=Int.mul_ediv_add_emod bb m;rw[Int.tdiv_eq_ediv_of_nonneg aj.1] at ce;rw[Int.tmod_eq_emod_of_nonneg aj.1,hR] at cg;rw[cg,ce,Int.mul_comm] at h2;omega
     have ap:n<(g.getD t []).length:=(ay.out.vr.at_ t x eg.out n).2 (by rw[HX.out.1,HX.out.2];omega);have aa:t<g.length:=by rw[ee.out];exact Z
     obtain⟨ll,ca⟩:=ez (g[t]);have L:g[t]?=some ll:=by rw[Ze aa,ca]
     have hgd:g.getD t []=ll:=by rw[Zf,L];rfl
     rw[hgd] at ap;obtain⟨bv,vo,rfl,ak,bz⟩:=dm.out.1.resolve_left (fun e=>by rw[e] at aa;simp at aa);obtain⟨gr,xc,g0,grow⟩:=bz t ll L;obtain⟨bx,ox,rfl,fs,eo⟩:=grow.resolve_left (fun e=>by rw[e] at ap;simp at ap);obtain⟨v,hv⟩:∃v,ll[n]?=some v:=⟨_,Ze ap⟩;have g1:=eo n v hv;have df:Vj g t n=v:=by unfold Vj;rw[hgd,Zf,hv];rfl
     have z:Below w6.heap.size w6 W6.drew:=by
      have h:=(dx.out.trans (⟨I.out.os,I.out.tape,I.out.output,I.out.size,fun k hk=>I.out.block k oq⟩:Below w6.heap.size Y C)).trans (HB6.out.mono oq);exact⟨h.os,h.tape,h.output,h.size,h.block⟩
     have A:Below U.heap.size U W6.drew:=by
      have h:=j.out.trans (HB6.out.mono j.out.size);exact⟨h.os,h.tape,h.output,h.size,h.block⟩
     have cj:=dq.out t x n eg.out (by rw[hgd];exact ap) W6.drew A (by have h:=eb.out.keep (W':=W6.drew) ⟨rfl,rfl,rfl,Zc _,fun _ _=>rfl⟩;rw[HT.out] at h;exact h);rw[df] at cj;have cj:=hid cj;obtain⟨ln,bf⟩:=ez ll.length;rw[bf] at g0 ap;have bu:=fun o=>Zn (w:=C) (w':=W6.drew) (a:=⟨fb,o,none⟩) (HB6.out.block fb oq)
     obtain⟨⟨q0,q1,q2,q3⟩,qf⟩:=Yx fk.out;have KA:=hid (show SwS fb bv (vo+t) bx (ox+n) (.slice ai f.ins.length ci) (.slice an f.nods.length cn) (.slice (some ⟨bt,ot,none⟩) T ct) (.slice al f.tells.length cl) (.slice (some ⟨bx,ox,none⟩) ln xc) (.int .i64 v) W6.drew from ⟨(bu _).trans q0,(bu _).trans q1,(bu _).trans q2,(bu _).trans q3,(z.cell (p:=⟨bv,_,none⟩) ak).trans g0,(z.cell (p:=⟨bx,_,none⟩) fs).trans g1⟩);have n0:(0:Int)≤(n:Int):=oq;have n1:(n:Int)<(ln:Int):=oq;have n2:¬(n:Int)≥(ln:Int):=oq;have n3:¬ln≤n:=oq;have fp:IntKind.i64.wrap (bb.tdiv m)=(n:Int):=by rw[ce];exact ZJ _ oq
     have ft:fb<W6.heap.size:=oq;have fy:bv<W6.heap.size:=oq;have gi:bx<W6.heap.size:=oq;have gh:bv<B:=oq;have gj:bx<B:=oq;subst hR;clear dt ap aa ca L hgd bz g0 grow eo hv g1 df z A bf bu q0 q1 q2 q3 qf de eh ds fd fc;go_upto_region 24 with fail
     clear z0 z1 fn fo fp cg ce r1 r2;refine ZN (S:=SwS fb bv (vo+t) bx (ox+n) (.slice ai f.ins.length ci) (.slice an f.nods.length cn) (.slice (some ⟨bt,ot,none⟩) T ct) (.slice al f.tells.length cl) (.slice (some ⟨bx,ox,none⟩) ln xc) (.int .i64 v)) kq (by first|with_reducible exact KA.out|with_reducible exact KB.out) (fun hHeld=>?_);refine tk 0 hHeld ?_;refine tk 1 hHeld ?_;refine tk 2 hHeld ?_;refine tk 3 hHeld ?_;refine tk 4 hHeld ?_;refine tk 5 hHeld ?_;refine tk 6 hHeld ?_;refine tk 7 hHeld ?_;refine tk 8 hHeld ?_;refine tk 9 hHeld ?_;refine tk 10 hHeld ?_;refine tk 11 hHeld ?_;refine tk 12 hHeld ?_;refine tk 13 hHeld ?_;refine tk 14 hHeld ?_;refine tk 15 hHeld ?_;refine tk 16 hHeld ?_;refine tk 17 hHeld ?_;refine tk 18 hHeld ?_;refine tk 19 hHeld ?_;refine ry 20 fun K hK=>?_
     (go_simp;go_at_call 14;refine cj.out.mono ?_;rintro y w8 ⟨rfl,cr,q⟩;have ea:=hid cr;have bl:=hid q;have KB:=hid (ZcZ KA.out (q.block fb (by show fb<W6.heap.size;omega) (fun e=>by have:=e.1;omega)) (q.block bv (by show bv<W6.heap.size;omega) (fun e=>by have:=e.1;omega)) (q.block bx (by show bx<W6.heap.size;omega) (fun e=>by have:=e.1;omega)));clear cr q)
     refine hK.out _ _ (fun hHeld=>?_) (by first|with_reducible exact KA.out|with_reducible exact KB.out);clear hK K;refine tk 21 hHeld ?_;refine tk 22 hHeld ?_;refine Zx kq ?_ _;go_wp2_with fail;exact⟨hid ⟨t+1,by go_num,Z,by rw[HT.out];exact ea.out,dg.out.2.drew.trans bl.out⟩,by simp[intOf];omega⟩
    have gc:(rr == 0)=false:=ZW.2 hR;clear de ds;go_wp2;exact⟨hid ⟨t+1,by go_num,Z,dg.out⟩,by simp[intOf];omega⟩
   have t1:¬(t:Int)<(T:Int):=oq;go_wp2;exact⟨hid ⟨D+1,by go_num,oq,cw.out,cu.out⟩,by simp[intOf];omega⟩
  have d1:¬(D:Int)<(h:Int):=oq;have H:Below B Y W3:=au.out.below (by have:=bm.out;omega) (fun b e=>e.1);have gk:E≤W3.heap.size:=by have:=au.out.size;have:=bm.out;omega
  have I:=hid H;clear hD fq H;go_upto_region 26 with fail
  clear d1;go_wp2;go_loopw [21] (fun s21 wr=>Hid (∃t:Nat,s21=.int .i64 (t:Int)∧t≤T∧Below W3.heap.size W3 wr)) (fun s _=>T-(intOf s).toNat)
  case atStart=>exact⟨0,rfl,Zk _,Zg _ _⟩
  obtain⟨C,rfl⟩:=ey wr;obtain⟨t,rfl,ht,aw⟩:=hrel.out;clear hrel;have fc:W3.heap.size≤C.heap.size:=aw.size;have cb:Below B Y C:=I.out.trans (aw.mono oq);have j:=hid cb;have dh:=hid aw;have be:C.heap[fb]?=_:=(cb.block fb cz).trans ((bk.out.block fb ah).trans ae.out);obtain⟨⟨q0,q1,q2,q3⟩,qf⟩:=Yx be;clear be cb aw;by_cases Z:t<T
  ·have t0:(0:Int)≤(t:Int):=oq;have t1:(t:Int)<(T:Int):=oq;have O:t<f.tasks.length:=by rw[HT.out];exact Z
   obtain⟨bt,ot,rfl,q,bw⟩:=ay.out.fap.tasks.resolve_left (fun e=>by rw[e] at O;simp at O);obtain⟨u0,u1,u2,u3⟩:=bw t O;obtain⟨x,hx⟩:=ez (f.tasks[t]);have bh:f.tasks[t]?=some x:=by rw[Ze O,hx]
   rw[hx] at u1 u2;have er:=ay.out.vr.jobs ay.out.rg (by have:=fu;omega) bh;have aa:t<g.length:=by rw[ee.out];exact Z
   obtain⟨ll,ca⟩:=ez (g[t]);have L:g[t]?=some ll:=by rw[Ze aa,ca]
   have hgd:g.getD t []=ll:=by rw[Zf,L];rfl
   obtain⟨bv,vo,rfl,ak,bz⟩:=dm.out.1.resolve_left (fun e=>by rw[e] at aa;simp at aa);obtain⟨xa,xc,g0,grow⟩:=bz t ll L;have dl:=hid (fun(W:World)=>Ej x.per x.ph (h:Int) W);rw[er,hgd] at dl;obtain⟨m,M⟩:∃m,x.per=m:=⟨_,rfl⟩;obtain⟨ph,aq⟩:∃ph,x.ph=ph:=⟨_,rfl⟩;obtain⟨ln,bf⟩:=ez ll.length;rw[M,aq,bf] at dl;rw[M] at u1;rw[aq] at u2;rw[bf] at g0;have z:Below w6.heap.size w6 C.drew:=by
    have h:=dx.out.trans (⟨j.out.os,j.out.tape,j.out.output,j.out.size,fun k hk=>j.out.block k oq⟩:Below w6.heap.size Y C);exact⟨h.os,h.tape,h.output,h.size,h.block⟩
   have A:Below U.heap.size U C.drew:=by
    have h:=bk.out.trans (⟨j.out.os,j.out.tape,j.out.output,j.out.size,fun k hk=>j.out.block k oq⟩:Below U.heap.size Y C);exact⟨h.os,h.tape,h.output,h.size,h.block⟩
   have KA:=hid (show SxS fb bv (vo+t) bt (ot+t*4) (.slice (some ⟨bt,ot,none⟩) T ct) (.slice xa ln xc) (.int .i64 m) (.int .i64 ph) C.drew from ⟨q2,(z.cell (p:=⟨bv,_,none⟩) ak).trans g0,(A.cell (p:=⟨bt,_,none⟩) q).trans u1,(A.cell (p:=⟨bt,_,none⟩) q).trans u2⟩);have ft:fb<C.heap.size:=oq;have fy:bv<C.heap.size:=Zd ak z.size;have gg:bt<C.heap.size:=Zd q A.size;clear bw u0 u1 u2 u3 hx bh er aa ca L hgd bz g0 grow M aq bf z A O;go_upto_region 29 with fail
   clear q0 q1 q2 q3 qf;refine ZN (S:=SxS fb bv (vo+t) bt (ot+t*4) (.slice (some ⟨bt,ot,none⟩) T ct) (.slice xa ln xc) (.int .i64 m) (.int .i64 ph)) kq (by first|with_reducible exact KA.out|with_reducible exact KB.out) (fun hHeld=>?_);refine tk 0 hHeld ?_;refine tk 1 hHeld ?_;refine tk 2 hHeld ?_;refine tk 3 hHeld ?_;refine tk 4 hHeld ?_;refine tk 5 hHeld ?_;refine tk 6 hHeld ?_;refine tk 7 hHeld ?_;refine tk 8 hHeld ?_;refine tk 9 hHeld ?_;refine tk 10 hHeld ?_;refine tk 11 hHeld ?_;refine ry 12 fun K hK=>?_
   (go_simp;go_at_call 15;refine(dl.out _).mono ?_;rintro y w8 ⟨rfl,G⟩;have af:Below C.heap.size C w8:=⟨G.os,G.tape,G.output,G.size,G.block⟩;have ac:=hid af;have KB:=hid (Zc1 KA.out (af.block fb oq) (af.block bv oq) (af.block bt oq));clear G af)
   refine hK.out _ _ (fun hHeld=>?_) (by first|with_reducible exact KA.out|with_reducible exact KB.out);clear hK K;refine tk 13 hHeld ?_;refine Zx kq ?_ _;go_wp2_with fail;exact⟨hid ⟨t+1,by go_num,Z,dh.out.trans (ac.out.mono dh.out.size)⟩,by simp[intOf];omega⟩
  have t1:¬(t:Int)<(T:Int):=oq;have da:Below w7.heap.size w7 C:=ff.out.trans (⟨j.out.os,j.out.tape,j.out.output,j.out.size,fun k hk=>j.out.block k oq⟩:Below w7.heap.size Y C);have fi:=hid (dp.out C da oq (by have h:=bn.out.keep dh.out;rw[HT.out] at h;exact h));clear da;go_wp2_with (go_at_call 16;refine fi.out.mono ?_;rintro y gq ⟨rfl,cr,q⟩;have bl:=hid q;clear cr q);go_ret;refine⟨rfl,HB5.out.trans (Below.mono (bk.out.trans (Below.trans (⟨j.out.os,j.out.tape,j.out.output,j.out.size,fun k hk=>j.out.block k oq⟩:Below U.heap.size Y C) (bl.out.below ?_ (fun k e=>?_)))) HB5.out.size)⟩
  ·have:=j.out.size;have:=bm.out;omega
  have:=e.1;omega
end Go.Proofs.YtdgifkjaflfdeaaGreatDoor.syn
