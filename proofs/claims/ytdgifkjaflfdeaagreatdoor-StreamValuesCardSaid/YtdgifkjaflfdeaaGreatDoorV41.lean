/- Parts of the proof. -/
import Derived.Test.YtdgifkjaflfdeaaGreatDoorV29
set_option linter.all false
set_option maxRecDepth 100000
set_option maxHeartbeats 16000000
namespace Go.Proofs.YtdgifkjaflfdeaaGreatDoor.syn
open Tryz
open Go.RowKit
theorem Zc5{ps:List ByteArray}{f:List Int}{nm:ByteArray}{i:Nat}{v:Int}(h:((ps.zip f).take i).find? (fun p=>nm=p.1)=none)(hi:(ps.zip f)[i]?=some (nm,v)):JE ps f nm=v:=by
 unfold JE;have e:ps.zip f=(ps.zip f).take i++(ps.zip f).drop i:=(List.take_append_drop i _).symm;rw[e,List.find?_append,h,Option.none_or];obtain⟨j,g⟩:=Zz.1 hi;rw[ZM j,g];simp
theorem ZaU{ps:List ByteArray}{f:List Int}{nm k:ByteArray}{i:Nat}{v:Int}(h:((ps.zip f).take i).find? (fun p=>nm=p.1)=none)(hi:(ps.zip f)[i]?=some (k,v))(g:¬k=nm):((ps.zip f).take (i+1)).find? (fun p=>nm=p.1)=none:=by
 rw[List.take_add_one,hi,List.find?_append,h,Option.none_or];simp;exact fun e=>g e.symm
theorem zZ{ps:List ByteArray}{f:List Int}{nm:ByteArray}{i:Nat}(h:((ps.zip f).take i).find? (fun p=>nm=p.1)=none)(hi:¬(i<ps.length∧i<f.length)):JE ps f nm=0:=by
 unfold JE;rw[List.take_of_length_le (by rw[List.length_zip];omega)] at h;rw[h];rfl
theorem ZdE{k n d:Int}{nm:ByteArray}{len:Nat}(h:bdE k n d nm len=true):(k=11)∨(k=12)∨(k=13∧nm=zi∧len=3)∨(k=13∧nm≠zi∧len=2):=by
 unfold bdE at h;split at h
 ·cases h
 split at h
 ·rename_i h1;exact .inl h1
 split at h
 ·rename_i h1;exact .inr (.inl h1)
 split at h
 ·cases h
 rename_i hk
 have f:k=13:=by
  by_cases f:k=13
  ·exact f
  exact absurd (Or.inl f) hk
 split at h
 ·rename_i hq
  exact .inr (.inr (.inl ⟨f,hq,Yh h⟩))
 rename_i hq
 split at h
 ·exact .inr (.inr (.inr ⟨f,hq,Yh h⟩))
 cases h
theorem Zhc{l:PL}(h:l.len=3):∃k0 m0 n0 d0 g0 a0 k1 m1 n1 d1 g1 a1 k2 m2 n2 d2 g2 a2,l=.cons k0 m0 n0 d0 g0 a0 (.cons k1 m1 n1 d1 g1 a1 (.cons k2 m2 n2 d2 g2 a2 .nil)):=by
 match l,h with
 | .cons k0 m0 n0 d0 g0 a0 (.cons k1 m1 n1 d1 g1 a1 (.cons k2 m2 n2 d2 g2 a2 .nil)),_=>exact⟨_,_,_,_,_,_,_,_,_,_,_,_,_,_,_,_,_,_,rfl⟩
 | .nil,h=>cases h
 | .cons _ _ _ _ _ _ .nil,h=>cases h
 | .cons _ _ _ _ _ _ (.cons _ _ _ _ _ _ .nil),h=>cases h
 | .cons _ _ _ _ _ _ (.cons _ _ _ _ _ _ (.cons _ _ _ _ _ _ (.cons _ _ _ _ _ _ tl))),h=>simp[PL.len] at h
theorem Ur{l:PL}(h:l.len=2):∃k0 m0 n0 d0 g0 a0 k1 m1 n1 d1 g1 a1,l=.cons k0 m0 n0 d0 g0 a0 (.cons k1 m1 n1 d1 g1 a1 .nil):=by
 match l,h with
 | .cons k0 m0 n0 d0 g0 a0 (.cons k1 m1 n1 d1 g1 a1 .nil),_=>exact⟨_,_,_,_,_,_,_,_,_,_,_,_,rfl⟩
 | .nil,h=>cases h
 | .cons _ _ _ _ _ _ .nil,h=>cases h
 | .cons _ _ _ _ _ _ (.cons _ _ _ _ _ _ (.cons _ _ _ _ _ _ tl)),h=>simp[PL.len] at h
theorem Zbo:zi.toList=[63]:=by rw[Lib.toList_data];rfl
theorem kS{nm:ByteArray}:nm.toList=[63]↔nm=zi:=by
 constructor
 ·intro h;have:=body.XE h;exact this
 rintro rfl;exact Zbo
structure Zdu (w:World) (ps:List ByteArray) (al:List Int) (pa aa:Option Addr):Prop where
 rps:Je w Value.string pa ps
 ral:Je w (Value.int .i64) aa al
 pl:ps.length≤100000
 all:al.length≤100000
 b64:∀x∈al,B64 x
theorem Zdu.below{w w':World}{ps:List ByteArray}{al:List Int}{pa aa:Option Addr}(h:Zdu w ps al pa aa)(hb:Below w.heap.size w w'):Zdu w' ps al pa aa:=⟨h.rps.keep hb.block,h.ral.keep hb.block,h.pl,h.all,h.b64⟩
def yp(e:PE):Prop:=∀(w:World)(ad:Option Addr)(cap:Nat)(ps:List ByteArray)(al:List Int)(pa aa:Option Addr)(pc ac:Nat),SlA w (fun _=>True) e.args ad→Zdu w ps al pa aa→e.n64→XF e=true →
 Calls prog 40 #[ev e ad cap,.slice pa ps.length pc,.slice aa al.length ac] w fun x w'=>x=.returned (.int .i64 (evE (JE ps al) e))∧Below w.heap.size w w'
theorem ZeJ(e:PE)(ih:∀e':PE,e'.args.sz<e.args.sz→yp e'):yp e:=by
 intro w ad cap ps al pa aa pc ac bu br hn hb;obtain⟨k,nm,n,d,args,a⟩:=e;have q:args.n64:=hn.2;simp only at bu ih;unfold ev;simp only;obtain⟨T,hT⟩:=ez (JE ps al);have af:∀nm,B64 (T nm):=fun x=>by rw[←hT];exact xv ps br.b64 x
 rw[hT];obtain⟨be,f⟩:=ez (evE T ⟨k,nm,n,d,args,a⟩);rw[f];unfold evE at f;simp only at f;unfold XF at hb;simp only[ZA] at hb;have ag:=hb.1;have cz:=ZdE hb.2;obtain⟨D,m⟩:=ez (w.alloc (.cells #[.int .i64 k,.string nm,.int .i64 n,.int .i64 d,.slice ad args.len cap,.int .i64 a] 111));have hB:Below w.heap.size w D:=by rw[←m];exact bq
 have bm:D.heap[w.heap.size]?=some (.cells #[.int .i64 k,.string nm,.int .i64 n,.int .i64 d,.slice ad args.len cap,.int .i64 a] 111 (0,0)):=by rw[←m];exact Yw w _
 have bt:=Zb bm;have HB:=hid hB;have HQ:=hid bm;have C:=hid (br.below hB);have ae:=hid (bu.keep (w':=D) ⟨hB.size,fun b _ hb=>hB.block b hb⟩);have G:=hid ih;obtain⟨⟨x0,x1,x2,x3,x4,x5⟩,xf⟩:=YV bm;clear hB bm bu br hn hb ih;rcases cz with h11|h12|⟨h13,hq,hlen⟩|⟨h13,hq,hlen⟩
 ·subst h11;rw[ZZ (by decide)] at f;unfold sgE at f;rw[Z0 rfl] at f;have Y:=hid (show JE ps al nm=be by rw[hT];exact f);clear f hT af q ag G ae;go_enter func40,ntmps40;go_upto_region 1 with fail
  first|rw[m]|skip
  clear m;go_wp2;go_loopw [7] (fun s7 wr=>Hid (∃i:Nat,s7=.int .i64 (i:Int)∧i≤ps.length∧((ps.zip al).take i).find? (fun p=>nm=p.1)=none∧Below D.heap.size D wr)) (fun s _=>ps.length-(intOf s).toNat)
  case atStart=>exact⟨0,rfl,Zk _,rfl,Zg _ _⟩
  obtain⟨W3,rfl⟩:=ey wr;obtain⟨i,rfl,hi,cg,hb3⟩:=hrel.out;clear hrel;have bd:=hid cg;have dc:=C.out.pl;have db:=C.out.all;have HB3:=hid hb3;clear cg;by_cases hp:i<ps.length
  ·have i0:(0:Int)≤(i:Int):=oq;have i1:(i:Int)<(ps.length:Int):=oq;by_cases bl:i<al.length
   ·have i2:(i:Int)<(al.length:Int):=oq;obtain⟨E,bs⟩:=ez (ps[i]);obtain⟨v,hv⟩:=ez (al[i]);have bn:(ps.zip al)[i]?=some (E,v):=by rw[List.getElem?_zip_eq_some];exact⟨by rw[←bs];exact Ze hp,by rw[←hv];exact Ze bl⟩
    obtain⟨bp,op,rfl,da,ce⟩:=C.out.rps.resolve_left (fun e=>by rw[e] at hp;simp at hp);obtain⟨ba,oa,rfl,cy,cd⟩:=C.out.ral.resolve_left (fun e=>by rw[e] at bl;simp at bl);have cp:=(hb3.cell (p:=⟨bp,op+i,none⟩) da).trans (ce i E (by rw[←bs];exact Ze hp));have ca:=(hb3.cell (p:=⟨ba,oa+i,none⟩) cy).trans (cd i v (by rw[←hv];exact Ze bl));have c1:=(hb3.cell (p:=⟨w.heap.size,1,none⟩) bt).trans x1;have HZ:=hid bn;have cc:=QR E nm;clear bs hv bn ce cd hb3 x0 x1 x2 x3 x4 x5 xf;by_cases he:E=nm
    ·rw[ZY he] at cc;have aq:v=be:=by rw[←Y.out,Zc5 (v:=v) bd.out (by rw[HZ.out,he])]
     subst aq;clear he Y;go_wp2;go_region
     all_goals go_wp2
     all_goals (go_ret;exact⟨rfl,HB.out.trans ((HB3.out.drew).mono HB.out.size)⟩)
    rw[ZX he] at cc;have HE:=hid he;clear he;go_wp2;go_region
    all_goals go_wp2
    all_goals exact⟨hid ⟨i+1,by go_num,hp,ZaU bd.out HZ.out HE.out,bq⟩,by simp[intOf];omega⟩
   have i2:¬(i:Int)<(al.length:Int):=oq;have aq:be=0:=by rw[←Y.out,zZ bd.out oq]
   subst aq;clear hb3 x0 x1 x2 x3 x4 x5 xf;go_wp2;go_ret;exact⟨rfl,HB.out.trans (HB3.out.mono HB.out.size)⟩
  have i1:¬(i:Int)<(ps.length:Int):=oq;have aq:be=0:=by rw[←Y.out,zZ bd.out oq]
  subst aq;clear hb3 x0 x1 x2 x3 x4 x5 xf;go_wp2;go_ret;exact⟨rfl,HB.out.trans (HB3.out.mono HB.out.size)⟩
 ·subst h12;rw[ZZ (by decide)] at f;unfold sgE at f;rw[ZZ (by decide),Z0 rfl] at f;subst f;clear hT af q ag G ae C;go_enter func40,ntmps40;go_upto_region 1 with fail
  first|rw[m]|skip
  clear m;go_wp2;go_ret;exact⟨rfl,HB.out⟩
 ·subst h13;rw[Z0 rfl] at f;unfold opE at f;rw[Z0 (kS.2 hq)] at f;clear hq;obtain⟨k0,R,V,M,H,J,E,U,X,O,I,L,k2,m2,n2,d2,g2,a2,rfl⟩:=Zhc hlen
  skip
  obtain⟨b,o,rfl,ar,hc⟩:=ae.out.resolve_left (fun e=>by cases e);obtain⟨ck,cl,cm,cn,cq,⟨am,ao,co,_,ay⟩,bf,bg,bh,bi,bk,⟨an,ap,bj,_,az⟩,cr,ct,cu,cv,cx,⟨bz,cb,cw,_,ci⟩,_⟩:=hc;have aj:=hid (show SlA D (fun _=>True) H am from ay);have ak:=hid (show SlA D (fun _=>True) I an from az);have bx:=hid (show SlA D (fun _=>True) g2 bz from ci);have bo:=ar.lt;simp only[bdR,ZA] at ag;obtain⟨⟨aw,au⟩,⟨ax,av⟩,⟨ch,cf⟩,_⟩:=ag;have ah:=hid (show XF ⟨k0,R,V,M,H,J⟩=true by unfold XF;rw[aw,au];rfl);have HB1:=hid (show XF ⟨E,U,X,O,I,L⟩=true by unfold XF;rw[ax,av];rfl);have HB2:=hid (show XF ⟨k2,m2,n2,d2,g2,a2⟩=true by unfold XF;rw[ch,cf];rfl);have Z:=hid (show(⟨k0,R,V,M,H,J⟩:PE).n64 from ⟨q.1,q.2.1⟩);have ab:=hid (show(⟨E,U,X,O,I,L⟩:PE).n64 from ⟨q.2.2.1,q.2.2.2.1⟩);have bv:=hid (show(⟨k2,m2,n2,d2,g2,a2⟩:PE).n64 from ⟨q.2.2.2.2.1,q.2.2.2.2.2.1⟩);have e0:=Vy T (.cons k0 R V M H J (.cons E U X O I L (.cons k2 m2 n2 d2 g2 a2 .nil))) 0 ⟨k0,R,V,M,H,J⟩ rfl;have e1:=Vy T (.cons k0 R V M H J (.cons E U X O I L (.cons k2 m2 n2 d2 g2 a2 .nil))) 1 ⟨E,U,X,O,I,L⟩ rfl;have e2:=Vy T (.cons k0 R V M H J (.cons E U X O I L (.cons k2 m2 n2 d2 g2 a2 .nil))) 2 ⟨k2,m2,n2,d2,g2,a2⟩ rfl;rw[e0,e1,e2] at f;have z:=hid (fun(W:World) (hb:Below D.heap.size D W)=>G.out ⟨k0,R,V,M,H,J⟩ (by simp only[PL.sz];omega) W am ao ps al pa aa pc ac (aj.out.keep ⟨hb.size,fun b _ h=>hb.block b h⟩) (C.out.below hb) Z.out ah.out);have A:=hid (fun(W:World) (hb:Below D.heap.size D W)=>G.out ⟨E,U,X,O,I,L⟩ (by simp only[PL.sz];omega) W an ap ps al pa aa pc ac (ak.out.keep ⟨hb.size,fun b _ h=>hb.block b h⟩) (C.out.below hb) ab.out HB1.out);have ai:=hid (fun(W:World) (hb:Below D.heap.size D W)=>G.out ⟨k2,m2,n2,d2,g2,a2⟩ (by simp only[PL.sz];omega) W bz cb ps al pa aa pc ac (bx.out.keep ⟨hb.size,fun b _ h=>hb.block b h⟩) (C.out.below hb) bv.out HB2.out);rw[hT] at z A ai;obtain⟨v0,bb⟩:=ez (evE T ⟨k0,R,V,M,H,J⟩);obtain⟨v1,bc⟩:=ez (evE T ⟨E,U,X,O,I,L⟩);obtain⟨v2,cj⟩:=ez (evE T ⟨k2,m2,n2,d2,g2,a2⟩);rw[bb] at z f;rw[bc] at A f;rw[cj] at ai f;unfold ev at z A ai;simp only at z A ai;have F:=hid (fun(W:World) (hb:Below D.heap.size D W)=>Zh ((hb.block _ bt).trans HQ.out) (fun o=>hb.cell (p:=⟨b,o,none⟩) bo));simp only[PL.len] at x4 HQ F m ⊢;clear ay az ci ar aw au ax av ch cf q e0 e1 e2 G ae aj ak bx ah HB1 HB2 Z ab bv bb bc cj hT af C hlen;have l0:((0+1+1+1:Nat):Int)=3:=rfl;by_cases hz:v0=0
  ·rw[ZZ (by simpa using hz)] at f;subst f;subst hz;go_enter func40,ntmps40;go_upto_region 1 with fail
   first|rw[m]|skip
   clear m;go_upto_region 12 with (go_at_call 40;refine(z.out _ (Zg _ _)).mono ?_;rintro y w2 ⟨rfl,hb2⟩;have HB2:=hid hb2;obtain⟨j,g⟩:=F.out _ hb2;obtain⟨⟨y0,y1,y2,y3,y4,y5⟩,yf⟩:=YV j;have z0:=(g _).trans bf;have z1:=(g _).trans bg;have z2:=(g _).trans bh;have z3:=(g _).trans bi;have z4:=(g _).trans bj;have z5:=(g _).trans bk;clear hb2 j g)
   go_upto_region 17 with (go_at_call 40;refine(A.out _ HB2.out).mono ?_;rintro y w3 ⟨rfl,hb3⟩;have HB3:=hid (HB2.out.trans (hb3.mono HB2.out.size));obtain⟨j,g⟩:=F.out _ HB3.out;obtain⟨⟨u0,u1,u2,u3,u4,u5⟩,uf⟩:=YV j;have t0:=(g _).trans cr;have t1:=(g _).trans ct;have t2:=(g _).trans cu;have t3:=(g _).trans cv;have t4:=(g _).trans cw;have t5:=(g _).trans cx;clear hb3 j g)
   go_wp2_with (go_at_call 40;refine(ai.out _ HB3.out).mono ?_;rintro y w4 ⟨rfl,hb4⟩;have HB4:=hid (HB3.out.trans (hb4.mono HB3.out.size));clear hb4);go_ret;exact⟨rfl,HB.out.trans (HB4.out.mono HB.out.size)⟩
  rw[Z0 hz] at f;subst f;have dd:(v0 != 0)=true:=bne_iff_ne.2 hz;go_enter func40,ntmps40;go_upto_region 1 with fail
  first|rw[m]|skip
  clear m;go_upto_region 12 with (go_at_call 40;refine(z.out _ (Zg _ _)).mono ?_;rintro y w2 ⟨rfl,hb2⟩;have HB2:=hid hb2;obtain⟨j,g⟩:=F.out _ hb2;obtain⟨⟨y0,y1,y2,y3,y4,y5⟩,yf⟩:=YV j;have z0:=(g _).trans bf;have z1:=(g _).trans bg;have z2:=(g _).trans bh;have z3:=(g _).trans bi;have z4:=(g _).trans bj;have z5:=(g _).trans bk;clear hb2 j g)
  go_wp2_with (go_at_call 40;refine(A.out _ HB2.out).mono ?_;rintro y w3 ⟨rfl,hb3⟩;have HB3:=hid (HB2.out.trans (hb3.mono HB2.out.size));obtain⟨j,g⟩:=F.out _ HB3.out;obtain⟨⟨u0,u1,u2,u3,u4,u5⟩,uf⟩:=YV j;clear hb3 j g);go_ret;exact⟨rfl,HB.out.trans (HB3.out.mono HB.out.size)⟩
 subst h13;rw[Z0 rfl] at f;unfold opE at f;rw[ZZ (fun h=>hq (kS.1 h))] at f;obtain⟨k0,R,V,M,H,J,E,U,X,O,I,L,rfl⟩:=Ur hlen
 skip
 obtain⟨b,o,rfl,ar,hc⟩:=ae.out.resolve_left (fun e=>by cases e);obtain⟨ck,cl,cm,cn,cq,⟨am,ao,co,_,ay⟩,bf,bg,bh,bi,bk,⟨an,ap,bj,_,az⟩,_⟩:=hc;have aj:=hid (show SlA D (fun _=>True) H am from ay);have ak:=hid (show SlA D (fun _=>True) I an from az);have bo:=ar.lt;simp only[bdR,ZA] at ag;obtain⟨⟨aw,au⟩,⟨ax,av⟩,_⟩:=ag;have ah:=hid (show XF ⟨k0,R,V,M,H,J⟩=true by unfold XF;rw[aw,au];rfl);have HB1:=hid (show XF ⟨E,U,X,O,I,L⟩=true by unfold XF;rw[ax,av];rfl);have Z:=hid (show(⟨k0,R,V,M,H,J⟩:PE).n64 from ⟨q.1,q.2.1⟩);have ab:=hid (show(⟨E,U,X,O,I,L⟩:PE).n64 from ⟨q.2.2.1,q.2.2.2.1⟩);have b0:=ZbH af ⟨k0,R,V,M,H,J⟩ Z.out;have b1:=ZbH af ⟨E,U,X,O,I,L⟩ ab.out;have e0:=Vy T (.cons k0 R V M H J (.cons E U X O I L .nil)) 0 ⟨k0,R,V,M,H,J⟩ rfl;have e1:=Vy T (.cons k0 R V M H J (.cons E U X O I L .nil)) 1 ⟨E,U,X,O,I,L⟩ rfl;rw[e0,e1] at f;have z:=hid (fun(W:World) (hb:Below D.heap.size D W)=>G.out ⟨k0,R,V,M,H,J⟩ (by simp only[PL.sz];omega) W am ao ps al pa aa pc ac (aj.out.keep ⟨hb.size,fun b _ h=>hb.block b h⟩) (C.out.below hb) Z.out ah.out);have A:=hid (fun(W:World) (hb:Below D.heap.size D W)=>G.out ⟨E,U,X,O,I,L⟩ (by simp only[PL.sz];omega) W an ap ps al pa aa pc ac (ak.out.keep ⟨hb.size,fun b _ h=>hb.block b h⟩) (C.out.below hb) ab.out HB1.out);rw[hT] at z A;obtain⟨v0,bb⟩:=ez (evE T ⟨k0,R,V,M,H,J⟩);obtain⟨v1,bc⟩:=ez (evE T ⟨E,U,X,O,I,L⟩);rw[bb] at z f b0;rw[bc] at A f b1;unfold ev at z A;simp only at z A;have bw:=hid (fun(W:World)=>body.ZaI nm v0 v1 W b0.1 b0.2 b1.1 b1.2);rw[f] at bw;have F:=hid (fun(W:World) (hb:Below D.heap.size D W)=>Zh ((hb.block _ bt).trans HQ.out) (fun o=>hb.cell (p:=⟨b,o,none⟩) bo));simp only[PL.len] at x4 HQ F m ⊢;clear ay az ar aw au ax av q e0 e1 G ae aj ak ah HB1 Z ab bb bc hT af C hlen b0 b1 f;have l0:((0+1+1:Nat):Int)=2:=rfl;go_enter func40,ntmps40;go_upto_region 1 with fail
 first|rw[m]|skip
 clear m;go_upto_region 12 with (go_at_call 40;refine(z.out _ (Zg _ _)).mono ?_;rintro y w2 ⟨rfl,hb2⟩;have HB2:=hid hb2;obtain⟨j,g⟩:=F.out _ hb2;obtain⟨⟨y0,y1,y2,y3,y4,y5⟩,yf⟩:=YV j;have z0:=(g _).trans bf;have z1:=(g _).trans bg;have z2:=(g _).trans bh;have z3:=(g _).trans bi;have z4:=(g _).trans bj;have z5:=(g _).trans bk;clear hb2 j g)
 go_wp2_with (first|(go_at_call 40;refine(A.out _ HB2.out).mono ?_;rintro y w3 ⟨rfl,hb3⟩;have HB3:=hid (HB2.out.trans (hb3.mono HB2.out.size));obtain⟨j,g⟩:=F.out _ HB3.out;obtain⟨⟨u0,u1,u2,u3,u4,u5⟩,uf⟩:=YV j;clear hb3 j g)|(go_at_call 96;refine(bw.out _).mono ?_;rintro y w4 ⟨rfl,m4,rfl⟩));go_ret;exact⟨rfl,HB.out.trans (below_drewN (HB3.out.mono HB.out.size) _)⟩
theorem Za0(e:PE):yp e:=by
 suffices h:∀(N:Nat)(e:PE),e.args.sz<N→yp e from h _ e (ZU _)
 intro N
 induction N with
 | zero=>intro e h;omega
 | succ N ih=>intro e h;exact ZeJ e (fun e' h'=>ih e' oq)
end Go.Proofs.YtdgifkjaflfdeaaGreatDoor.syn
