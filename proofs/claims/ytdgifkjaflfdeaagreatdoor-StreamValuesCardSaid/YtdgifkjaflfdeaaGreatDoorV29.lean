/- Parts of the proof. -/
import Derived.Deep.OwnRows
import Derived.Test.YtdgifkjaflfdeaaGreatDoorV28
set_option linter.all false
set_option maxRecDepth 100000
set_option maxHeartbeats 16000000
namespace Go.Proofs.YtdgifkjaflfdeaaGreatDoor.syn
open Tryz
open Go.RowKit
def Jm(l:List Int)(n:Int):Int:=if n<0∨(l.length:Int)≤n then 0 else l.getD n.toNat 0
def Qo(w:World)(ad:Option Addr)(ll:List (List Int)):Prop:=ll=[]∨∃b o,ad=some ⟨b,o,none⟩∧b<w.heap.size∧∀(i:Nat)(l:List Int),ll[i]?=some l→∃a c,w.cell? ⟨b,o+i,none⟩=some (.slice a l.length c)∧Je w (Value.int .i64) a l
theorem Qo.keep{w w':World}{g:Option Addr}{j:List (List Int)}(h:Qo w g j)(f:∀b,b<w.heap.size→w'.heap[b]?=w.heap[b]?):Qo w' g j:=by
 rcases h with h|⟨b,o,e,hb,hc⟩
 ·exact .inl h
 exact .inr ⟨b,o,e,Zb ((f b hb).trans (Yl hb)),fun i l hl=>by
 obtain⟨a,c,m,q⟩:=hc i l hl;exact⟨a,c,(Zn (w:=w) (a:=⟨b,o+i,none⟩) (f b hb)).trans m,q.keep f⟩⟩
structure MnR (w:World) (mb:Nat) (ni:Nat) (inl vals:List (List Int)):Prop where
 lt:mb<w.heap.size
 flat0:∃a c,w.cell? ⟨mb,0,none⟩=some (.slice a ni c)
 ins:∃a c,w.cell? ⟨mb,4,none⟩=some (.slice a inl.length c)∧Qo w a inl
 vals:∃a c,w.cell? ⟨mb,5,none⟩=some (.slice a vals.length c)∧Qo w a vals
theorem MnR.keep{w w':World}{mb ni:Nat}{inl vals:List (List Int)}(h:MnR w mb ni inl vals)(f:∀b,b<w.heap.size→w'.heap[b]?=w.heap[b]?):MnR w' mb ni inl vals:=by
 have g:∀o,w'.cell? ⟨mb,o,none⟩=w.cell? ⟨mb,o,none⟩:=fun o=>Zn (w:=w) (a:=⟨mb,o,none⟩) (f mb h.lt)
 obtain⟨j,c0,x⟩:=h.flat0;obtain⟨m,c4,y,A⟩:=h.ins;obtain⟨q,v,z,C⟩:=h.vals;exact⟨Zb ((f mb h.lt).trans (Yl h.lt)),⟨j,c0,(g 0).trans x⟩,⟨m,c4,(g 4).trans y,A.keep f⟩,⟨q,v,(g 5).trans z,C.keep f⟩⟩
def U0(ni:Nat)(inl vals:List (List Int))(i:Nat):List Int:=if ni≤i then vals.getD (i-ni) [] else inl.getD i []
theorem Zd7{w:World}(l:List Int)(j:Option Addr)(cap:Nat)(h:Je w (Value.int .i64) j l)(n:Int) :
  Calls prog 88 #[.slice j l.length cap,.int .i64 n] w fun y w'=>y=.returned (.int .i64 (Jm l n))∧w'=w:=by
 by_cases x:n<0
 ·have e:Jm l n=0:=by unfold Jm;rw[Z0 (.inl x)]
  rw[e];clear e h;go_enter func88,ntmps88;go_wp2;go_ret;exact⟨rfl,rfl⟩
 by_cases m:(l.length:Int)≤n
 ·have e:Jm l n=0:=by unfold Jm;rw[Z0 (.inr m)]
  rw[e];have z:n≥(l.length:Int):=m;clear e h;go_enter func88,ntmps88;go_wp2;go_ret;exact⟨rfl,rfl⟩
 obtain⟨k,rfl⟩:∃k:Nat,n=(k:Int):=⟨n.toNat,oq⟩;have f:k<l.length:=oq;obtain⟨v,g⟩:∃v,l[k]?=some v:=⟨_,Ze f⟩;have e:Jm l (k:Int)=v:=by
  unfold Jm;rw[ZZ oq];simp[List.getD,g]
 rw[e];obtain⟨b,o,rfl,hb,q⟩:=h.resolve_left (fun e=>by rw[e] at f;simp at f);have c0:=q k v g;have A:(0:Int)≤(k:Int):=oq;have C:(k:Int)<(l.length:Int):=oq;clear e q g;go_enter func88,ntmps88;go_wp2;go_ret;exact⟨rfl,rfl⟩
def Zfd(w:World)(l:List Int)(y:Ending):Prop:=∃ad cap,y=.returned (.slice ad l.length cap)∧Je w (Value.int .i64) ad l
theorem qM{w:World}{mb ni:Nat}{inl vals:List (List Int)}(h:MnR w mb ni inl vals)(F:vals.length≤100000)(i:Nat)(hi:i<ni+vals.length) :
  Calls prog 89 #[.pointer (some ⟨mb,0,none⟩),.int .i64 (i:Int)] w fun y w'=>Zfd w (U0 ni inl vals i) y∧w'=w:=by
 obtain⟨L,k0,c0⟩:=h.flat0;obtain⟨M,U,c4,C⟩:=h.ins;obtain⟨O,V,R,D⟩:=h.vals;clear h;by_cases A:ni≤i
 ·have v:i-ni<vals.length:=oq;obtain⟨l,f⟩:∃l,vals[i-ni]?=some l:=⟨_,Ze v⟩;have e:U0 ni inl vals i=l:=by
   unfold U0;rw[Z0 A];simp[List.getD,f]
  rw[e];obtain⟨b,o,rfl,hb,m⟩:=D.resolve_left (fun e=>by rw[e] at v;simp at v);obtain⟨a,c,c1,q⟩:=m _ l f;have x:=hid q;obtain⟨j,z⟩:=ez (i-ni);rw[z] at c1 v;have G:(0:Int)≤(j:Int):=oq;have E:(j:Int)<(vals.length:Int):=oq;have T:(i:Int)-(ni:Int)=(j:Int):=oq;have J:wrap64 (j:Int)=(j:Int):=by unfold wrap64;omega
  have H:(ni:Int)≤(i:Int):=oq;have I:(i:Int)≥(ni:Int):=H;clear m q C e f;go_enter func89,ntmps89;go_wp2;go_ret;exact⟨⟨_,_,rfl,x.out⟩,rfl⟩
 have I:¬(i:Int)≥(ni:Int):=oq;have J:(i:Int)<(ni:Int):=oq;by_cases f:i<inl.length
 ·obtain⟨l,g⟩:∃l,inl[i]?=some l:=⟨_,Ze f⟩;have e:U0 ni inl vals i=l:=by
   unfold U0;rw[ZZ A];simp[List.getD,g]
  rw[e];obtain⟨b,o,rfl,hb,m⟩:=C.resolve_left (fun e=>by rw[e] at f;simp at f);obtain⟨a,c,c1,q⟩:=m _ l g;have x:=hid q;have G:(0:Int)≤(i:Int):=oq;have E:(i:Int)<(inl.length:Int):=oq;clear m q D e g;go_enter func89,ntmps89;go_wp2;go_ret;exact⟨⟨_,_,rfl,x.out⟩,rfl⟩
 have e:U0 ni inl vals i=[]:=by
  unfold U0;rw[ZZ A];simp[List.getD,Ya (show inl.length≤i by omega)]
 rw[e];have E:¬(i:Int)<(inl.length:Int):=oq;clear C D e;go_enter func89,ntmps89;go_wp2;go_ret;exact⟨⟨_,_,rfl,.inl rfl⟩,rfl⟩
def Jw(ni:Nat)(inl vals:List (List Int))(src:Nat)(ops:List (Int × Int × Int))(n:Int):Int :=
 if (index.Xv ops n).2.2=1 then Jm (U0 ni inl vals src) (index.Xv ops n).1 else if (index.Xv ops n).2.2=2 then (index.Xv ops n).2.1 else 0
theorem qN{w:World}{mb ni:Nat}{inl vals:List (List Int)}(h:MnR w mb ni inl vals)(z:vals.length≤100000)(src:Nat)(hi:src<ni+vals.length)(g:List (Int × Int × Int))(A:Option Addr)(F:Nat)(R:g.length≤100000)(D:index.OpA w A g)(n:Int) :
  Calls prog 34 #[.pointer (some ⟨mb,0,none⟩),.agg #[.int .i64 (src:Int),.slice A g.length F],.int .i64 n] w fun y w'=>y=.returned (.int .i64 (Jw ni inl vals src g n))∧Below w.heap.size w w':=by
 have HB:=hid (fun W (hb:Below w.heap.size w W)=>index.Zbq g A F n W oq (D.below hb (Zc _)));have H:=hid (fun W (hb:Below w.heap.size w W)=>qM (w:=W) (h.keep hb.block) z src hi);obtain⟨⟨p,q,k⟩,j⟩:=ez (index.Xv g n);obtain⟨J,f⟩:=ez (Jw ni inl vals src g n);rw[f];unfold Jw at f;rw[j] at f HB;simp only at f;simp only[index.T3i] at HB;have L:=hid h;clear h D j;go_enter func34,ntmps34;go_upto_region 2 with (go_at_call 87;refine(HB.out _ ((Zg _ _).alloc (Zc _) _)).mono ?_;rintro y C ⟨rfl,hb1⟩;have T:C.cell? ⟨w.heap.size,0,none⟩=some (.int .i64 (src:Int)):=(by have x:=(hb1.block w.heap.size (by simp)).trans (Yw w _);simp[World.cell?,x]);have HBW:=hid (show Below w.heap.size w C from((Zg _ _).alloc (Zc _) _).trans (hb1.mono (by simp)));clear hb1)
 by_cases m:k=1
 ·rw[Z0 m] at f;subst m;subst f;go_wp2_with (first|(go_at_call 89;refine(H.out C HBW.out).mono ?_;rintro y U ⟨⟨I,cap,rfl,E⟩,rfl⟩;have G:=hid E;clear E)|(go_at_call 88;refine(Zd7 _ I cap G.out p).mono ?_;rintro y V ⟨rfl,rfl⟩));go_ret;exact⟨rfl,HBW.out⟩
 rw[ZZ m] at f;have M:(k == 1)=false:=ZW.2 m;by_cases v:k=2
 ·rw[Z0 v] at f;subst v;subst f;go_wp2;go_ret;exact⟨rfl,HBW.out⟩
 rw[ZZ v] at f;have O:(k == 2)=false:=ZW.2 v;subst f;go_wp2;go_ret;exact⟨rfl,HBW.out⟩
theorem GC:(prog.info? 2).map (fun i=>(i.zero,i.size,i.bytes))=some (some (.int .i64 0),1,8):=by kernel_rfl
theorem xi{w:World}{l:List (Int × Int × Int)}{g:Option Addr}(h:Row OpR 3 w l g):index.OpA w g l:=by
 intro k f;rcases h with h|⟨b,o,e,hb,hc⟩
 ·rw[h] at f;simp at f
 obtain⟨j,m,q⟩:=hc k f;refine⟨b,o,e,hb,?_⟩;rw[show l.getD k (0,0,0)=l[k] by simp[List.getD,f]];exact⟨j,m,q⟩
structure NE where
 bud:Int
 ps:List ByteArray
 e:PE
def NdE(w:World)(b o:Nat)(n:NE):Prop:=∃(nm:ByteArray)(pa:Option Addr)(pc:Nat)(ad:Option Addr)(cap:Nat)(x:Int),
 w.cell? ⟨b,o,none⟩=some (.string nm)∧w.cell? ⟨b,o+1,none⟩=some (.slice pa n.ps.length pc)∧w.cell? ⟨b,o+2,none⟩=some (.int .i64 n.bud)∧w.cell? ⟨b,o+3,none⟩=some (.int .i64 n.e.k)∧w.cell? ⟨b,o+4,none⟩=some (.string n.e.nm)∧w.cell? ⟨b,o+5,none⟩=some (.int .i64 n.e.n) ∧
 w.cell? ⟨b,o+6,none⟩=some (.int .i64 n.e.d)∧w.cell? ⟨b,o+7,none⟩=some (.slice ad n.e.args.len cap)∧w.cell? ⟨b,o+8,none⟩=some (.int .i64 n.e.a)∧w.cell? ⟨b,o+9,none⟩=some (.int .i64 x) ∧
 Je w Value.string pa n.ps∧n.e.args.len≤cap∧SlA w (fun _=>True) n.e.args ad
theorem uy:Sta NdE:=fun w w' b o n hb hlt h=>by
 obtain⟨nm,pa,pc,ad,cap,x,h0,h1,h2,h3,h4,h5,h6,h7,h8,h9,h10,h11,h12⟩:=h;have hc:=fun o=>hb.cell (p:=⟨b,o,none⟩) hlt
 exact⟨nm,pa,pc,ad,cap,x,(hc _).trans h0,(hc _).trans h1,(hc _).trans h2,(hc _).trans h3,(hc _).trans h4,(hc _).trans h5,(hc _).trans h6,(hc _).trans h7,(hc _).trans h8,(hc _).trans h9,h10.keep hb.block,h11,h12.keep ⟨hb.size,fun k _ hk=>hb.block k hk⟩⟩
structure NE.ok (n:NE):Prop where
 ps:n.ps.length≤1000
 sz:n.e.sz≤1000
 n64:n.e.n64
structure MnN (w:World) (mb:Nat) (nds:List NE):Prop where
 row:∃a c,w.cell? ⟨mb,1,none⟩=some (.slice a nds.length c)∧Row NdE 10 w nds a
 ok:∀n∈nds,n.ok
def QU(ni:Nat)(inl vals:List (List Int))(args:List AD)(n:Int):List Int:=args.map (fun a=>Jw ni inl vals a.src.toNat a.ops n)
def J8(ni:Nat)(inl vals:List (List Int))(nd:NE)(args:List AD)(n:Int):Int:=evE (JE nd.ps (QU ni inl vals args n)) nd.e
structure xB (ni:Nat) (inl vals:List (List Int)) (args:List AD) (n:Int) (i:Nat) (L:List Int):Prop where
 le:i≤args.length
 len:L.length=args.length
 got:∀j,j<i→L[j]?=(QU ni inl vals args n)[j]?
theorem xB.next{ni:Nat}{inl vals:List (List Int)}{args:List AD}{n:Int}{i:Nat}{L:List Int}(h:xB ni inl vals args n i L)(hi:i<args.length):xB ni inl vals args n (i+1) (L.set i (Jw ni inl vals args[i].src.toNat args[i].ops n)):=by
 refine⟨hi,by rw[List.length_set];exact h.len,fun j hj=>?_⟩;by_cases f:j=i
 ·subst f;have:=h.len;rw[List.getElem?_set_self oq];simp[QU,hi]
 rw[List.getElem?_set_ne (fun e=>f e.symm)];exact h.got j oq
theorem xB.all{ni:Nat}{inl vals:List (List Int)}{args:List AD}{n:Int}{L:List Int}(h:xB ni inl vals args n args.length L):L=QU ni inl vals args n:=by
 apply List.ext_getElem?;intro j;by_cases f:j<args.length
 ·exact h.got j f
 have:=h.len;rw[Ya oq,Ya (by simp[QU];omega)]
theorem Va(z:Value)(n:Nat):madeCells #[z] n=(List.replicate n z).toArray:=by rw[←toList_madeCells_one]
theorem ZdY{w:World}{mb ni:Nat}{inl vals:List (List Int)}(h:MnR w mb ni inl vals)(bh:vals.length≤100000){nds:List NE}(hn:MnN w mb nds)(q:Nat)(J:q<nds.length)(c1 c2:Int)(args:List AD)(ta:Option Addr)(tc:Nat)(bc:args.length≤1000)(hA:Row vd 2 w args ta)
  (R:∀a∈args,0≤a.src∧a.src<((ni+vals.length:Nat):Int)∧a.ops.length≤1000)(n:Int)(ag:∀x∈QU ni inl vals args n,B64 x) :
  Calls prog 149 #[.pointer (some ⟨mb,0,none⟩),.agg #[.int .i64 (q:Int),.int .i64 c1,.int .i64 c2,.slice ta args.length tc],.int .i64 n] w fun y w'=>y=.returned (.int .i64 (J8 ni inl vals nds[q] args n))∧Below w.heap.size w w':=by
 have HH:=hid h;have HN:=hid hn;have HA:=hid hA;have ba:=hid R;have au:=hid ag;obtain⟨ev,C⟩:=ez (J8 ni inl vals nds[q] args n);rw[C];have ae:=hid C;clear C;obtain⟨T,hT⟩:=ez args.length;have HT:=hid hT;have bf:=fun W=>run_make_row' (P:=prog) 54 2 (.int .i64 0) 8 underlying54 GC rfl .i64 .i64 T oq oq W
 rw[hT];rw[hT] at bc;clear h hn hA R ag hT;go_enter func149,ntmps149;go_wp2;obtain⟨W,hW⟩:=ez ((w.alloc (.cells #[.int .i64 (q:Int),.int .i64 c1,.int .i64 c2,.slice ta T tc] 53)).alloc (.cells (madeCells #[.int .i64 0] T) 2));have bk:W.heap.size=w.heap.size+2:=by rw[←hW];simp
 have aj:Below w.heap.size w W:=by rw[←hW];exact((Zg _ _).alloc (Zc _) _).alloc (by simp) _
 have ak:W.heap[w.heap.size]?=some (.cells #[.int .i64 (q:Int),.int .i64 c1,.int .i64 c2,.slice ta T tc] 53 (0,0)):=by
  rw[←hW];exact(Za _ _ _ (by simp)).trans (Yw w _)
 have how:W.ownsRow (w.heap.size+1) 2 1 (.slice (some ⟨w.heap.size+1,0,none⟩) T T) T (ints (List.replicate T 0)):=by
  have h:=Yw (w.alloc (.cells #[.int .i64 (q:Int),.int .i64 c1,.int .i64 c2,.slice ta T tc] 53)) (.cells (madeCells #[.int .i64 0] T) 2);rw[Zt,hW,Va] at h;exact⟨by simp[ints],.inr ⟨w.heap.size+1,T,_,rfl,Zc _,h,Zc _,by unfold maxLen;omega,by simp,by simp[ints]⟩⟩
 have z:=hid how;have av:=hid aj;have ay:=hid ak;rw[hW];clear hW aj ak how;go_loopw [17] (fun s17 wr=>Hid (∃i L,s17=.int .i64 ((i:Nat):Int)∧xB ni inl vals args n i L∧wr.ownsRow (w.heap.size+1) 2 1 (.slice (some ⟨w.heap.size+1,0,none⟩) T T) T (ints L)∧But (fun k=>k=w.heap.size+1) W wr)) (fun s _=>T-(intOf s).toNat)
 case atStart=>exact⟨0,List.replicate T 0,rfl,⟨Zk _,by rw[HT.out];simp,fun j hj=>absurd hj (Yj _)⟩,z.out,But.refl _ _⟩
 clear z bf;obtain⟨I,rfl⟩:=ey wr;obtain⟨i,L,rfl,m,H,f⟩:=hrel.out;clear hrel;have g:Below w.heap.size w I:=av.out.trans (f.below oq (fun k e=>oq));have be:=m.le;have ah:=m.len;have ac:=hid m;have z:=hid H;have ax:=hid f;have HBW:=hid g;have hz:=f.size;rw[HT.out] at be ah;by_cases hi:i<T
 ·have E:i<args.length:=by rw[HT.out];exact hi
  obtain⟨b,o,rfl,hb,O⟩:=HA.out.resolve_left (fun e=>by rw[e] at E;simp at E);obtain⟨c0,oa,oc,bb,M⟩:=yq w I b _ _ g hb (O i E);obtain⟨s1,s2,s3⟩:=ba.out args[i] (Zi E);obtain⟨src,ar⟩:∃src:Nat,args[i].src=(src:Int):=⟨args[i].src.toNat,oq⟩;have aq:args[i].src.toNat=src:=oq;obtain⟨v,hv⟩:∃v,Jw ni inl vals src args[i].ops n=v:=⟨_,rfl⟩;have Z:=ac.out.next E;rw[aq,hv] at Z;rw[ar] at c0;have az:=hid Z;have af:=hid (xi M);have X:=hid (fun W' (hb:Below I.heap.size I W')=>qN (w:=W') (mb:=mb) (ni:=ni) (inl:=inl) (vals:=vals) (HH.out.keep (fun b hb2=>(hb.block b (Zd hb2 g.size)).trans (g.block b hb2))) bh src oq args[i].ops oa oc oq (af.out.below hb (Zc _)) n);rw[hv] at X;have i0:(0:Int)≤(i:Int):=oq;have i1:(i:Int)<(T:Int):=oq;obtain⟨ol,ap⟩:=ez (args[i].ops.length);rw[ap] at bb X;clear m H f g O M Z hv aq ar s1 s2 s3 ap;go_wp2_with (go_at_call 34;refine(X.out _ ((Zg _ _).alloc (Zc _) _)).mono ?_;rintro y w6 ⟨rfl,hb6⟩;have Y:Below I.heap.size I w6:=((Zg _ _).alloc (Zc _) _).trans (hb6.mono (by simp));have aw:=hid Y;have V:=hid (own_below z.out Y);have bd:=(World.ownsRow.cellAt V.out i oq).trans (ints_at (l:=L) (i:=i) oq);have bi:=World.ownsRow.frozenAt V.out i;clear hb6 Y);refine⟨hid ⟨i+1,L.set i v,by rw[show((i+1:Nat):Int)=(i:Int)+1 by omega],az.out,?_,ax.out.trans ((But.of_below aw.out).trans (But.set (S:=fun k=>k=w.heap.size+1) rfl _))⟩,?_⟩
  ·have:=V3 V.out i (.int .i64 v) hi
   rwa [ints_set] at this
  show T-((i:Int)+1).toNat<T-(i:Int).toNat;omega
 obtain rfl:i=T:=oq;have bj:¬(i:Int)<(i:Int):=oq;have A:=xB.all (show xB ni inl vals args n args.length L by rw[HT.out];exact ac.out);obtain⟨an,cn,am,ao⟩:=HN.out.row;have n1:=(g.cell (p:=⟨mb,1,none⟩) HH.out.lt).trans am;obtain⟨bn,on,rfl,hbn,F⟩:=ao.resolve_left (fun e=>by rw[e] at J;simp at J);obtain⟨nm,pa,pc,ad,cap,x,m0,m1,m2,m3,m4,m5,m6,m7,m8,m9,aa,D,ab⟩:=uy w I bn _ _ g hbn (F q J);have G:=HN.out.ok _ (Zi J);have al:L.length=i:=ah;have ai:Je I (Value.int .i64) (some ⟨w.heap.size+1,0,none⟩) L:=.inr ⟨w.heap.size+1,0,rfl,oq,fun j y hy=>by
  have hj:=(Zz.1 hy).1;rw[ZC];exact(World.ownsRow.cellAt z.out j oq).trans (by simp[ints,hy])⟩
 obtain⟨N,hN⟩:=ez (nds[q]);have hj:evE (JE N.ps L) N.e=ev:=by
  have h:=ae.out;unfold J8 at h
  rwa [hN,←A] at h
 rw[hN] at m1 m2 m3 m4 m5 m6 m7 m8 aa D ab G;have U:=hid (ZbI (w:=I.drew) nm N.ps pa pc N.bud x N.e ad cap L (some ⟨w.heap.size+1,0,none⟩) i (aa.keep (fun _ _=>rfl)) (ai.keep (fun _ _=>rfl)) (by have:=G.ps;omega) oq D (ab.keep ⟨Zc _,fun _ _ _=>rfl⟩) G.sz G.n64 (by rw[A];exact au.out));rw[al] at U;have hq:=(f.block w.heap.size oq (fun e=>oq)).trans ay.out;have t0:I.cell? ⟨w.heap.size,0,none⟩=some (.int .i64 (q:Int)):=by simp[World.cell?,hq]
 have k0:(0:Int)≤(q:Int):=oq;have k1:(q:Int)<(nds.length:Int):=oq;obtain⟨p0,bg⟩:=ez (on+q*10);rw[bg] at m0 m1 m2 m3 m4 m5 m6 m7 m8 m9;rw[hj] at U;clear m H f am ao F aa D ab G ai hj hN A hq;go_upto_region 7 with fail
 go_region_with (go_at_call 126;refine U.out.mono ?_;rintro y w2 ⟨rfl,hb2⟩;have HB2:=hid hb2;clear hb2)
 all_goals go_wp2
 all_goals go_ret
 all_goals exact⟨rfl,g.drew.trans (HB2.out.mono g.size)⟩
def JC(p f n:Int):Int:=if (1≤p∧p≤2000∧0≤f∧f≤2000)∧0≤n∧n≤1099511627776 then f+n*p else 0
theorem UU(p f n:Int)(w:World):Calls prog 33 #[.agg #[.int .i64 p,.int .i64 f],.int .i64 n] w fun e w'=>e=.returned (.int .i64 (JC p f n))∧Below w.heap.size w w':=by
 unfold JC;by_cases h:(1≤p∧p≤2000∧0≤f∧f≤2000)∧0≤n∧n≤1099511627776
 ·rw[Z0 h];exact clock.Zby p f n w h.1 h.2.1 h.2.2
 rw[ZZ h];exact clock.ZdR p f n w h
def Xy(ni:Nat)(inl:List (List Int))(nds:List NE)(tks:List TD)(date:Int)(vals:List (List Int))(t:Nat):List (List Int):=match tks[t]? with
 | none=>vals
 | some d=>match nds[d.node.toNat]? with
  | none=>vals
  | some nd=>if JC d.per d.ph ((vals.getD t []).length:Int)=date then vals.set t (vals.getD t []++[J8 ni inl vals nd d.args ((vals.getD t []).length:Int)]) else vals
def VL(ni:Nat)(inl:List (List Int))(nds:List NE)(tks:List TD)(order:List Nat)(date:Int)(vals:List (List Int)):List (List Int):=order.foldl (Xy ni inl nds tks date) vals
def Y0(ni:Nat)(inl:List (List Int))(nds:List NE)(tks:List TD)(order:List Nat)(n:Nat):List (List Int):=(List.range n).foldl (fun vals (date:Nat)=>VL ni inl nds tks order (date:Int) vals) (List.replicate tks.length [])
def Pre(a b:List (List Int)):Prop:=a.length=b.length∧∀t,a.getD t [] <+: b.getD t []
theorem Pre.refl(a:List (List Int)):Pre a a:=⟨rfl,fun _=>List.prefix_refl _⟩
theorem Pre.trans{a b c:List (List Int)}(h:Pre a b)(k:Pre b c):Pre a c:=⟨h.1.trans k.1,fun t=>(h.2 t).trans (k.2 t)⟩
theorem Zel(a:List (List Int))(t:Nat)(l:List Int):Pre a (a.set t (a.getD t []++l)):=by
 refine⟨by simp,fun i=>?_⟩;by_cases hi:i=t
 ·subst hi;by_cases f:i<a.length
  ·rw[show(a.set i (a.getD i []++l)).getD i []=a.getD i []++l by simp[List.getD,List.getElem?_set_self f]];exact List.prefix_append _ _
  rw[show a.getD i []=[] by simp[List.getD,Ya (by omega:a.length≤i)]];exact List.nil_prefix
 rw[show(a.set t (a.getD t []++l)).getD i []=a.getD i [] by simp[List.getD,List.getElem?_set_ne (fun e=>hi e.symm)]];exact List.prefix_refl _
theorem jH(ni:Nat)(inl:List (List Int))(nds:List NE)(f:List TD)(date:Int)(vals:List (List Int))(t:Nat):Pre vals (Xy ni inl nds f date vals t):=by
 unfold Xy
 repeat' split
 all_goals first
  | exact Pre.refl _
  | exact Zel _ _ _
theorem jG{α:Type}(g:List (List Int)→α→List (List Int))(hg:∀v x,Pre v (g v x)):∀(l:List α)(v:List (List Int)),Pre v (l.foldl g v)
 | [],v=>Pre.refl v
 | x::l,v=>(hg v x).trans (jG g hg l (g v x))
theorem ZcB(ni:Nat)(inl:List (List Int))(nds:List NE)(tks:List TD)(order:List Nat)(date:Int)(vals:List (List Int)):Pre vals (VL ni inl nds tks order date vals):=jG _ (fun v t=>jH ni inl nds tks date v t) order vals
theorem ZcA(ni:Nat)(inl:List (List Int))(nds:List NE)(f:List TD)(order:List Nat)(n m:Nat):Pre (Y0 ni inl nds f order n) (Y0 ni inl nds f order (n+m)):=by
 induction m with
 | zero=>exact Pre.refl _
 | succ m ih =>
  refine ih.trans ?_;unfold Y0;rw[show n+(m+1)=n+m+1 by omega,Yg,List.foldl_append];exact ZcB _ _ _ _ _ _ _
theorem zT(ni:Nat)(inl:List (List Int))(nds:List NE)(f:List TD)(order:List Nat)(n:Nat):(Y0 ni inl nds f order n).length=f.length:=by
 have:=(ZcA ni inl nds f order 0 n).1;rw[ZC] at this;rw[←this];simp[Y0]
structure StM (wI W0 w:World) (mb vb:Nat) (ai an aT:Option Addr) (ni ci cn:Nat) (nn:Nat) (tks:List TD) (ct:Nat) (ain:Option Addr) (inl:List (List Int)) (cin cv:Nat) (vs:List Value) (vals:List (List Int)):Prop where
 old:Below wI.heap.size wI W0
 but:But (fun k=>k=vb) W0 w
 lo:wI.heap.size≤vb∧wI.heap.size≤mb∧vb≠mb∧vb<W0.heap.size∧mb<W0.heap.size
 c0:W0.cell? ⟨mb,0,none⟩=some (.slice ai ni ci)
 c1:W0.cell? ⟨mb,1,none⟩=some (.slice an nn cn)
 c2:W0.cell? ⟨mb,2,none⟩=some (.slice aT tks.length ct)
 c4:W0.cell? ⟨mb,4,none⟩=some (.slice ain inl.length cin)
 c5:W0.cell? ⟨mb,5,none⟩=some (.slice (some ⟨vb,0,none⟩) vals.length cv)
 row:w.heap[vb]?=some (.cells vs.toArray 54 (0,0))
 fam:Fam w W0.heap.size 2 vs (vals.map ints)
section
variable {wI W0 w:World} {mb vb ni ci cn nn ct cin cv:Nat} {ai an aT ain:Option Addr} {tks:List TD} {inl vals:List (List Int)} {vs:List Value}
theorem StM.low(h:StM wI W0 w mb vb ai an aT ni ci cn nn tks ct ain inl cin cv vs vals):Below wI.heap.size wI w:=by
 obtain⟨f,g,j,m,q⟩:=h.lo;exact h.old.trans (h.but.below h.old.size (fun k e=>oq))
theorem StM.box(h:StM wI W0 w mb vb ai an aT ni ci cn nn tks ct ain inl cin cv vs vals)(o:Nat):w.cell? ⟨mb,o,none⟩=W0.cell? ⟨mb,o,none⟩:=by
 obtain⟨j,m,f,q,g⟩:=h.lo;exact Zn (w:=W0) (a:=⟨mb,o,none⟩) (h.but.block mb g (fun e=>f e.symm))
theorem StM.lens(h:StM wI W0 w mb vb ai an aT ni ci cn nn tks ct ain inl cin cv vs vals):vs.length=vals.length:=by
 have:=h.fam.len;simpa using this
theorem StM.val(h:StM wI W0 w mb vb ai an aT ni ci cn nn tks ct ain inl cin cv vs vals){t:Nat}(ht:t<vals.length):∃a c,vs[t]?=some (.slice a vals[t].length c)∧w.cell? ⟨vb,t,none⟩=some (.slice a vals[t].length c)∧w.ownsRow W0.heap.size 2 1 (.slice a vals[t].length c) vals[t].length (ints vals[t]):=by
 have j:=h.lens;obtain⟨v,g⟩:∃v,vs[t]?=some v:=⟨_,Ze oq⟩;have f:=h.fam.own t v (ints vals[t]) g (by simp[ht]);rw[X1] at f;obtain⟨a,c,rfl⟩:=YG f;refine⟨a,c,g,?_,f⟩;simp[World.cell?,h.row,g]
theorem jC{w:World}{base:Nat}{l:List Int}{a:Option Addr}{c:Nat}(h:w.ownsRow base 2 1 (.slice a l.length c) l.length (ints l)):Je w (Value.int .i64) a l:=by
 have f:=h;rcases h.2 with ⟨_,hn⟩|⟨g,cap,cur,e,hb,hg,_⟩
 ·exact .inl (Yb hn)
 injection e with e1 e2 e3
 subst e1;subst e3;exact .inr ⟨g,0,rfl,Zb hg,fun i x hx=>by
  rw[ZC];exact(World.ownsRow.cellAt f i (by have:=(Zz.1 hx).1;omega)).trans (by simp[ints,hx])⟩
theorem StM.rows(h:StM wI W0 w mb vb ai an aT ni ci cn nn tks ct ain inl cin cv vs vals):Qo w (some ⟨vb,0,none⟩) vals:=by
 refine .inr ⟨vb,0,rfl,Zb h.row,fun i l hl=>?_⟩;obtain⟨hi,rfl⟩:=Zz.1 hl;obtain⟨a,c,_,f,g⟩:=h.val hi;rw[ZC];exact⟨a,c,f,jC g⟩
theorem StM.mnr(h:StM wI W0 w mb vb ai an aT ni ci cn nn tks ct ain inl cin cv vs vals)(f:Qo wI ain inl):MnR w mb ni inl vals:=by
 obtain⟨j,m,q,v,g⟩:=h.lo;exact⟨Zd g h.but.size,⟨_,_,(h.box 0).trans h.c0⟩,⟨_,_,(h.box 4).trans h.c4,f.keep h.low.block⟩,⟨_,_,(h.box 5).trans h.c5,h.rows⟩⟩
theorem StM.mnn(h:StM wI W0 w mb vb ai an aT ni ci cn nn tks ct ain inl cin cv vs vals){nds:List NE}(hn:nds.length=nn)(hr:Row NdE 10 wI nds an)(hok:∀n∈nds,n.ok):MnN w mb nds :=
 ⟨⟨_,_,(h.box 1).trans (by rw[hn];exact h.c1),hr.below uy h.low⟩,hok⟩
end
theorem ZbH{T:ByteArray→Int}(f:∀nm,B64 (T nm))(e:PE)(h:e.n64):B64 (evE T e):=by
 have:=kZ f (.cons e.k e.nm e.n e.d e.args e.a .nil) ⟨h.1,h.2,trivial⟩ 0
 rwa [Vy T _ 0 e rfl] at this
def Bv(m:Nat)(vals:List (List Int)):Prop:=∀l∈vals,l.length≤m∧∀x∈l,B64 x
theorem Bv.set{m:Nat}{vals:List (List Int)}(h:Bv m vals)(t:Nat){v:Int}(q:B64 v):Bv (m+1) (vals.set t (vals.getD t []++[v])):=by
 intro l j;have y:∀l'∈vals,l'.length≤m+1∧∀x∈l',B64 x:=fun l' h'=>⟨by have:=(h l' h').1;omega,(h l' h').2⟩
 rcases List.mem_or_eq_of_mem_set j with h1|h1
 ·exact y l h1
 subst h1;by_cases ht:t<vals.length
 ·have f:vals.getD t []=vals[t]:=by simp[List.getD,ht]
  have g:=h _ (Zi ht);rw[f];refine⟨by simp;exact g.1,fun x hx=>?_⟩;rcases List.mem_append.1 hx with hx|hx
  ·exact g.2 x hx
  rw[List.mem_singleton.1 hx];exact q
 rw[List.set_eq_of_length_le oq] at j;have f:vals.getD t []=[]:=by simp[List.getD,Ya (by omega:vals.length≤t)]
 rw[f];exact⟨by simp,fun x hx=>by simp at hx;rw[hx];exact q⟩
structure Zbi (ni:Nat) (nds:List NE) (tks:List TD):Prop where
 len:tks.length≤1000
 node:∀d∈tks,∃k:Nat,d.node=(k:Int)∧k<nds.length
 args:∀d∈tks,d.args.length≤1000∧∀a∈d.args,0≤a.src∧a.src<((ni+tks.length:Nat):Int)∧a.ops.length≤1000
def eA(tks:List TD):Prop:=∀d∈tks,∀a∈d.args,∀n,B64 (index.Xv a.ops n).2.1
theorem ZfI{l:List Int}(h:∀x∈l,B64 x)(n:Int):B64 (Jm l n):=by
 have f:B64 0:=by unfold B64;omega
 unfold Jm;split
 ·exact f
 rw[Zf]
 cases hg:l[n.toNat]? with
 | none=>exact f
 | some x=>exact h x (Z8 hg)
theorem Zf9{ni:Nat}{inl vals:List (List Int)}{m A:Nat}(v:Bv m inl)(y:Bv A vals)(src:Nat)(g:List (Int × Int × Int))(n:Int)(z:B64 (index.Xv g n).2.1):B64 (Jw ni inl vals src g n):=by
 have q:B64 0:=by unfold B64;omega
 have f:∀x∈([]:List Int),B64 x:=fun x hx=>by cases hx
 have key:∀(j:List (List Int))(M:Nat),Bv M j→∀i,∀x∈j.getD i [],B64 x:=by
  intro j M h i;rw[Zf]
  cases hg:j[i]? with
  | none=>exact f
  | some l=>exact(h l (Z8 hg)).2
 unfold Jw;split
 ·refine ZfI ?_ _;unfold U0;split
  ·exact key _ _ y _
  exact key _ _ v _
 split
 ·exact z
 exact q
theorem yu{ni:Nat}{inl vals:List (List Int)}{m z:Nat}(g:Bv m inl)(j:Bv z vals){f:List TD}(v:eA f){d:TD}(hd:d∈f)(n:Int):∀x∈QU ni inl vals d.args n,B64 x:=by
 intro x y;obtain⟨a,q,rfl⟩:=Yc.1 y;exact Zf9 g j _ _ _ (v d hd a q n)
theorem Zb5{ni:Nat}{inl vals:List (List Int)}{m m':Nat}(h1:Bv m inl)(h2:Bv m' vals){tks:List TD}(hn:eA tks){d:TD}(hd:d∈tks){nd:NE}(ho:nd.ok)(n:Int):B64 (J8 ni inl vals nd d.args n) :=
 ZbH (xv _ (yu h1 h2 hn hd n)) _ ho.n64
theorem Bv.turn{ni:Nat}{inl vals:List (List Int)}{m y:Nat}(q:Bv y inl)(g:Bv m vals){nds:List NE}{f:List TD}(v:eA f)(x:∀n∈nds,n.ok)(date:Int)(t:Nat):Bv (m+1) (Xy ni inl nds f date vals t):=by
 have j:Bv (m+1) vals:=fun l' h'=>⟨by have:=(g l' h').1;omega,(g l' h').2⟩
 unfold Xy
 cases hd:f[t]? with
 | none=>exact j
 | some d =>
  simp only
  cases hk:nds[d.node.toNat]? with
  | none=>exact j
  | some nd =>
   simp only;split
   ·exact g.set t (Zb5 q g v (Z8 hd) (x nd (Z8 hk)) _)
   exact j
end Go.Proofs.YtdgifkjaflfdeaaGreatDoor.syn
