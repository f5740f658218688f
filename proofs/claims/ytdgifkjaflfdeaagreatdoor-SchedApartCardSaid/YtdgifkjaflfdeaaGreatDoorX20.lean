/- Parts of the proof. -/
import Derived.Test.YtdgifkjaflfdeaaGreatDoorX19
set_option linter.all false
set_option maxRecDepth 100000
set_option maxHeartbeats 16000000
namespace Go.Proofs.YtdgifkjaflfdeaaGreatDoor.syn
open Tryz
open Go.RowKit Go.Shelf
variable {W0 w:World}{b:Nat}{j m:Value}{t:TypeId}
theorem Zef(p:PG)(an J I L:OA)(R O M T:Nat)(hp:AP W0 p an J I L R O M T)(A:JW p)(mc mi mf mn mx m:Nat)(U F E V G:List (ByteArray × Value))(hM:Mkr W0 p an J I L R O M T mc mi mf mn mx m U F E V G w)
  (xIx y iIx:IE)(hX:XF G xIx)(Y:XF E y)(Z:XF F iIx)(C:∀k j,xIx k=some j->j<=1000)(N:Nat)(e:PE)(g:ByteArray)(H:OA)(cap:Nat)(hs:Qs W0 e H cap g)(s:Nat)(f:List Op3)(z:XG p.flows p.ins.length xIx y iIx N e g []=some (s,f)) :
  Calls prog 143 #[.pointer (some ⟨m,0,none⟩),spv e H cap g] w fun x w'=>x=.returned (.bool (decide (f.length<=20)))/\Below w.1.size w w':=by
 have HA:=hid (fun(w':World) (hb:Below w.1.size w w')=>zH p an J I L R O M T hp A mc mi mf mn mx m U F E V G (hM.grow hb) xIx y iIx hX Y Z C N e g H cap hs s f z);have D:∀(u0 u1:Value)(w:World),(Instr.field 92 (.agg #[u0,u1]) 1).run prog w=.ok u1 w:=fun u0 u1 w=>by kernel_rfl
 clear hM hp A hX Y Z C hs z;unfold spv at *;go_enter func143,ntmps143;go_wp2_with (go_at_call 148;refine(HA.o _ bq).mono ?_;rintro x w1 ⟨⟨v,rfl,q⟩,hb1⟩;obtain⟨aa,X,rfl⟩:=YC q;clear q);go_ret;refine⟨?_,bq⟩;have h:((f.length:Int)<=20)↔f.length<=20:=oq;simp only[h];rfl
theorem k7{f g j m q v:Value}(h:w.1[b]?=some (.cells #[f,g,j,m,q,v] t (0,0))) :
  (w.cell? ⟨b,0,none⟩=some f/\w.cell? ⟨b,1,none⟩=some g/\w.cell? ⟨b,2,none⟩=some j/\w.cell? ⟨b,3,none⟩=some m/\w.cell? ⟨b,4,none⟩=some q/\w.cell? ⟨b,5,none⟩=some v)/\∀o,w.frozen? ⟨b,o,none⟩=false:=by
 refine⟨⟨?_,?_,?_,?_,?_,?_⟩,?_⟩
 all_goals first|(intro o;simp[World.frozen?,h])|simp[World.cell?,h]
theorem Zfj(h:w.1[b]?=some (.cells #[j,m] t (0,0)))(u0 u1:Value):((w.setCell ⟨b,0,none⟩ u0).setCell ⟨b,1,none⟩ u1).1[b]?=some (.cells #[u0,u1] t (0,0)):=by
 have f:=Zj _ b 0 _ t u0 h;have g:=Zj _ b 1 _ t u1 f;simpa only [sA,sB,sC] using g
def e9(clk:ByteArray->Int × Int)(k:Int)(nm:ByteArray)(n d:Int)(c:Int × Int):Int × Int :=
 if k=1 then clk nm else if k=2 then c else ((clock.YD c.1 c.2 k n d).1,(clock.YD c.1 c.2 k n d).2.1)
def vO(clk:ByteArray->Int × Int):PL->Int × Int
 | .nil=>(0,0)
 | .cons k nm n d args a tl=>e9 clk k nm n d (vO clk args)
def UV(clk:ByteArray->Int × Int)(e:PE):Int × Int:=e9 clk e.k e.nm e.n e.d (vO clk e.args)
def Xt(env:Env)(nm:ByteArray):Int × Int:=(env nm).getD (0,0)
theorem vP(clk:ByteArray->Int × Int){l:PL}{c:PE}(h:l.at 0=some c):vO clk l=UV clk c:=by
 cases l with
 | nil=>cases h
 | cons k nm n d args a tl=>cases h;rfl
theorem qi(p:PG)(an ai af ao:OA)(cn ci cf co:Nat)(mc mi mf mn mx m:Nat)(Lc Li Lf Ln Lx:List (ByteArray × Value))(env:Env)(hC:XW Lc env) :
  ∀(M:Nat)(e:PE),e.args.sz<M->YF e=true->∀(w:World)(ad:OA)(cap:Nat),AE W0 e ad cap->Mkr W0 p an ai af ao cn ci cf co mc mi mf mn mx m Lc Li Lf Ln Lx w ->
   Calls prog 197 #[.pointer (some ⟨m,0,none⟩),ev e ad cap] w fun x w'=>x=.returned (.agg #[.int .i64 (UV (Xt env) e).1,.int .i64 (UV (Xt env) e).2])/\Below w.1.size w w':=by
 intro M
 induction M with
 | zero=>intro e h;omega
 | succ M ih =>
  intro e hM hex w ad cap ag E;have bf:=E.lt;have q:=E.low;have cj:=q.size;obtain⟨⟨z0,z1,z2,z3,z4,z5,z6,z7,z8⟩,zf⟩:=Y1 (show w.1[m]?=_ from E.box);by_cases D:e.k=1
  .obtain⟨c,g⟩:=ez (Xt env e.nm);have aq:UV (Xt env) e=c:=by
    unfold UV e9;rw[Z3 D,g]
   rw[aq];have hg:(Xm e.nm Lc).getD (cvv (0,0))=cvv c:=by
    rw[hC e.nm,<-g];unfold Xt
    cases env e.nm<;>rfl
   clear aq g
   skip
   obtain⟨k,T,n,d,args,a⟩:=e;simp only at D hg;subst D;have HG:=hid hg;have HC:=hid E.c;unfold ev;simp only;clear ih hC ag E hg hex;go_enter func197,ntmps197;go_wp2;obtain⟨j,y⟩:=ez ((w.alloc (.cells #[.int .i64 1,.string T,.int .i64 n,.int .i64 d,.slice ad args.len cap,.int .i64 a] 111)).alloc (.cells #[.int .i64 0,.int .i64 0] 50));rw[y];have G:Below w.1.size w j:=by rw[<-y];exact bq
   have ap:j.1[w.1.size]?=some (.cells #[.int .i64 1,.string T,.int .i64 n,.int .i64 d,.slice ad args.len cap,.int .i64 a] 111 (0,0)):=by rw[<-y];exact(Za _ _ _ (by simp)).trans (Yx w _)
   have hb1:j.1[w.1.size+1]?=some (.cells #[.int .i64 0,.int .i64 0] 50 (0,0)):=by rw[<-y];simpa using Yx (w.alloc (.cells #[.int .i64 1,.string T,.int .i64 n,.int .i64 d,.slice ad args.len cap,.int .i64 a] 111)) (.cells #[.int .i64 0,.int .i64 0] 50)
   have ce:=(G.cell (p:=⟨m,4,none⟩) bf).trans z4;obtain⟨⟨x0,x1,x2,x3,x4,x5⟩,xf⟩:=k7 ap;obtain⟨⟨q0,q1⟩,qf⟩:=YI hb1;have HB:=hid G;have ba:=hid (HC.o.below G);clear y G ap z0 z1 z2 z3 z4 z5 z6 z7 z8 zf;refine wp_region_still_tail 7 kq kq ?_;simp only[List.take_succ_cons,List.take_zero,List.drop_succ_cons,List.drop_zero]
   repeat still_step
   refine Q5 QI _ rfl _ _ false rfl mc Lc T rfl rfl ba.o (cvv c) ?_ ?_
   .exact HG.o
   repeat still_step
   try refine wpStill_nil ?_
   change wpList _ _ _ _ _ j.drew
   unfold cvv;go_wp2;refine Zl (v:=.agg #[.int .i64 c.1,.int .i64 c.2]) ?_ rfl ⟨rfl,?_⟩
   .simp only[results,results197];go_simp
   exact(((HB.o.drew).setCell (p:=⟨w.1.size+1,0,none⟩) (ZY _ 1) _).setCell (p:=⟨w.1.size+1,1,none⟩) (ZY _ 1) _)
  obtain⟨_,ax,ay⟩:=GI hex;have J:0<e.args.len:=by
   by_cases z:e.k=2
   .exact ax z
   rw[ay D z];exact Nat.one_pos
  obtain⟨c,hc,_⟩:=PL.at_some e.args 0 J;have ar:=vP (Xt env) hc;obtain⟨⟨pp,ff⟩,C⟩:=ez (UV (Xt env) e);obtain⟨⟨p1,f1⟩,L⟩:=ez (UV (Xt env) c);have O:(if e.k=2 then p1=pp/\f1=ff else (clock.YD p1 f1 e.k e.n e.d).1=pp/\(clock.YD p1 f1 e.k e.n e.d).2.1=ff):=by
   unfold UV e9 at C;rw[Z2 D,ar,L] at C;by_cases z:e.k=2
   .rw[Z3 z] at C ⊢;injection C with h1 h2
    exact⟨h1,h2⟩
   rw[Z2 z] at C ⊢;injection C with h1 h2
   exact⟨h1,h2⟩
  rw[C];obtain⟨b,o,rfl,hb,am⟩:∃b o,ad=some ⟨b,o,none⟩/\b<W0.1.size/\AC W0 e.args b o:=by
   rcases ag.args with h0|h0
   .rw[h0] at hc;cases hc
   exact h0
  obtain⟨bc,ak,y0,y1,y2,y3,y4,y5,Z⟩:=kT _ am 0 c hc;rw[Nat.zero_mul,Nat.add_zero] at y0 y1 y2 y3 y4 y5;have ae:=ih c (by have:=(K8 _ _ _ hc).2;omega) (VB hex hc);rw[L] at ae;have HC:=hid (fun(w':World) (hb:Below w.1.size w w')=>ae w' bc ak Z (E.grow hb));have be:(0:Int)<(e.args.len:Int):=by have:=(K8 _ _ _ hc).1;omega
  have bz:=hid q;obtain⟨k,T,n,d,args,a⟩:=e;obtain⟨k5,ct,n5,d5,bd,a5⟩:=c;unfold ev at *;simp only at D be O y0 y1 y2 y3 y4 y5 HC ⊢;have ca:(k == 1)=false:=ZZ.2 D;have F:=hid O;have H:b<w.1.size:=oq;have e0:=(q.cell (p:=⟨b,o,none⟩) hb).trans y0;have e1:=(q.cell (p:=⟨b,o+1,none⟩) hb).trans y1;have e2:=(q.cell (p:=⟨b,o+2,none⟩) hb).trans y2;have e3:=(q.cell (p:=⟨b,o+3,none⟩) hb).trans y3;have e4:=(q.cell (p:=⟨b,o+4,none⟩) hb).trans y4;have e5:=(q.cell (p:=⟨b,o+5,none⟩) hb).trans y5;clear ih hC ag E hex am Z ae hc O ar C L ax ay J z0 z1 z2 z3 z4 z5 z6 z7 z8 zf y0 y1 y2 y3 y4 y5 q;by_cases z:k=2
  .subst z;have hr:=F.o;rw[Z3 rfl] at hr;obtain⟨rfl,rfl⟩:=hr;clear F;go_enter func197,ntmps197;go_wp2_with (go_at_call 197;refine(HC.o _ bq).mono ?_;rintro x I ⟨rfl,hb1⟩;obtain⟨cg,ch⟩:=YE hb1;have a1:w.1.size+1<I.1.size:=Yz hb1 (by simp));refine Zl (v:=.agg #[.int .i64 p1,.int .i64 f1]) ?_ rfl ⟨rfl,bq⟩;simp only[results,results197];go_simp
  have cb:(k == 2)=false:=ZZ.2 z;have hr:=F.o;rw[Z2 z] at hr;obtain⟨r1,r2⟩:=hr;have aj:=hid (fun(w':World)=>clock.VZ p1 f1 k n d w');obtain⟨er,au⟩:=ez ((clock.YD p1 f1 k n d).2.2);have aa:clock.yB (clock.YD p1 f1 k n d)=.tuple #[.agg #[.int .i64 pp,.int .i64 ff],.int .i64 er]:=by
   unfold clock.yB clock.Kj;rw[au,r1,r2]
  rw[aa] at aj;have ab:=hid (fun(w':World)=>U6 (w:=w') ⟨k,T,n,d,args,a⟩ (some ⟨b,o,none⟩) cap);unfold ev at ab;simp only at ab;clear F r1 r2 aa au;go_enter func197,ntmps197;go_upto_region 6 with fail
  obtain⟨j,y⟩:∃j,(w.alloc (.cells #[.int .i64 k,.string T,.int .i64 n,.int .i64 d,.slice (some ⟨b,o,none⟩) args.len cap,.int .i64 a] 111)).alloc (.cells #[.int .i64 0,.int .i64 0] 50)=j:=⟨_,rfl⟩;rw[y];have G:Below w.1.size w j:=by rw[<-y];exact bq
  have bg:j.1.size=w.1.size+2:=by rw[<-y];simp
  have av:j.1[w.1.size]?=some (.cells #[.int .i64 k,.string T,.int .i64 n,.int .i64 d,.slice (some ⟨b,o,none⟩) args.len cap,.int .i64 a] 111 (0,0)):=by rw[<-y];exact(Za _ _ _ (by simp)).trans (Yx w _)
  have ah:j.1[w.1.size+1]?=some (.cells #[.int .i64 0,.int .i64 0] 50 (0,0)):=by rw[<-y];simpa using Yx (w.alloc (.cells #[.int .i64 k,.string T,.int .i64 n,.int .i64 d,.slice (some ⟨b,o,none⟩) args.len cap,.int .i64 a] 111)) (.cells #[.int .i64 0,.int .i64 0] 50)
  obtain⟨⟨x0,x1,x2,x3,x4,x5⟩,xf⟩:=k7 av;obtain⟨⟨q0,q1⟩,qf⟩:=YI ah;have g0:=(G.cell (p:=⟨b,o,none⟩) H).trans e0;have g1:=(G.cell (p:=⟨b,o+1,none⟩) H).trans e1;have g2:=(G.cell (p:=⟨b,o+2,none⟩) H).trans e2;have g3:=(G.cell (p:=⟨b,o+3,none⟩) H).trans e3;have g4:=(G.cell (p:=⟨b,o+4,none⟩) H).trans e4;have g5:=(G.cell (p:=⟨b,o+5,none⟩) H).trans e5;have HB:=hid G;have ck:b<j.1.size:=oq;have cl:w.1.size<j.1.size:=oq;have bu:w.1.size+1<j.1.size:=oq;have bb:=hid ah;clear y G av ah e0 e1 e2 e3 e4 e5 bg;have cd:0<args.len:=oq;have cm:b<j.1.size+1:=oq;have cp:w.1.size<j.1.size+1:=oq;have cq:w.1.size<=j.1.size:=oq;have cr:b<=j.1.size:=oq;have cc:¬args.len=0:=oq;go_cut [5] (fun s5 W=>Hid (∃X,s5=.pointer (some ⟨X,0,none⟩)/\j.1.size<=X/\W.1[X]?=some (.cells #[.int .i64 pp,.int .i64 ff] 50 (0,0))/\Below j.1.size j W))
  case first =>
   go_region_law (go_simp;first|(go_at_call 197;refine(HC.o _ bq).mono ?_;rintro x I ⟨rfl,hb1⟩;have bh:j.1.size<=I.1.size:=(by have h:=hb1.size;first|exact h|(simp at h;omega)|omega);have br:b<I.1.size:=oq;have bv:w.1.size<I.1.size:=oq;have bk:=(fun o=>hb1.cell (p:=⟨w.1.size,o,none⟩) (by first|assumption|(simp;done)|(simp;omega)|omega));have bn:=(fun o=>hb1.cell (p:=⟨b,o,none⟩) (by first|assumption|(simp;done)|(simp;omega)|omega));first|(have A:=(hb1.block _ (Zb f)).trans f;clear f;have f:=A;clear A;have g:=YI f;obtain⟨⟨U,V⟩,Y⟩:=g)|(have f:I.1[j.1.size]?=some (.cells #[.int .i64 0,.int .i64 0] 50 (0,0)):=(hb1.block j.1.size (by simp)).trans (Yx j.drew _);have g:=YI f;obtain⟨⟨U,V⟩,Y⟩:=g)|(have f:I.1[R.1.size]?=some (.cells #[.int .i64 0,.int .i64 0] 50 (0,0)):=(hb1.block R.1.size (by simp)).trans (Yx R _);have g:=YI f;obtain⟨⟨U,V⟩,Y⟩:=g)|skip)|(go_at_call 198;refine(ab.o _).mono ?_;rintro x R ⟨rfl,hb3⟩;have bi:j.1.size<=R.1.size:=(by have h:=hb3.size;first|exact h|(simp at h;omega)|omega);have bs:b<R.1.size:=oq;have bw:w.1.size<R.1.size:=oq;have bl:=(fun o=>hb3.cell (p:=⟨w.1.size,o,none⟩) (by first|assumption|(simp;done)|(simp;omega)|omega));have bo:=(fun o=>hb3.cell (p:=⟨b,o,none⟩) (by first|assumption|(simp;done)|(simp;omega)|omega));first|(have A:=(hb3.block _ (Zb f)).trans f;clear f;have f:=A;clear A;have g:=YI f;obtain⟨⟨U,V⟩,Y⟩:=g)|(have f:R.1[j.1.size]?=some (.cells #[.int .i64 0,.int .i64 0] 50 (0,0)):=(hb3.block j.1.size (by simp)).trans (Yx j.drew _);have g:=YI f;obtain⟨⟨U,V⟩,Y⟩:=g)|(have f:R.1[I.1.size]?=some (.cells #[.int .i64 0,.int .i64 0] 50 (0,0)):=(hb3.block I.1.size (by simp)).trans (Yx I _);have g:=YI f;obtain⟨⟨U,V⟩,Y⟩:=g)|skip)|(go_at_call 170;refine(aj.o _).mono ?_;rintro x w4 ⟨rfl,hb4⟩;have bj:j.1.size<=w4.1.size:=(by have h:=hb4.size;first|exact h|(simp at h;omega)|omega);have bt:b<w4.1.size:=oq;have bx:w.1.size<w4.1.size:=oq;have bm:=(fun o=>hb4.cell (p:=⟨w.1.size,o,none⟩) (by first|assumption|(simp;done)|(simp;omega)|omega));have bp:=(fun o=>hb4.cell (p:=⟨b,o,none⟩) (by first|assumption|(simp;done)|(simp;omega)|omega));first|(have A:=(hb4.block _ (Zb f)).trans f;clear f;have f:=A;clear A;have g:=YI f;obtain⟨⟨U,V⟩,Y⟩:=g)|(have f:w4.1[j.1.size]?=some (.cells #[.int .i64 0,.int .i64 0] 50 (0,0)):=(hb4.block j.1.size (by simp)).trans (Yx j.drew _);have g:=YI f;obtain⟨⟨U,V⟩,Y⟩:=g)|(have f:w4.1[I.1.size]?=some (.cells #[.int .i64 0,.int .i64 0] 50 (0,0)):=(hb4.block I.1.size (by simp)).trans (Yx I _);have g:=YI f;obtain⟨⟨U,V⟩,Y⟩:=g)|(have f:w4.1[R.1.size]?=some (.cells #[.int .i64 0,.int .i64 0] 50 (0,0)):=(hb4.block R.1.size (by simp)).trans (Yx R _);have g:=YI f;obtain⟨⟨U,V⟩,Y⟩:=g)|skip))
   all_goals
    go_wp2_with fail;go_meet
    first|exact⟨_,rfl,(by first|exact Zc _|assumption|(simp;done)|omega),Zfj f _ _,bq⟩|exact⟨_,rfl,(by first|exact Zc _|assumption|(simp;done)|omega),Yx _ _,bq⟩
  obtain⟨X,rfl,hX,al,ac⟩:=hcut.o;clear hcut;obtain⟨W3,rfl⟩:=ey wc;obtain⟨⟨r0,r1⟩,rf⟩:=YI al;have aw:=(ac.block _ bu).trans bb.o;clear q0 q1 qf x0 x1 x2 x3 x4 x5 xf g0 g1 g2 g3 g4 g5;obtain⟨⟨q0,q1⟩,qf⟩:=YI aw;have az:=hid (HB.o.trans (ac.mono oq));clear aw al ac;go_wp2;refine Zl (v:=.agg #[.int .i64 pp,.int .i64 ff]) ?_ rfl ⟨rfl,(az.o.setCell (p:=⟨w.1.size+1,0,none⟩) (ZY _ 1) _).setCell (p:=⟨w.1.size+1,1,none⟩) (ZY _ 1) _⟩;simp only[results,results197];go_simp
