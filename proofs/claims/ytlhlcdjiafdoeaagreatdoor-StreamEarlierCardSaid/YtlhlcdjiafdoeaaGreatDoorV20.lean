/- Parts of the proof. -/
import Derived.Test.YtlhlcdjiafdoeaaGreatDoorV19
set_option linter.all false
set_option maxRecDepth 100000
set_option maxHeartbeats 16000000
namespace Go.Proofs.YtlhlcdjiafdoeaaGreatDoor.syn
open Go.RowKit Go.Shelf
theorem eW {W0 w:World} (p:PG) (an ai af ao:Option Addr) (cn ci cf co:Nat) (hp:AP W0 p an ai af ao cn ci cf co) (hok:Jd p) (mc mi mf mn mx m:Nat) (Lc Li Lf Ln Lx:List (ByteArray × Value)) (hM:Mkr W0 p an ai af ao cn ci cf co mc mi mf mn mx m Lc Li Lf Ln Lx w)
  (xIx fIx iIx:IE) (hX:Xf Lx xIx) (hF:Xf Lf fIx) (hI:Xf Li iIx) (hxb:∀k j,xIx k=some j→j≤1000) (N:Nat) (e:PE) (way:ByteArray) (ad:Option Addr) (cap:Nat) (hs:X9 W0 e ad cap way) (s:Nat) (ops:List Op3) (hgo:Xl p.flows p.ins.length xIx fIx iIx N e way []=some (s,ops)) :
  Calls Tryz.prog 80 #[.pointer (some ⟨m,0,none⟩),spv e ad cap way] w fun x w'=>x=.returned (.bool (decide (ops.length≤20)))∧Below w.heap.size w w':=by
 have HA:=hid (fun(w':World) (hb:Below w.heap.size w w')=>GN p an ai af ao cn ci cf co hp hok mc mi mf mn mx m Lc Li Lf Ln Lx (hM.grow hb) xIx fIx iIx hX hF hI hxb N e way ad cap hs s ops hgo)
 have hfield:∀(u0 u1:Value) (w:World),(Instr.field 75 (.agg #[u0,u1]) 1).run Tryz.prog w=.ok u1 w:=fun u0 u1 w=>by kernel_rfl
 clear hM hp hok hX hF hI hxb hs hgo
 unfold spv at *
 go_enter Tryz.func80,Tryz.ntmps80
 go_wp2_with (go_at_call 85;refine(HA.out _ bq).mono ?_;rintro x w1 ⟨⟨v,rfl,hown⟩,hb1⟩;obtain⟨ad3,cap3,rfl⟩:=YD hown;clear hown)
 go_ret
 refine⟨?_,bq⟩
 have h:((ops.length:Int)≤20)↔ops.length≤20:=oq
 simp only[h]
 rfl
theorem jq {w:World} {b:Nat} {v0 v1 v2 v3 v4 v5:Value} {t:TypeId} (h:w.heap[b]?=some (.cells #[v0,v1,v2,v3,v4,v5] t (0,0))) :
  (w.cell? ⟨b,0,none⟩=some v0∧w.cell? ⟨b,1,none⟩=some v1∧w.cell? ⟨b,2,none⟩=some v2∧w.cell? ⟨b,3,none⟩=some v3∧w.cell? ⟨b,4,none⟩=some v4∧w.cell? ⟨b,5,none⟩=some v5)∧∀o,w.frozen? ⟨b,o,none⟩=false:=by
 refine⟨⟨?_,?_,?_,?_,?_,?_⟩,?_⟩
 all_goals first|(intro o;simp[World.frozen?,h])|simp[World.cell?,h]
def Zbc (env:Env) (e:PE):Prop:=∀x∈e::Xo e.args,okE env x=true
theorem yb:∀(l:PL) (i:Nat) (c:PE),l.at i=some c→∀x∈c::Xo c.args,x∈Xo l
 | .cons k nm n d args a tl,0,c,h,x,hx=>by
  injection h with h
  subst h
  simp only[Xo,ZQ,List.mem_append] at hx ⊢
  rcases hx with hx|hx
  ·exact .inl hx
  exact .inr (.inl hx)
 | .cons k nm n d args a tl,i+1,c,h,x,hx=>by
  have:=yb tl i c h x hx
  simp only[Xo,ZQ,List.mem_append]
  exact .inr (.inr this)
theorem Zbc.child {env:Env} {e c:PE} {i:Nat} (h:Zbc env e) (hc:e.args.at i=some c):Zbc env c:=fun x hx=>h x (List.mem_cons_of_mem _ (yb _ _ _ hc x hx))
theorem Za0 {w:World} {b:Nat} {v0 v1:Value} {t:TypeId} (h:w.heap[b]?=some (.cells #[v0,v1] t (0,0))) (u0 u1:Value):((w.setCell ⟨b,0,none⟩ u0).setCell ⟨b,1,none⟩ u1).heap[b]?=some (.cells #[u0,u1] t (0,0)):=by
 have h0:=Zj _ b 0 _ t u0 h
 have h1:=Zj _ b 1 _ t u1 h0
 simpa only [sA,sB,sC] using h1
def eR (clk:ByteArray→Int × Int) (k:Int) (nm:ByteArray) (n d:Int) (c:Int × Int):Int × Int :=
 if k=1 then clk nm else if k=2 then c else ((clock.YC c.1 c.2 k n d).1,(clock.YC c.1 c.2 k n d).2.1)
def Zbk (clk:ByteArray→Int × Int):PL→Int × Int
 | .nil=>(0,0)
 | .cons k nm n d args a tl=>eR clk k nm n d (Zbk clk args)
def UX (clk:ByteArray→Int × Int) (e:PE):Int × Int:=eR clk e.k e.nm e.n e.d (Zbk clk e.args)
def Qk (env:Env) (nm:ByteArray):Int × Int:=(env nm).getD (0,0)
theorem xS (clk:ByteArray→Int × Int) {l:PL} {c:PE} (h:l.at 0=some c):Zbk clk l=UX clk c:=by
 cases l with
 | nil=>cases h
 | cons k nm n d args a tl=>cases h;rfl
theorem zK {W0:World} (p:PG) (an ai af ao:Option Addr) (cn ci cf co:Nat) (mc mi mf mn mx m:Nat) (Lc Li Lf Ln Lx:List (ByteArray × Value)) (env:Env) (hC:Xt Lc env) :
  ∀(M:Nat) (e:PE),e.args.sz<M→YF e=true→∀(w:World) (ad:Option Addr) (cap:Nat),AE W0 e ad cap→Mkr W0 p an ai af ao cn ci cf co mc mi mf mn mx m Lc Li Lf Ln Lx w →
   Calls Tryz.prog 121 #[.pointer (some ⟨m,0,none⟩),ev e ad cap] w fun x w'=>x=.returned (.agg #[.int .i64 (UX (Qk env) e).1,.int .i64 (UX (Qk env) e).2])∧Below w.heap.size w w':=by
 intro M
 induction M with
 | zero=>intro e h;omega
 | succ M ih =>
  intro e hM hex w ad cap hae hmk
  have hlm:=hmk.lt
  have hlow:=hmk.low
  have hw0:=hlow.size
  obtain⟨⟨z0,z1,z2,z3,z4,z5,z6,z7,z8⟩,zf⟩:=YN (show w.heap[m]?=_ from hmk.box)
  by_cases hk1:e.k=1
  ·obtain⟨c,hcc⟩:∃c,Qk env e.nm=c:=⟨_,rfl⟩
   have hce:UX (Qk env) e=c:=by
    unfold UX eR
    rw[Z0 hk1,hcc]
   rw[hce]
   have hg:(YT e.nm Lc).getD (cvv (0,0))=cvv c:=by
    rw[hC e.nm,←hcc]
    unfold Qk
    cases env e.nm<;>rfl
   clear hce hcc
   skip
   obtain⟨k,nm,n,d,args,a⟩:=e
   simp only at hk1 hg
   subst hk1
   have HG:=hid hg
   have HC:=hid hmk.c
   unfold ev
   simp only
   clear ih hC hae hmk hg hex
   go_enter Tryz.func121,Tryz.ntmps121
   go_wp2
   obtain⟨W2,hW2⟩:∃W2,(w.alloc (.cells #[.int .i64 1,.string nm,.int .i64 n,.int .i64 d,.slice ad args.len cap,.int .i64 a] 92)).alloc (.cells #[.int .i64 0,.int .i64 0] 50)=W2:=⟨_,rfl⟩
   rw[hW2]
   have hB:Below w.heap.size w W2:=by rw[←hW2];exact bq
   have hb0:W2.heap[w.heap.size]?=some (.cells #[.int .i64 1,.string nm,.int .i64 n,.int .i64 d,.slice ad args.len cap,.int .i64 a] 92 (0,0)):=by rw[←hW2];exact(Za _ _ _ (by simp)).trans (Yt w _)
   have hb1:W2.heap[w.heap.size+1]?=some (.cells #[.int .i64 0,.int .i64 0] 50 (0,0)):=by rw[←hW2];simpa using Yt (w.alloc (.cells #[.int .i64 1,.string nm,.int .i64 n,.int .i64 d,.slice ad args.len cap,.int .i64 a] 92)) (.cells #[.int .i64 0,.int .i64 0] 50)
   have hbm:=(hB.cell (p:=⟨m,4,none⟩) hlm).trans z4
   obtain⟨⟨x0,x1,x2,x3,x4,x5⟩,xf⟩:=jq hb0
   obtain⟨⟨q0,q1⟩,qf⟩:=YG hb1
   have HB:=hid hB
   have HC2:=hid (HC.out.below hB)
   clear hW2 hB hb0 z0 z1 z2 z3 z4 z5 z6 z7 z8 zf
   refine wp_region_still_tail 7 kq kq ?_
   simp only[List.take_succ_cons,List.take_zero,List.drop_succ_cons,List.drop_zero]
   repeat still_step
   refine QD Qo _ rfl _ _ false rfl mc Lc nm rfl rfl HC2.out (cvv c) ?_ ?_
   ·exact HG.out
   repeat still_step
   try refine wpStill_nil ?_
   change wpList _ _ _ _ _ W2.drew
   unfold cvv
   go_wp2
   refine Zl (v:=.agg #[.int .i64 c.1,.int .i64 c.2]) ?_ rfl ⟨rfl,?_⟩
   ·simp only[results,Tryz.results121];go_simp
   exact(((HB.out.drew).setCell (p:=⟨w.heap.size+1,0,none⟩) (ZV _ 1) _).setCell (p:=⟨w.heap.size+1,1,none⟩) (ZV _ 1) _)
  obtain⟨_,hx2,hx3⟩:=U9 hex
  have hlen1:0<e.args.len:=by
   by_cases hk2:e.k=2
   ·exact hx2 hk2
   rw[hx3 hk1 hk2];exact Nat.one_pos
  obtain⟨c,hc,_⟩:=PL.at_some e.args 0 hlen1
  have hcf:=xS (Qk env) hc
  obtain⟨⟨pp,ff⟩,hpf⟩:∃r,UX (Qk env) e=r:=⟨_,rfl⟩
  obtain⟨⟨p1,f1⟩,hpf1⟩:∃r,UX (Qk env) c=r:=⟨_,rfl⟩
  have hres:(if e.k=2 then p1=pp∧f1=ff else (clock.YC p1 f1 e.k e.n e.d).1=pp∧(clock.YC p1 f1 e.k e.n e.d).2.1=ff):=by
   unfold UX eR at hpf
   rw[ZZ hk1,hcf,hpf1] at hpf
   by_cases hk2:e.k=2
   ·rw[Z0 hk2] at hpf ⊢
    injection hpf with h1 h2
    exact⟨h1,h2⟩
   rw[ZZ hk2] at hpf ⊢
   injection hpf with h1 h2
   exact⟨h1,h2⟩
  rw[hpf]
  obtain⟨b,o,rfl,hb,hac⟩:∃b o,ad=some ⟨b,o,none⟩∧b<W0.heap.size∧AC W0 e.args b o:=by
   rcases hae.args with h0|h0
   ·rw[h0] at hc;cases hc
   exact h0
  obtain⟨ad2,cap2,y0,y1,y2,y3,y4,y5,hae2⟩:=jj _ hac 0 c hc
  rw[Nat.zero_mul,Nat.add_zero] at y0 y1 y2 y3 y4 y5
  have hHC:=ih c (by have:=(UJ _ _ _ hc).2;omega) (JO hex hc)
  rw[hpf1] at hHC
  have HC:=hid (fun(w':World) (hb:Below w.heap.size w w')=>hHC w' ad2 cap2 hae2 (hmk.grow hb))
  have hl0:(0:Int)<(e.args.len:Int):=by have:=(UJ _ _ _ hc).1;omega
  have HLOW:=hid hlow
  obtain⟨k,nm,n,d,args,a⟩:=e
  obtain⟨k5,nm5,n5,d5,args5,a5⟩:=c
  unfold ev at *
  simp only at hk1 hl0 hres y0 y1 y2 y3 y4 y5 HC ⊢
  have hk1':(k == 1)=false:=ZW.2 hk1
  have HRES:=hid hres
  have hbw:b<w.heap.size:=oq
  have e0:=(hlow.cell (p:=⟨b,o,none⟩) hb).trans y0
  have e1:=(hlow.cell (p:=⟨b,o+1,none⟩) hb).trans y1
  have e2:=(hlow.cell (p:=⟨b,o+2,none⟩) hb).trans y2
  have e3:=(hlow.cell (p:=⟨b,o+3,none⟩) hb).trans y3
  have e4:=(hlow.cell (p:=⟨b,o+4,none⟩) hb).trans y4
  have e5:=(hlow.cell (p:=⟨b,o+5,none⟩) hb).trans y5
  clear ih hC hae hmk hex hac hae2 hHC hc hres hcf hpf hpf1 hx2 hx3 hlen1 z0 z1 z2 z3 z4 z5 z6 z7 z8 zf y0 y1 y2 y3 y4 y5 hlow
  by_cases hk2:k=2
  ·subst hk2
   have hr:=HRES.out
   rw[Z0 rfl] at hr
   obtain⟨rfl,rfl⟩:=hr
   clear HRES
   go_enter Tryz.func121,Tryz.ntmps121
   go_wp2_with (go_at_call 121;refine(HC.out _ bq).mono ?_;rintro x w1 ⟨rfl,hb1⟩;obtain⟨hc1,hf1⟩:=Yx hb1;have a1:w.heap.size+1<w1.heap.size:=Yv hb1 (by simp))
   refine Zl (v:=.agg #[.int .i64 p1,.int .i64 f1]) ?_ rfl ⟨rfl,bq⟩
   simp only[results,Tryz.results121];go_simp
  have hk2':(k == 2)=false:=ZW.2 hk2
  have hr:=HRES.out
  rw[ZZ hk2] at hr
  obtain⟨r1,r2⟩:=hr
  have HAP:=hid (fun(w':World)=>clock.Uo p1 f1 k n d w')
  obtain⟨er,her⟩:∃er,(clock.YC p1 f1 k n d).2.2=er:=⟨_,rfl⟩
  have hans:clock.zy (clock.YC p1 f1 k n d)=.tuple #[.agg #[.int .i64 pp,.int .i64 ff],.int .i64 er]:=by
   unfold clock.zy clock.UW
   rw[her,r1,r2]
  rw[hans] at HAP
  have HOP:=hid (fun(w':World)=>Uc (w:=w') ⟨k,nm,n,d,args,a⟩ (some ⟨b,o,none⟩) cap)
  unfold ev at HOP
  simp only at HOP
  clear HRES r1 r2 hans her
  go_enter Tryz.func121,Tryz.ntmps121
  go_upto_region 6 with fail
  obtain⟨W2,hW2⟩:∃W2,(w.alloc (.cells #[.int .i64 k,.string nm,.int .i64 n,.int .i64 d,.slice (some ⟨b,o,none⟩) args.len cap,.int .i64 a] 92)).alloc (.cells #[.int .i64 0,.int .i64 0] 50)=W2:=⟨_,rfl⟩
  rw[hW2]
  have hB:Below w.heap.size w W2:=by rw[←hW2];exact bq
  have hs2:W2.heap.size=w.heap.size+2:=by rw[←hW2];simp
  have hq0:W2.heap[w.heap.size]?=some (.cells #[.int .i64 k,.string nm,.int .i64 n,.int .i64 d,.slice (some ⟨b,o,none⟩) args.len cap,.int .i64 a] 92 (0,0)):=by rw[←hW2];exact(Za _ _ _ (by simp)).trans (Yt w _)
  have hq1:W2.heap[w.heap.size+1]?=some (.cells #[.int .i64 0,.int .i64 0] 50 (0,0)):=by rw[←hW2];simpa using Yt (w.alloc (.cells #[.int .i64 k,.string nm,.int .i64 n,.int .i64 d,.slice (some ⟨b,o,none⟩) args.len cap,.int .i64 a] 92)) (.cells #[.int .i64 0,.int .i64 0] 50)
  obtain⟨⟨x0,x1,x2,x3,x4,x5⟩,xf⟩:=jq hq0
  obtain⟨⟨q0,q1⟩,qf⟩:=YG hq1
  have g0:=(hB.cell (p:=⟨b,o,none⟩) hbw).trans e0
  have g1:=(hB.cell (p:=⟨b,o+1,none⟩) hbw).trans e1
  have g2:=(hB.cell (p:=⟨b,o+2,none⟩) hbw).trans e2
  have g3:=(hB.cell (p:=⟨b,o+3,none⟩) hbw).trans e3
  have g4:=(hB.cell (p:=⟨b,o+4,none⟩) hbw).trans e4
  have g5:=(hB.cell (p:=⟨b,o+5,none⟩) hbw).trans e5
  have HB:=hid hB
  have lb0:b<W2.heap.size:=oq
  have lb1:w.heap.size<W2.heap.size:=oq
  have lb2:w.heap.size+1<W2.heap.size:=oq
  have HQ1:=hid hq1
  clear hW2 hB hq0 hq1 e0 e1 e2 e3 e4 e5 hs2
  have hl0n:0<args.len:=oq
  have lb3:b<W2.heap.size+1:=oq
  have lb4:w.heap.size<W2.heap.size+1:=oq
  have lb5:w.heap.size≤W2.heap.size:=oq
  have lb6:b≤W2.heap.size:=oq
  have hl0m:¬args.len=0:=oq
  go_cut [5] (fun s5 W=>Hid (∃X,s5=.pointer (some ⟨X,0,none⟩)∧W2.heap.size≤X∧W.heap[X]?=some (.cells #[.int .i64 pp,.int .i64 ff] 50 (0,0))∧Below W2.heap.size W2 W))
  case first =>
   go_region_law (go_simp;first|(go_at_call 121;refine(HC.out _ bq).mono ?_;rintro x w1 ⟨rfl,hb1⟩;have hz_w1:W2.heap.size≤w1.heap.size:=(by have h:=hb1.size;first|exact h|(simp at h;omega)|omega);have la_w1:b<w1.heap.size:=oq;have lb_w1:w.heap.size<w1.heap.size:=oq;have kx_w1:=(fun o=>hb1.cell (p:=⟨w.heap.size,o,none⟩) (by first|assumption|(simp;done)|(simp;omega)|omega));have ky_w1:=(fun o=>hb1.cell (p:=⟨b,o,none⟩) (by first|assumption|(simp;done)|(simp;omega)|omega));first|(have hcb:=(hb1.block _ (Zb hca)).trans hca;clear hca;have hca:=hcb;clear hcb;have hcc:=YG hca;obtain⟨⟨v0,v1⟩,vf⟩:=hcc)|(have hca:w1.heap[W2.heap.size]?=some (.cells #[.int .i64 0,.int .i64 0] 50 (0,0)):=(hb1.block W2.heap.size (by simp)).trans (Yt W2.drew _);have hcc:=YG hca;obtain⟨⟨v0,v1⟩,vf⟩:=hcc)|(have hca:w1.heap[w3.heap.size]?=some (.cells #[.int .i64 0,.int .i64 0] 50 (0,0)):=(hb1.block w3.heap.size (by simp)).trans (Yt w3 _);have hcc:=YG hca;obtain⟨⟨v0,v1⟩,vf⟩:=hcc)|skip)|(go_at_call 122;refine(HOP.out _).mono ?_;rintro x w3 ⟨rfl,hb3⟩;have hz_w3:W2.heap.size≤w3.heap.size:=(by have h:=hb3.size;first|exact h|(simp at h;omega)|omega);have la_w3:b<w3.heap.size:=oq;have lb_w3:w.heap.size<w3.heap.size:=oq;have kx_w3:=(fun o=>hb3.cell (p:=⟨w.heap.size,o,none⟩) (by first|assumption|(simp;done)|(simp;omega)|omega));have ky_w3:=(fun o=>hb3.cell (p:=⟨b,o,none⟩) (by first|assumption|(simp;done)|(simp;omega)|omega));first|(have hcb:=(hb3.block _ (Zb hca)).trans hca;clear hca;have hca:=hcb;clear hcb;have hcc:=YG hca;obtain⟨⟨v0,v1⟩,vf⟩:=hcc)|(have hca:w3.heap[W2.heap.size]?=some (.cells #[.int .i64 0,.int .i64 0] 50 (0,0)):=(hb3.block W2.heap.size (by simp)).trans (Yt W2.drew _);have hcc:=YG hca;obtain⟨⟨v0,v1⟩,vf⟩:=hcc)|(have hca:w3.heap[w1.heap.size]?=some (.cells #[.int .i64 0,.int .i64 0] 50 (0,0)):=(hb3.block w1.heap.size (by simp)).trans (Yt w1 _);have hcc:=YG hca;obtain⟨⟨v0,v1⟩,vf⟩:=hcc)|skip)|(go_at_call 113;refine(HAP.out _).mono ?_;rintro x w4 ⟨rfl,hb4⟩;have hz_w4:W2.heap.size≤w4.heap.size:=(by have h:=hb4.size;first|exact h|(simp at h;omega)|omega);have la_w4:b<w4.heap.size:=oq;have lb_w4:w.heap.size<w4.heap.size:=oq;have kx_w4:=(fun o=>hb4.cell (p:=⟨w.heap.size,o,none⟩) (by first|assumption|(simp;done)|(simp;omega)|omega));have ky_w4:=(fun o=>hb4.cell (p:=⟨b,o,none⟩) (by first|assumption|(simp;done)|(simp;omega)|omega));first|(have hcb:=(hb4.block _ (Zb hca)).trans hca;clear hca;have hca:=hcb;clear hcb;have hcc:=YG hca;obtain⟨⟨v0,v1⟩,vf⟩:=hcc)|(have hca:w4.heap[W2.heap.size]?=some (.cells #[.int .i64 0,.int .i64 0] 50 (0,0)):=(hb4.block W2.heap.size (by simp)).trans (Yt W2.drew _);have hcc:=YG hca;obtain⟨⟨v0,v1⟩,vf⟩:=hcc)|(have hca:w4.heap[w1.heap.size]?=some (.cells #[.int .i64 0,.int .i64 0] 50 (0,0)):=(hb4.block w1.heap.size (by simp)).trans (Yt w1 _);have hcc:=YG hca;obtain⟨⟨v0,v1⟩,vf⟩:=hcc)|(have hca:w4.heap[w3.heap.size]?=some (.cells #[.int .i64 0,.int .i64 0] 50 (0,0)):=(hb4.block w3.heap.size (by simp)).trans (Yt w3 _);have hcc:=YG hca;obtain⟨⟨v0,v1⟩,vf⟩:=hcc)|skip))
   all_goals
    go_wp2_with fail
    go_meet
    first|exact⟨_,rfl,(by first|exact Zc _|assumption|(simp;done)|omega),Za0 hca _ _,bq⟩|exact⟨_,rfl,(by first|exact Zc _|assumption|(simp;done)|omega),Yt _ _,bq⟩
  obtain⟨X,rfl,hX,hXb,hBX⟩:=hcut.out
  clear hcut
  obtain⟨W3,rfl⟩:∃W3:World,W3=wc:=⟨_,rfl⟩
  obtain⟨⟨r0,r1⟩,rf⟩:=YG hXb
  have hq3:=(hBX.block _ lb2).trans HQ1.out
  clear q0 q1 qf x0 x1 x2 x3 x4 x5 xf g0 g1 g2 g3 g4 g5
  obtain⟨⟨q0,q1⟩,qf⟩:=YG hq3
  have HBX:=hid (HB.out.trans (hBX.mono oq))
  clear hq3 hXb hBX
  go_wp2
  refine Zl (v:=.agg #[.int .i64 pp,.int .i64 ff]) ?_ rfl ⟨rfl,(HBX.out.setCell (p:=⟨w.heap.size+1,0,none⟩) (ZV _ 1) _).setCell (p:=⟨w.heap.size+1,1,none⟩) (ZV _ 1) _⟩
  simp only[results,Tryz.results121];go_simp
end Go.Proofs.YtlhlcdjiafdoeaaGreatDoor.syn
