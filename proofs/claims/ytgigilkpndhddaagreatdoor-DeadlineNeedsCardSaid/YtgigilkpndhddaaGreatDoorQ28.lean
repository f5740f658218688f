/-
  Parts of the proof: Flt12, Rgt1, Rgt2, Rgt3.
-/
import Derived.Deep.CutBlock
import Derived.Deep.DeepCutAuto
import Derived.Deep.QuietTactic
import Derived.Deep.RegionHeld3
import Derived.Test.YtgigilkpndhddaaGreatDoorQ01
import Derived.Test.YtgigilkpndhddaaGreatDoorQ05
import Derived.Test.YtgigilkpndhddaaGreatDoorQ09
import Derived.Test.YtgigilkpndhddaaGreatDoorQ27
namespace Go.Proofs.YtgigilkpndhddaaGreatDoor.syn
set_option linter.unusedVariables false
set_option linter.unusedSimpArgs false
set_option linter.unnecessarySimpa false
set_option maxRecDepth 100000
set_option maxHeartbeats 16000000
open Go.RowKit Go.Shelf
theorem Zaw {W0 w:World} (p:PG) (an ai af ao:Option Addr) (cn ci cf co:Nat) (hp:AP W0 p an ai af ao cn ci cf co) (hok:Jy p) (mc mi mf mn mx m:Nat) (Lc Li Lf Ln Lx:List (ByteArray × Value)) (hM:Mkr W0 p an ai af ao cn ci cf co mc mi mf mn mx m Lc Li Lf Ln Lx w)
  (xIx fIx iIx:IE) (hX:Xh Lx xIx) (hF:Xh Lf fIx) (hI:Xh Li iIx) (hxb:∀k j,xIx k=some j→j≤1000) (N:Nat) (e:PE) (way:ByteArray) (ad:Option Addr) (cap:Nat) (hs:Qe W0 e ad cap way) (s:Nat) (ops:List Op3) (hgo:Xw p.flows p.ins.length xIx fIx iIx N e way []=some (s,ops)) :
  Calls Tryz.prog 99 #[.pointer (some ⟨m,0,none⟩),spv e ad cap way] w fun x w'=>x=.returned (.bool (decide (ops.length≤20)))∧Below w.heap.size w w':=by
 have HA:=hid (fun(w':World) (hb:Below w.heap.size w w')=>EB p an ai af ao cn ci cf co hp hok mc mi mf mn mx m Lc Li Lf Ln Lx (hM.grow hb) xIx fIx iIx hX hF hI hxb N e way ad cap hs s ops hgo)
 have hfield:∀(u0 u1:Value) (w:World),(Instr.field 69 (.agg #[u0,u1]) 1).run Tryz.prog w=.ok u1 w:=fun u0 u1 w=>by kernel_rfl
 clear hM hp hok hX hF hI hxb hs hgo
 unfold spv at *
 go_enter Tryz.func99,Tryz.ntmps99
 go_wp2_with (go_at_call 104;refine(HA.out _ bq).mono ?_;rintro x w1 ⟨⟨v,rfl,hown⟩,hb1⟩;obtain⟨ad3,cap3,rfl⟩:=Yy hown;clear hown)
 go_ret
 refine⟨?_,bq⟩
 have h:((ops.length:Int)≤20)↔ops.length≤20:=oq
 simp only[h]
 rfl
theorem vb {w:World} {b:Nat} {v0 v1 v2 v3 v4 v5:Value} {t:TypeId} (h:w.heap[b]?=some (.cells #[v0,v1,v2,v3,v4,v5] t (0,0))) :
  (w.cell? ⟨b,0,none⟩=some v0∧w.cell? ⟨b,1,none⟩=some v1∧w.cell? ⟨b,2,none⟩=some v2∧w.cell? ⟨b,3,none⟩=some v3∧w.cell? ⟨b,4,none⟩=some v4∧w.cell? ⟨b,5,none⟩=some v5)∧∀o,w.frozen? ⟨b,o,none⟩=false:=by
 refine⟨⟨?_,?_,?_,?_,?_,?_⟩,?_⟩
 all_goals first|(intro o;simp[World.frozen?,h])|simp[World.cell?,h]
def ZcD (env:Env) (e:PE):Prop:=∀x∈e::Xt e.args,okE env x=true
theorem xN:∀(l:PL) (i:Nat) (c:PE),l.at i=some c→∀x∈c::Xt c.args,x∈Xt l
 | .cons k nm n d args a tl,0,c,h,x,hx=>by
  injection h with h
  subst h
  simp only[Xt,ZR,List.mem_append] at hx ⊢
  rcases hx with hx|hx
  ·exact .inl hx
  exact .inr (.inl hx)
 | .cons k nm n d args a tl,i+1,c,h,x,hx=>by
  have:=xN tl i c h x hx
  simp only[Xt,ZR,List.mem_append]
  exact .inr (.inr this)
theorem ZcD.child {env:Env} {e c:PE} {i:Nat} (h:ZcD env e) (hc:e.args.at i=some c):ZcD env c:=fun x hx=>h x (List.mem_cons_of_mem _ (xN _ _ _ hc x hx))
theorem ZbE {w:World} {b:Nat} {v0 v1:Value} {t:TypeId} (h:w.heap[b]?=some (.cells #[v0,v1] t (0,0))) (u0 u1:Value):((w.setCell ⟨b,0,none⟩ u0).setCell ⟨b,1,none⟩ u1).heap[b]?=some (.cells #[u0,u1] t (0,0)):=by
 have h0:=Zj _ b 0 _ t u0 h
 have h1:=Zj _ b 1 _ t u1 h0
 simpa only [sA,sB,sC] using h1
def Zam (clk:ByteArray→Int × Int) (k:Int) (nm:ByteArray) (n d:Int) (c:Int × Int):Int × Int :=
 if k=1 then clk nm else if k=2 then c else ((clock.Yx c.1 c.2 k n d).1,(clock.Yx c.1 c.2 k n d).2.1)
def Zb1 (clk:ByteArray→Int × Int):PL→Int × Int
 | .nil=>(0,0)
 | .cons k nm n d args a tl=>Zam clk k nm n d (Zb1 clk args)
def Kf (clk:ByteArray→Int × Int) (e:PE):Int × Int:=Zam clk e.k e.nm e.n e.d (Zb1 clk e.args)
def Qj (env:Env) (nm:ByteArray):Int × Int:=(env nm).getD (0,0)
theorem qa (clk:ByteArray→Int × Int) {l:PL} {c:PE} (h:l.at 0=some c):Zb1 clk l=Kf clk c:=by
 cases l with
 | nil=>cases h
 | cons k nm n d args a tl=>cases h;rfl
theorem yM {W0:World} (p:PG) (an ai af ao:Option Addr) (cn ci cf co:Nat) (mc mi mf mn mx m:Nat) (Lc Li Lf Ln Lx:List (ByteArray × Value)) (env:Env) (hC:Xy Lc env) :
  ∀(M:Nat) (e:PE),e.args.sz<M→YE e=true→∀(w:World) (ad:Option Addr) (cap:Nat),AE W0 e ad cap→Mkr W0 p an ai af ao cn ci cf co mc mi mf mn mx m Lc Li Lf Ln Lx w →
   Calls Tryz.prog 132 #[.pointer (some ⟨m,0,none⟩),ev e ad cap] w fun x w'=>x=.returned (.agg #[.int .i64 (Kf (Qj env) e).1,.int .i64 (Kf (Qj env) e).2])∧Below w.heap.size w w':=by
 intro M
 induction M with
 | zero=>intro e h;omega
 | succ M ih =>
  intro e hM hex w ad cap hae hmk
  have hlm:=hmk.lt
  have hlow:=hmk.low
  have hw0:=hlow.size
  obtain⟨⟨z0,z1,z2,z3,z4,z5,z6,z7,z8⟩,zf⟩:=YL (show w.heap[m]?=_ from hmk.box)
  by_cases hk1:e.k=1
  ·obtain⟨c,hcc⟩:∃c,Qj env e.nm=c:=⟨_,rfl⟩
   have hce:Kf (Qj env) e=c:=by
    unfold Kf Zam
    rw[Z2 hk1,hcc]
   rw[hce]
   have hg:(Y0 e.nm Lc).getD (cvv (0,0))=cvv c:=by
    rw[hC e.nm,←hcc]
    unfold Qj
    cases env e.nm<;>rfl
   clear hce hcc
   skip
   obtain⟨k,nm,n,d,args,a⟩:=e
   simp only at hk1 hg
   subst hk1
   have HG:=hid hg
   have HC:=hid hmk.c
   unfold ev
   simp only
   clear ih hC hae hmk hg hex
   go_enter Tryz.func132,Tryz.ntmps132
   go_wp2
   obtain⟨W2,hW2⟩:∃W2,(w.alloc (.cells #[.int .i64 1,.string nm,.int .i64 n,.int .i64 d,.slice ad args.len cap,.int .i64 a] 88)).alloc (.cells #[.int .i64 0,.int .i64 0] 62)=W2:=⟨_,rfl⟩
   rw[hW2]
   have hB:Below w.heap.size w W2:=by rw[←hW2];exact bq
   have hb0:W2.heap[w.heap.size]?=some (.cells #[.int .i64 1,.string nm,.int .i64 n,.int .i64 d,.slice ad args.len cap,.int .i64 a] 88 (0,0)):=by rw[←hW2];exact(Za _ _ _ (by simp)).trans (Yp w _)
   have hb1:W2.heap[w.heap.size+1]?=some (.cells #[.int .i64 0,.int .i64 0] 62 (0,0)):=by rw[←hW2];simpa using Yp (w.alloc (.cells #[.int .i64 1,.string nm,.int .i64 n,.int .i64 d,.slice ad args.len cap,.int .i64 a] 88)) (.cells #[.int .i64 0,.int .i64 0] 62)
   have hbm:=(hB.cell (p:=⟨m,4,none⟩) hlm).trans z4
   obtain⟨⟨x0,x1,x2,x3,x4,x5⟩,xf⟩:=vb hb0
   obtain⟨⟨q0,q1⟩,qf⟩:=YB hb1
   have HB:=hid hB
   have HC2:=hid (HC.out.below hB)
   clear hW2 hB hb0 z0 z1 z2 z3 z4 z5 z6 z7 z8 zf
   refine wp_region_still_tail 7 kq kq ?_
   simp only[List.take_succ_cons,List.take_zero,List.drop_succ_cons,List.drop_zero]
   repeat still_step
   refine QG Qu _ rfl _ _ false rfl mc Lc nm rfl rfl HC2.out (cvv c) ?_ ?_
   ·exact HG.out
   repeat still_step
   try refine wpStill_nil ?_
   change wpList _ _ _ _ _ W2.drew
   unfold cvv
   go_wp2
   refine Zl (v:=.agg #[.int .i64 c.1,.int .i64 c.2]) ?_ rfl ⟨rfl,?_⟩
   ·simp only[results,Tryz.results132];go_simp
   exact(((HB.out.drew).setCell (p:=⟨w.heap.size+1,0,none⟩) (ZX _ 1) _).setCell (p:=⟨w.heap.size+1,1,none⟩) (ZX _ 1) _)
  obtain⟨_,hx2,hx3⟩:=Kv hex
  have hlen1:0<e.args.len:=by
   by_cases hk2:e.k=2
   ·exact hx2 hk2
   rw[hx3 hk1 hk2];exact Nat.one_pos
  obtain⟨c,hc,_⟩:=PL.at_some e.args 0 hlen1
  have hcf:=qa (Qj env) hc
  obtain⟨⟨pp,ff⟩,hpf⟩:∃r,Kf (Qj env) e=r:=⟨_,rfl⟩
  obtain⟨⟨p1,f1⟩,hpf1⟩:∃r,Kf (Qj env) c=r:=⟨_,rfl⟩
  have hres:(if e.k=2 then p1=pp∧f1=ff else (clock.Yx p1 f1 e.k e.n e.d).1=pp∧(clock.Yx p1 f1 e.k e.n e.d).2.1=ff):=by
   unfold Kf Zam at hpf
   rw[Z1 hk1,hcf,hpf1] at hpf
   by_cases hk2:e.k=2
   ·rw[Z2 hk2] at hpf ⊢
    injection hpf with h1 h2
    exact⟨h1,h2⟩
   rw[Z1 hk2] at hpf ⊢
   injection hpf with h1 h2
   exact⟨h1,h2⟩
  rw[hpf]
  obtain⟨b,o,rfl,hb,hac⟩:∃b o,ad=some ⟨b,o,none⟩∧b<W0.heap.size∧AC W0 e.args b o:=by
   rcases hae.args with h0|h0
   ·rw[h0] at hc;cases hc
   exact h0
  obtain⟨ad2,cap2,y0,y1,y2,y3,y4,y5,hae2⟩:=jQ _ hac 0 c hc
  rw[Nat.zero_mul,Nat.add_zero] at y0 y1 y2 y3 y4 y5
  have hHC:=ih c (by have:=(UW _ _ _ hc).2;omega) (JY hex hc)
  rw[hpf1] at hHC
  have HC:=hid (fun(w':World) (hb:Below w.heap.size w w')=>hHC w' ad2 cap2 hae2 (hmk.grow hb))
  have hl0:(0:Int)<(e.args.len:Int):=by have:=(UW _ _ _ hc).1;omega
  have HLOW:=hid hlow
  obtain⟨k,nm,n,d,args,a⟩:=e
  obtain⟨k5,nm5,n5,d5,args5,a5⟩:=c
  unfold ev at *
  simp only at hk1 hl0 hres y0 y1 y2 y3 y4 y5 HC ⊢
  have hk1':(k == 1)=false:=ZY.2 hk1
  have HRES:=hid hres
  have hbw:b<w.heap.size:=oq
  have e0:=(hlow.cell (p:=⟨b,o,none⟩) hb).trans y0
  have e1:=(hlow.cell (p:=⟨b,o+1,none⟩) hb).trans y1
  have e2:=(hlow.cell (p:=⟨b,o+2,none⟩) hb).trans y2
  have e3:=(hlow.cell (p:=⟨b,o+3,none⟩) hb).trans y3
  have e4:=(hlow.cell (p:=⟨b,o+4,none⟩) hb).trans y4
  have e5:=(hlow.cell (p:=⟨b,o+5,none⟩) hb).trans y5
  clear ih hC hae hmk hex hac hae2 hHC hc hres hcf hpf hpf1 hx2 hx3 hlen1 z0 z1 z2 z3 z4 z5 z6 z7 z8 zf y0 y1 y2 y3 y4 y5 hlow
  by_cases hk2:k=2
  ·subst hk2
   have hr:=HRES.out
   rw[Z2 rfl] at hr
   obtain⟨rfl,rfl⟩:=hr
   clear HRES
   go_enter Tryz.func132,Tryz.ntmps132
   go_wp2_with (go_at_call 132;refine(HC.out _ bq).mono ?_;rintro x w1 ⟨rfl,hb1⟩;obtain⟨hc1,hf1⟩:=Yu hb1;have a1:w.heap.size+1<w1.heap.size:=Yr hb1 (by simp))
   refine Zl (v:=.agg #[.int .i64 p1,.int .i64 f1]) ?_ rfl ⟨rfl,bq⟩
   simp only[results,Tryz.results132];go_simp
  have hk2':(k == 2)=false:=ZY.2 hk2
  have hr:=HRES.out
  rw[Z1 hk2] at hr
  obtain⟨r1,r2⟩:=hr
  have HAP:=hid (fun(w':World)=>clock.UC p1 f1 k n d w')
  obtain⟨er,her⟩:∃er,(clock.Yx p1 f1 k n d).2.2=er:=⟨_,rfl⟩
  have hans:clock.zU (clock.Yx p1 f1 k n d)=.tuple #[.agg #[.int .i64 pp,.int .i64 ff],.int .i64 er]:=by
   unfold clock.zU clock.Kd
   rw[her,r1,r2]
  rw[hans] at HAP
  have HOP:=hid (fun(w':World)=>Um (w:=w') ⟨k,nm,n,d,args,a⟩ (some ⟨b,o,none⟩) cap)
  unfold ev at HOP
  simp only at HOP
  clear HRES r1 r2 hans her
  go_enter Tryz.func132,Tryz.ntmps132
  go_upto_region 6 with fail
  obtain⟨W2,hW2⟩:∃W2,(w.alloc (.cells #[.int .i64 k,.string nm,.int .i64 n,.int .i64 d,.slice (some ⟨b,o,none⟩) args.len cap,.int .i64 a] 88)).alloc (.cells #[.int .i64 0,.int .i64 0] 62)=W2:=⟨_,rfl⟩
  rw[hW2]
  have hB:Below w.heap.size w W2:=by rw[←hW2];exact bq
  have hs2:W2.heap.size=w.heap.size+2:=by rw[←hW2];simp
  have hq0:W2.heap[w.heap.size]?=some (.cells #[.int .i64 k,.string nm,.int .i64 n,.int .i64 d,.slice (some ⟨b,o,none⟩) args.len cap,.int .i64 a] 88 (0,0)):=by rw[←hW2];exact(Za _ _ _ (by simp)).trans (Yp w _)
  have hq1:W2.heap[w.heap.size+1]?=some (.cells #[.int .i64 0,.int .i64 0] 62 (0,0)):=by rw[←hW2];simpa using Yp (w.alloc (.cells #[.int .i64 k,.string nm,.int .i64 n,.int .i64 d,.slice (some ⟨b,o,none⟩) args.len cap,.int .i64 a] 88)) (.cells #[.int .i64 0,.int .i64 0] 62)
  obtain⟨⟨x0,x1,x2,x3,x4,x5⟩,xf⟩:=vb hq0
  obtain⟨⟨q0,q1⟩,qf⟩:=YB hq1
  have g0:=(hB.cell (p:=⟨b,o,none⟩) hbw).trans e0
  have g1:=(hB.cell (p:=⟨b,o+1,none⟩) hbw).trans e1
  have g2:=(hB.cell (p:=⟨b,o+2,none⟩) hbw).trans e2
  have g3:=(hB.cell (p:=⟨b,o+3,none⟩) hbw).trans e3
  have g4:=(hB.cell (p:=⟨b,o+4,none⟩) hbw).trans e4
  have g5:=(hB.cell (p:=⟨b,o+5,none⟩) hbw).trans e5
  have HB:=hid hB
  have lb0:b<W2.heap.size:=oq
  have lb1:w.heap.size<W2.heap.size:=oq
  have lb2:w.heap.size+1<W2.heap.size:=oq
  have HQ1:=hid hq1
  clear hW2 hB hq0 hq1 e0 e1 e2 e3 e4 e5 hs2
  have hl0n:0<args.len:=oq
  have lb3:b<W2.heap.size+1:=oq
  have lb4:w.heap.size<W2.heap.size+1:=oq
  have lb5:w.heap.size≤W2.heap.size:=oq
  have lb6:b≤W2.heap.size:=oq
  have hl0m:¬args.len=0:=oq
  go_cut [5] (fun s5 W=>Hid (∃X,s5=.pointer (some ⟨X,0,none⟩)∧W2.heap.size≤X∧W.heap[X]?=some (.cells #[.int .i64 pp,.int .i64 ff] 62 (0,0))∧Below W2.heap.size W2 W))
  case first =>
   go_region_law (go_simp;first|(go_at_call 132;refine(HC.out _ bq).mono ?_;rintro x w1 ⟨rfl,hb1⟩;have hz_w1:W2.heap.size≤w1.heap.size:=(by have h:=hb1.size;first|exact h|(simp at h;omega)|omega);have la_w1:b<w1.heap.size:=oq;have lb_w1:w.heap.size<w1.heap.size:=oq;have kx_w1:=(fun o=>hb1.cell (p:=⟨w.heap.size,o,none⟩) (by first|assumption|(simp;done)|(simp;omega)|omega));have ky_w1:=(fun o=>hb1.cell (p:=⟨b,o,none⟩) (by first|assumption|(simp;done)|(simp;omega)|omega));first|(have hcb:=(hb1.block _ (Zb hca)).trans hca;clear hca;have hca:=hcb;clear hcb;have hcc:=YB hca;obtain⟨⟨v0,v1⟩,vf⟩:=hcc)|(have hca:w1.heap[W2.heap.size]?=some (.cells #[.int .i64 0,.int .i64 0] 62 (0,0)):=(hb1.block W2.heap.size (by simp)).trans (Yp W2.drew _);have hcc:=YB hca;obtain⟨⟨v0,v1⟩,vf⟩:=hcc)|(have hca:w1.heap[w3.heap.size]?=some (.cells #[.int .i64 0,.int .i64 0] 62 (0,0)):=(hb1.block w3.heap.size (by simp)).trans (Yp w3 _);have hcc:=YB hca;obtain⟨⟨v0,v1⟩,vf⟩:=hcc)|skip)|(go_at_call 133;refine(HOP.out _).mono ?_;rintro x w3 ⟨rfl,hb3⟩;have hz_w3:W2.heap.size≤w3.heap.size:=(by have h:=hb3.size;first|exact h|(simp at h;omega)|omega);have la_w3:b<w3.heap.size:=oq;have lb_w3:w.heap.size<w3.heap.size:=oq;have kx_w3:=(fun o=>hb3.cell (p:=⟨w.heap.size,o,none⟩) (by first|assumption|(simp;done)|(simp;omega)|omega));have ky_w3:=(fun o=>hb3.cell (p:=⟨b,o,none⟩) (by first|assumption|(simp;done)|(simp;omega)|omega));first|(have hcb:=(hb3.block _ (Zb hca)).trans hca;clear hca;have hca:=hcb;clear hcb;have hcc:=YB hca;obtain⟨⟨v0,v1⟩,vf⟩:=hcc)|(have hca:w3.heap[W2.heap.size]?=some (.cells #[.int .i64 0,.int .i64 0] 62 (0,0)):=(hb3.block W2.heap.size (by simp)).trans (Yp W2.drew _);have hcc:=YB hca;obtain⟨⟨v0,v1⟩,vf⟩:=hcc)|(have hca:w3.heap[w1.heap.size]?=some (.cells #[.int .i64 0,.int .i64 0] 62 (0,0)):=(hb3.block w1.heap.size (by simp)).trans (Yp w1 _);have hcc:=YB hca;obtain⟨⟨v0,v1⟩,vf⟩:=hcc)|skip)|(go_at_call 77;refine(HAP.out _).mono ?_;rintro x w4 ⟨rfl,hb4⟩;have hz_w4:W2.heap.size≤w4.heap.size:=(by have h:=hb4.size;first|exact h|(simp at h;omega)|omega);have la_w4:b<w4.heap.size:=oq;have lb_w4:w.heap.size<w4.heap.size:=oq;have kx_w4:=(fun o=>hb4.cell (p:=⟨w.heap.size,o,none⟩) (by first|assumption|(simp;done)|(simp;omega)|omega));have ky_w4:=(fun o=>hb4.cell (p:=⟨b,o,none⟩) (by first|assumption|(simp;done)|(simp;omega)|omega));first|(have hcb:=(hb4.block _ (Zb hca)).trans hca;clear hca;have hca:=hcb;clear hcb;have hcc:=YB hca;obtain⟨⟨v0,v1⟩,vf⟩:=hcc)|(have hca:w4.heap[W2.heap.size]?=some (.cells #[.int .i64 0,.int .i64 0] 62 (0,0)):=(hb4.block W2.heap.size (by simp)).trans (Yp W2.drew _);have hcc:=YB hca;obtain⟨⟨v0,v1⟩,vf⟩:=hcc)|(have hca:w4.heap[w1.heap.size]?=some (.cells #[.int .i64 0,.int .i64 0] 62 (0,0)):=(hb4.block w1.heap.size (by simp)).trans (Yp w1 _);have hcc:=YB hca;obtain⟨⟨v0,v1⟩,vf⟩:=hcc)|(have hca:w4.heap[w3.heap.size]?=some (.cells #[.int .i64 0,.int .i64 0] 62 (0,0)):=(hb4.block w3.heap.size (by simp)).trans (Yp w3 _);have hcc:=YB hca;obtain⟨⟨v0,v1⟩,vf⟩:=hcc)|skip))
   all_goals
    go_wp2_with fail
    go_meet
    first|exact⟨_,rfl,(by first|exact Zc _|assumption|(simp;done)|omega),ZbE hca _ _,bq⟩|exact⟨_,rfl,(by first|exact Zc _|assumption|(simp;done)|omega),Yp _ _,bq⟩
  obtain⟨X,rfl,hX,hXb,hBX⟩:=hcut.out
  clear hcut
  obtain⟨W3,rfl⟩:∃W3:World,W3=wc:=⟨_,rfl⟩
  obtain⟨⟨r0,r1⟩,rf⟩:=YB hXb
  have hq3:=(hBX.block _ lb2).trans HQ1.out
  clear q0 q1 qf x0 x1 x2 x3 x4 x5 xf g0 g1 g2 g3 g4 g5
  obtain⟨⟨q0,q1⟩,qf⟩:=YB hq3
  have HBX:=hid (HB.out.trans (hBX.mono oq))
  clear hq3 hXb hBX
  go_wp2
  refine Zl (v:=.agg #[.int .i64 pp,.int .i64 ff]) ?_ rfl ⟨rfl,(HBX.out.setCell (p:=⟨w.heap.size+1,0,none⟩) (ZX _ 1) _).setCell (p:=⟨w.heap.size+1,1,none⟩) (ZX _ 1) _⟩
  simp only[results,Tryz.results132];go_simp
theorem Er {w:World} (n:Int):Calls Tryz.prog 59 #[.int .i64 n] w fun x w'=>x=.returned (.bool (decide (1≤n∧n≤1000)))∧w=w':=by
 by_cases h1:1≤n
 ·by_cases h2:n≤1000
  ·rw[Z0 (Zh h1 h2)]
   go_enter Tryz.func59,Tryz.ntmps59
   go_wp2
   go_ret
   exact⟨rfl,rfl⟩
  rw[ZZ (fun h=>h2 h.2)]
  go_enter Tryz.func59,Tryz.ntmps59
  go_wp2
  go_ret
  exact⟨rfl,rfl⟩
 rw[ZZ (fun h=>h1 h.1)]
 go_enter Tryz.func59,Tryz.ntmps59
 go_wp2
 go_ret
 exact⟨rfl,rfl⟩
theorem kA {w:World} {l:List Op3} {ad:Option Addr} (h:Row OpR 3 w l ad):∀k,k<l.length→∃b off,ad=some ⟨b,off,none⟩∧b<w.heap.size∧w.cell? ⟨b,off+k*3,none⟩=some (.int .i64 (l.getD k (0,0,0)).1)∧w.cell? ⟨b,off+k*3+1,none⟩=some (.int .i64 (l.getD k (0,0,0)).2.1)∧w.cell? ⟨b,off+k*3+2,none⟩=some (.int .i64 (l.getD k (0,0,0)).2.2):=by
 intro k hk
 obtain⟨b,o,e,hb,h0,h1,h2⟩:=h.at hk
 have hg:l.getD k (0,0,0)=l[k]:=by rw[Zf,Ze hk];rfl
 rw[hg]
 exact⟨b,o,e,hb,h0,h1,h2⟩
theorem kH {w:World} (p f:Int) (l:List Op3) (ad:Option Addr) (cap:Nat) (h:Row OpR 3 w l ad) (hl:l.length≤1000) :
  Calls Tryz.prog 106 #[.agg #[.int .i64 p,.int .i64 f],.slice ad l.length cap] w fun x w'=>x=.returned (clock.zU (clock.xz p f l))∧Below w.heap.size w w':=by
 unfold clock.xz
 by_cases hr:1≤p∧p≤2000∧0≤f∧f≤2000
 ·rw[Z2 (clock.XL hr)]
  exact clock.Zax p f ad cap l w hr oq (kA h)
 rw[Z1 (by rw[clock.V2 hr];simp)]
 exact clock.uL p f _ w hr
def X0 (f:FD) (a:AD) (cp cf:Int):Bool:=match JB f a.src with
 | none=>false
 | some s=>decide (a.ops.length≤20)&&(decide ((clock.xz s.1 s.2 a.ops).2.2=0)&&(decide ((clock.xz s.1 s.2 a.ops).1=cp)&&decide ((clock.xz s.1 s.2 a.ops).2.1=cf)))
theorem EH {w:World} (f:FD) (ai an aT al:Option Addr) (ci cn ct cl:Nat) (hf:FAP w f ai an aT al) (a:AD) (ad:Option Addr) (cap:Nat) (cp cf:Int) (h64:I64 a.src) (hr:Row OpR 3 w a.ops ad) (hl:a.ops.length≤1000) :
  Calls Tryz.prog 61 #[fv f ai an aT al ci cn ct cl,.agg #[.int .i64 a.src,.slice ad a.ops.length cap],.agg #[.int .i64 cp,.int .i64 cf]] w fun x w'=>x=.returned (.bool (X0 f a cp cf))∧Below w.heap.size w w':=by
 have HS:=hid (fun(w':World) (hb:Below w.heap.size w w')=>VD (w:=w') f ai an aT al ci cn ct cl (hf.below hb) a.src h64)
 have HA:=hid (fun(w':World) (hb:Below w.heap.size w w') p q=>kH (w:=w') p q a.ops ad cap (hr.below Uf hb) hl)
 obtain⟨ans,hans⟩:∃ans,X0 f a cp cf=ans:=⟨_,rfl⟩
 rw[hans]
 unfold X0 at hans
 clear hf hr h64
 unfold fv at *
 go_enter Tryz.func61,Tryz.ntmps61
 go_upto_region 1 with fail
 obtain⟨W2,hW2⟩:∃W2,((w.alloc (.cells #[.slice ai f.ins.length ci,.slice an f.nods.length cn,.slice aT f.tasks.length ct,.slice al f.tells.length cl] 34)).alloc (.cells #[.int .i64 a.src,.slice ad a.ops.length cap] 69)).alloc (.cells #[.int .i64 cp,.int .i64 cf] 62)=W2:=⟨_,rfl⟩
 rw[hW2]
 have hB:Below w.heap.size w W2:=by rw[←hW2];exact bq
 have hs2:w.heap.size+1+1<W2.heap.size:=by rw[←hW2];simp
 have hq0:W2.heap[w.heap.size]?=some (.cells #[.slice ai f.ins.length ci,.slice an f.nods.length cn,.slice aT f.tasks.length ct,.slice al f.tells.length cl] 34 (0,0)):=by rw[←hW2];exact(Za _ _ _ (by simp;omega)).trans ((Za _ _ _ (by simp)).trans (Yp w _))
 have hq1:W2.heap[w.heap.size+1]?=some (.cells #[.int .i64 a.src,.slice ad a.ops.length cap] 69 (0,0)):=by rw[←hW2];have:=(Za _ (.cells #[.int .i64 cp,.int .i64 cf] 62) _ (by simp)).trans (Yp (w.alloc (.cells #[.slice ai f.ins.length ci,.slice an f.nods.length cn,.slice aT f.tasks.length ct,.slice al f.tells.length cl] 34)) (.cells #[.int .i64 a.src,.slice ad a.ops.length cap] 69));simpa using this
 have hq2:W2.heap[w.heap.size+1+1]?=some (.cells #[.int .i64 cp,.int .i64 cf] 62 (0,0)):=by rw[←hW2];have:=Yp ((w.alloc (.cells #[.slice ai f.ins.length ci,.slice an f.nods.length cn,.slice aT f.tasks.length ct,.slice al f.tells.length cl] 34)).alloc (.cells #[.int .i64 a.src,.slice ad a.ops.length cap] 69)) (.cells #[.int .i64 cp,.int .i64 cf] 62);simpa using this
 obtain⟨⟨x0,x1,x2,x3⟩,xf⟩:=Yq hq0
 obtain⟨⟨q0,q1⟩,qf⟩:=YB hq1
 have HB:=hid hB
 have HQ1:=hid hq1
 have HQ2:=hid hq2
 have hl1:w.heap.size+1<W2.heap.size:=oq
 clear hW2 hB hq0 hq1 hq2
 cases hs:JB f a.src with
 | none =>
  rw[hs] at HS hans
  simp only at hans
  subst hans
  unfold VR at HS
  simp only[Option.getD_none,Option.isSome_none] at HS
  go_wp2_with (go_at_call 76;refine(HS.out _ HB.out).mono ?_;rintro x w3 ⟨rfl,hb3⟩;have hz3:W2.heap.size≤w3.heap.size:=hb3.size)
  exact Zl (v:=.bool false) (by simp only[results,Tryz.results61];go_simp) rfl ⟨rfl,bq⟩
 | some s =>
  obtain⟨sp,sf⟩:=s
  rw[hs] at HS hans
  simp only at hans
  unfold VR at HS
  simp only[Z9,Option.isSome_some] at HS
  by_cases h20:a.ops.length≤20
  ·have h20d:¬(a.ops.length:Int) > 20:=oq
   obtain⟨⟨rp,rf,re⟩,hra⟩:∃r,clock.xz sp sf a.ops=r:=⟨_,rfl⟩
   have HA2:=hid (fun(w':World) (hb:Below w.heap.size w w')=>HA.out w' hb sp sf)
   rw[hra] at HA2 hans
   unfold clock.zU clock.Kd at HA2
   simp only at HA2 hans
   rw[Z0 h20,Bool.true_and] at hans
   clear HA hra hs
   by_cases hre:re=0
   ·subst hre
    rw[Z0 rfl,Bool.true_and] at hans
    by_cases h1:rp=cp
    ·subst h1
     rw[Z0 rfl,Bool.true_and] at hans
     by_cases h2:rf=cf
     ·subst h2
      rw[Z0 rfl] at hans
      subst hans
      go_wp2_with (first|(go_at_call 76;refine(HS.out _ HB.out).mono ?_;rintro x w3 ⟨rfl,hb3⟩;have hz3:W2.heap.size≤w3.heap.size:=hb3.size;obtain⟨⟨r0,r1⟩,rf3⟩:=YB ((hb3.block _ hl1).trans HQ1.out);have k3:w.heap.size+1<w3.heap.size:=oq;have k3n:¬w.heap.size+1=w3.heap.size:=oq;have HB3:=hid hb3)|(go_at_call 106;refine(HA2.out _ bq).mono ?_;rintro x w4 ⟨rfl,hb4⟩;have hz4:w3.heap.size<w4.heap.size:=(by have h:=hb4.size;simp at h;omega);have HC4:=hid ((hb4.block (w.heap.size+1+1) (by simp;omega)).trans ((Za _ _ _ oq).trans ((HB3.out.block _ hs2).trans HQ2.out)));obtain⟨⟨t0,t1⟩,tf⟩:=YB HC4.out;have k4:w.heap.size+1+1<w4.heap.size:=oq;have k4n:¬w.heap.size+1+1=w4.heap.size:=oq))
      exact Zl (v:=.bool true) (by simp only[results,Tryz.results61];go_simp) rfl ⟨rfl,bq⟩
     rw[ZZ h2] at hans
     subst hans
     have h2d:(rf == cf)=false:=ZY.2 h2
     go_wp2_with (first|(go_at_call 76;refine(HS.out _ HB.out).mono ?_;rintro x w3 ⟨rfl,hb3⟩;have hz3:W2.heap.size≤w3.heap.size:=hb3.size;obtain⟨⟨r0,r1⟩,rf3⟩:=YB ((hb3.block _ hl1).trans HQ1.out);have k3:w.heap.size+1<w3.heap.size:=oq;have k3n:¬w.heap.size+1=w3.heap.size:=oq;have HB3:=hid hb3)|(go_at_call 106;refine(HA2.out _ bq).mono ?_;rintro x w4 ⟨rfl,hb4⟩;have hz4:w3.heap.size<w4.heap.size:=(by have h:=hb4.size;simp at h;omega);have HC4:=hid ((hb4.block (w.heap.size+1+1) (by simp;omega)).trans ((Za _ _ _ oq).trans ((HB3.out.block _ hs2).trans HQ2.out)));obtain⟨⟨t0,t1⟩,tf⟩:=YB HC4.out;have k4:w.heap.size+1+1<w4.heap.size:=oq;have k4n:¬w.heap.size+1+1=w4.heap.size:=oq))
     exact Zl (v:=.bool false) (by simp only[results,Tryz.results61];go_simp) rfl ⟨rfl,bq⟩
    rw[ZZ h1,Bool.false_and] at hans
    subst hans
    have h1d:(rp == cp)=false:=ZY.2 h1
    go_wp2_with (first|(go_at_call 76;refine(HS.out _ HB.out).mono ?_;rintro x w3 ⟨rfl,hb3⟩;have hz3:W2.heap.size≤w3.heap.size:=hb3.size;obtain⟨⟨r0,r1⟩,rf3⟩:=YB ((hb3.block _ hl1).trans HQ1.out);have k3:w.heap.size+1<w3.heap.size:=oq;have k3n:¬w.heap.size+1=w3.heap.size:=oq;have HB3:=hid hb3)|(go_at_call 106;refine(HA2.out _ bq).mono ?_;rintro x w4 ⟨rfl,hb4⟩;have hz4:w3.heap.size<w4.heap.size:=(by have h:=hb4.size;simp at h;omega);have HC4:=hid ((hb4.block (w.heap.size+1+1) (by simp;omega)).trans ((Za _ _ _ oq).trans ((HB3.out.block _ hs2).trans HQ2.out)));obtain⟨⟨t0,t1⟩,tf⟩:=YB HC4.out;have k4:w.heap.size+1+1<w4.heap.size:=oq;have k4n:¬w.heap.size+1+1=w4.heap.size:=oq))
    exact Zl (v:=.bool false) (by simp only[results,Tryz.results61];go_simp) rfl ⟨rfl,bq⟩
   rw[ZZ hre,Bool.false_and] at hans
   subst hans
   have hred:(re == 0)=false:=ZY.2 hre
   go_wp2_with (first|(go_at_call 76;refine(HS.out _ HB.out).mono ?_;rintro x w3 ⟨rfl,hb3⟩;have hz3:W2.heap.size≤w3.heap.size:=hb3.size;obtain⟨⟨r0,r1⟩,rf3⟩:=YB ((hb3.block _ hl1).trans HQ1.out);have k3:w.heap.size+1<w3.heap.size:=oq;have k3n:¬w.heap.size+1=w3.heap.size:=oq;have HB3:=hid hb3)|(go_at_call 106;refine(HA2.out _ bq).mono ?_;rintro x w4 ⟨rfl,hb4⟩;have hz4:w3.heap.size<w4.heap.size:=(by have h:=hb4.size;simp at h;omega);have HC4:=hid ((hb4.block (w.heap.size+1+1) (by simp;omega)).trans ((Za _ _ _ oq).trans ((HB3.out.block _ hs2).trans HQ2.out)));obtain⟨⟨t0,t1⟩,tf⟩:=YB HC4.out;have k4:w.heap.size+1+1<w4.heap.size:=oq;have k4n:¬w.heap.size+1+1=w4.heap.size:=oq))
   exact Zl (v:=.bool false) (by simp only[results,Tryz.results61];go_simp) rfl ⟨rfl,bq⟩
  have h20d:(a.ops.length:Int) > 20:=oq
  rw[ZZ h20,Bool.false_and] at hans
  subst hans
  go_wp2_with (go_at_call 76;refine(HS.out _ HB.out).mono ?_;rintro x w3 ⟨rfl,hb3⟩;have hz3:W2.heap.size≤w3.heap.size:=hb3.size;obtain⟨⟨r0,r1⟩,rf3⟩:=YB ((hb3.block _ hl1).trans HQ1.out);have k3:w.heap.size+1<w3.heap.size:=oq;have k3n:¬w.heap.size+1=w3.heap.size:=oq)
  exact Zl (v:=.bool false) (by simp only[results,Tryz.results61];go_simp) rfl ⟨rfl,bq⟩
def Jk (f:FD) (t:TD):Bool:=match (if t.node<0 then none else f.nods[t.node.toNat]?) with
 | none=>false
 | some n=>decide (t.args.length≠0)&&(decide (t.args.length=n.nps)&&t.args.all (fun a=>X0 f a t.per t.ph))
theorem EK {α:Type} {f:α→Bool} {l:List α} {j:Nat} (h:j<l.length):(l.take (j+1)).all f=((l.take j).all f&&f l[j]):=by
 rw[Zv h,List.all_append]
 simp only[List.all_cons,List.all_nil,Bool.and_true]
theorem Ux {f:FD} {t:TD} (h:t.node<0∨(f.nods.length:Int)≤t.node):Jk f t=false:=by
 unfold Jk
 rcases h with h|h
 ·rw[Z2 h]
 by_cases h0:t.node<0
 ·rw[Z2 h0]
 rw[Z1 h0,Yc oq]
theorem En {f:FD} {t:TD} {k:Nat} (hk:k<f.nods.length) (h:t.node=(k:Int)):Jk f t=(decide (t.args.length≠0)&&(decide (t.args.length=f.nods[k].nps)&&t.args.all (fun a=>X0 f a t.per t.ph))):=by
 unfold Jk
 rw[h,Z1 oq,ZQ,Ze hk]
theorem GZ {w:World} (f:FD) (ai an aT al:Option Addr) (ci cn ct cl:Nat) (hf:FAP w f ai an aT al) (t:TD) (ad:Option Addr) (cap:Nat) (hr:Row qb 2 w t.args ad) (hl:t.args.length≤1000) (ha:∀a∈t.args,a.ops.length≤1000∧I64 a.src) :
  Calls Tryz.prog 60 #[fv f ai an aT al ci cn ct cl,.agg #[.int .i64 t.node,.int .i64 t.per,.int .i64 t.ph,.slice ad t.args.length cap]] w fun x w'=>x=.returned (.bool (Jk f t))∧Below w.heap.size w w':=by
 have hlens:=hf.lens
 have HCO:=hid (fun(w':World) (hb:Below w.heap.size w w') (a:AD) ad2 cap2 (hra:Row OpR 3 w' a.ops ad2) (h1:a.ops.length≤1000∧I64 a.src)=>EH (w:=w') f ai an aT al ci cn ct cl (hf.below hb) a ad2 cap2 t.per t.ph h1.2 hra h1.1)
 have HND:=hid hf.nods
 have HR:=hid hr
 have HA:=hid ha
 obtain⟨ans,hans⟩:∃ans,Jk f t=ans:=⟨_,rfl⟩
 rw[hans]
 obtain⟨nd,hnd⟩:∃nd,t.node=nd:=⟨_,rfl⟩
 have HND2:=hid hnd
 rw[hnd]
 clear hf hr ha hnd
 unfold fv at *
 go_enter Tryz.func60,Tryz.ntmps60
 go_upto_region 1 with fail
 obtain⟨W2,hW2⟩:∃W2,(w.alloc (.cells #[.slice ai f.ins.length ci,.slice an f.nods.length cn,.slice aT f.tasks.length ct,.slice al f.tells.length cl] 34)).alloc (.cells #[.int .i64 nd,.int .i64 t.per,.int .i64 t.ph,.slice ad t.args.length cap] 65)=W2:=⟨_,rfl⟩
 rw[hW2]
 have hB:Below w.heap.size w W2:=by rw[←hW2];exact bq
 have hs2:w.heap.size+1<W2.heap.size:=by rw[←hW2];simp
 have hq0:W2.heap[w.heap.size]?=some (.cells #[.slice ai f.ins.length ci,.slice an f.nods.length cn,.slice aT f.tasks.length ct,.slice al f.tells.length cl] 34 (0,0)):=by rw[←hW2];exact(Za _ _ _ (by simp)).trans (Yp w _)
 have hq1:W2.heap[w.heap.size+1]?=some (.cells #[.int .i64 nd,.int .i64 t.per,.int .i64 t.ph,.slice ad t.args.length cap] 65 (0,0)):=by rw[←hW2];simpa using Yp (w.alloc (.cells #[.slice ai f.ins.length ci,.slice an f.nods.length cn,.slice aT f.tasks.length ct,.slice al f.tells.length cl] 34)) (.cells #[.int .i64 nd,.int .i64 t.per,.int .i64 t.ph,.slice ad t.args.length cap] 65)
 obtain⟨⟨x0,x1,x2,x3⟩,xf⟩:=Yq hq0
 obtain⟨⟨q0,q1,q2,q3⟩,qf⟩:=Yq hq1
 have HB:=hid hB
 have HQ0:=hid hq0
 have HQ1:=hid hq1
 have hl0:w.heap.size<W2.heap.size:=oq
 clear hW2 hB hq0 hq1
 by_cases h0:nd<0
 ·obtain rfl:ans=false:=hans.symm.trans (Ux (.inl (by rw[HND2.out];exact h0)))
  clear hans
  go_wp2
  exact Zl (v:=.bool false) (by simp only[results,Tryz.results60];go_simp) rfl ⟨rfl,bq⟩
 by_cases h1:(f.nods.length:Int)≤nd
 ·obtain rfl:ans=false:=hans.symm.trans (Ux (.inr (by rw[HND2.out];exact h1)))
  have h1d:nd≥(f.nods.length:Int):=h1
  clear hans
  go_wp2
  exact Zl (v:=.bool false) (by simp only[results,Tryz.results60];go_simp) rfl ⟨rfl,bq⟩
 have h1d:¬nd≥(f.nods.length:Int):=h1
 obtain⟨k,rfl⟩:∃k:Nat,nd=(k:Int):=⟨nd.toNat,oq⟩
 have hk:k<f.nods.length:=oq
 have hk0:(0:Int)≤(k:Int):=oq
 have hk1:(k:Int)<(f.nods.length:Int):=oq
 rw[En hk HND2.out] at hans
 obtain⟨b,o,rfl,hb,nm,pa,pc,k9,nm2,n2,d2,ea,el,ec,a2,a9,_,y1,_⟩:=HND.out.at hk
 obtain⟨np,hnp⟩:∃np,f.nods[k].nps=np:=⟨_,rfl⟩
 rw[hnp] at y1 hans
 have y2:=(HB.out.cell (p:=⟨b,o+k*10+1,none⟩) hb).trans y1
 clear y1 hnp
 by_cases h2:t.args.length=0
 ·obtain rfl:ans=false:=by rw[←hans,ZZ (fun h=>h h2),Bool.false_and]
  have h2d:((t.args.length:Int) == 0)=true:=by rw[h2];rfl
  have h2e:(t.args.length:Int)=0:=oq
  clear hans
  go_wp2
  go_quiet (fail)
  go_wp2
  exact Zl (v:=.bool false) (by simp only[results,Tryz.results60];go_simp) rfl ⟨rfl,bq⟩
 rw[Z0 h2,Bool.true_and] at hans
 have h2d:((t.args.length:Int) == 0)=false:=ZY.2 oq
 have h2e:¬(t.args.length:Int)=0:=oq
 by_cases h3:t.args.length=np
 ·rw[Z0 h3,Bool.true_and] at hans
  subst h3
  have h3d:((t.args.length:Int) != (t.args.length:Int))=false:=by simp
  have HANS:=hid hans
  clear hans
  go_wp2
  go_quiet (fail)
  go_wp2
  go_loopw [39] (fun s39 wr=>Hid (∃i:Nat,s39=.int .i64 (i:Int)∧i≤t.args.length∧(t.args.take i).all (fun a=>X0 f a t.per t.ph)=true∧Below W2.heap.size W2 wr)) (fun s39 _=>t.args.length-(intOf s39).toNat)
  case atStart=>exact⟨0,rfl,Zk _,by simp,bq⟩
  obtain⟨i,rfl,hi,hall,hbw⟩:=hrel.out
  clear hrel x0 x1 x2 x3 xf q0 q1 q2 q3 qf y2
  have hzw:=hbw.size
  have HBW:=hid hbw
  have HALL:=hid hall
  have HWW:=hid (HB.out.trans (hbw.mono oq))
  obtain⟨⟨x0,x1,x2,x3⟩,xf⟩:=Yq ((hbw.block _ hl0).trans HQ0.out)
  obtain⟨⟨q0,q1,q2,q3⟩,qf⟩:=Yq ((hbw.block _ hs2).trans HQ1.out)
  have hj0:w.heap.size<wr.heap.size:=oq
  have hj1:w.heap.size+1<wr.heap.size:=oq
  clear hall hbw
  by_cases hlt:i<t.args.length
  ·have hil:(i:Int)<(t.args.length:Int):=oq
   have hi0:(0:Int)≤(i:Int):=oq
   obtain⟨bb,oo,rfl,hbb0,g0,ad2,cap2,g1,hro⟩:=HR.out.at hlt
   have hA:=HA.out _ (Zi hlt)
   obtain⟨⟨src,ops⟩,hai⟩:∃a,t.args[i]=a:=⟨_,rfl⟩
   rw[hai] at g0 g1 hro hA
   simp only at g0 g1 hro hA
   have y0:=(HWW.out.cell (p:=⟨bb,oo+i*2,none⟩) hbb0).trans g0
   have y1:=(HWW.out.cell (p:=⟨bb,oo+i*2+1,none⟩) hbb0).trans g1
   have hHC:=fun(w':World) (hb:Below w.heap.size w w')=>HCO.out w' hb ⟨src,ops⟩ ad2 cap2 (hro.below Uf hb) hA
   have HAI:=hid hai
   have hkl:=EK (f:=fun a=>X0 f a t.per t.ph) hlt
   rw[hai,HALL.out,Bool.true_and] at hkl
   cases hfit:X0 f ⟨src,ops⟩ t.per t.ph with
   | true =>
    rw[hfit] at hHC hkl
    have HC:=hid hHC
    have HKL:=hid hkl
    clear g0 g1 hro hA hai hHC hfit hkl
    go_wp2_with (go_at_call 61;refine(HC.out _ bq).mono ?_;rintro x w6 ⟨rfl,hb6⟩)
    exact⟨hid ⟨i+1,by go_num,hlt,HKL.out,bq⟩,by simp[intOf];omega⟩
   | false =>
    rw[hfit] at hHC
    have HC:=hid hHC
    obtain rfl:ans=false:=by
     rw[←HANS.out]
     refine Bool.eq_false_iff.2 (fun h=>?_)
     have:=List.all_eq_true.1 h _ (Zi hlt)
     rw[hai,hfit] at this
     cases this
    clear g0 g1 hro hA hai hHC hfit hkl HANS
    go_wp2_with (go_at_call 61;refine(HC.out _ bq).mono ?_;rintro x w6 ⟨rfl,hb6⟩)
    exact Zl (v:=.bool false) (by simp only[results,Tryz.results60];go_simp) rfl ⟨rfl,bq⟩
  have hil:¬(i:Int)<(t.args.length:Int):=oq
  obtain rfl:ans=true:=by
   rw[←HANS.out,←HALL.out,List.take_of_length_le oq]
  clear HANS
  go_wp2
  exact Zl (v:=.bool true) (by simp only[results,Tryz.results60];go_simp) rfl ⟨rfl,bq⟩
 obtain rfl:ans=false:=by rw[←hans,ZZ h3,Bool.false_and]
 have h3d:((t.args.length:Int) != (np:Int))=true:=bne_iff_ne.2 oq
 clear hans
 go_wp2
 go_quiet (fail)
 go_wp2
 exact Zl (v:=.bool false) (by simp only[results,Tryz.results60];go_simp) rfl ⟨rfl,bq⟩
end Go.Proofs.YtgigilkpndhddaaGreatDoor.syn
